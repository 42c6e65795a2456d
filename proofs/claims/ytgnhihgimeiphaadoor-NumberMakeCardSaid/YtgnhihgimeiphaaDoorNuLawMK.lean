/-
  The law NumberMake returns true for all arguments, in every world that holds the library's table.
-/
import Derived.Test.YtgnhihgimeiphaaDoorNuNm
import Derived.Deep.RegionHeld3
namespace Go.Proofs.YtgnhihgimeiphaaDoor.Nu
open Go.RowKit

set_option maxRecDepth 100000 in
set_option maxHeartbeats 4000000 in
theorem MK_ok (n d p q rn rd : Int) (b : Bool) (w : World) (ht : Tb w)
    (CM : Cl 14 #[.int .i64 n, .int .i64 d] (.tuple #[.agg #[.int .i64 rn, .int .i64 rd], .int .i64 0]))
    (CR : Cl 15 #[.int .i64 n, .int .i64 d] (.tuple #[.agg #[.int .i64 rn, .int .i64 rd], .int .i64 0]))
    (CV : Cl 16 #[.agg #[.int .i64 p, .int .i64 q]] (.bool b))
    (CW : Cl 17 #[.agg #[.int .i64 p, .int .i64 q]] (.bool b))
    (CX : Cl 16 #[.agg #[.int .i64 rn, .int .i64 rd]] (.bool true))
    : Calls Tryd.prog 3 #[.int .i64 n, .int .i64 d, .agg #[.int .i64 p, .int .i64 q]] w fun e w' => e = .returned (.bool true) ∧ Below w.heap.size w w' := by
  have eq := eq_num rn rd rn rd
  have er := eqN_refl rn rd
  go_enter Tryd.func3, Tryd.ntmps3
  go_wp2_with fail
  refine (CM _).mono ?_
  rintro e w1 ⟨rfl, hb1⟩
  have Fn : Nm w1 _ p q := new1_0 hb1
  have HB1 := Lib.hid (bl1 (Below.refl _ _) hb1)
  clear hb1
  have cn0 := Fn.c0; have cn1 := Fn.c1; have cnl := Fn.lt
  go_wp2_with fail
  refine (CR _).mono ?_
  clear cn0 cn1 cnl
  rintro e w2 ⟨rfl, hb2⟩
  have Fn := Fn.past1 hb2
  have Fx : Nm w2 _ rn rd := new1_0 hb2
  have HB2 := Lib.hid (bl1 HB1.out hb2)
  clear hb2
  have HK0 : Hk w [(w.heap.size, p, q), (w1.heap.size, rn, rd), (w2.heap.size, rn, rd)] (w2.alloc (box rn rd)) := ⟨by
    intro x hx
    simp only [List.mem_cons, List.not_mem_nil, or_false] at hx
    rcases hx with rfl | rfl | rfl
    · exact Fn.old _
    · exact Fx.old _
    · exact Nm.new w2 rn rd, ht.below (bl_a1 HB2.out _), bl_a1 HB2.out _⟩
  have cn0 := Fn.c0; have cn1 := Fn.c1; have cnl := Fn.lt
  have cx0 := Fx.c0; have cx1 := Fx.c1; have cxl := Fx.lt
  go_wp2
  clear cn0 cn1 cnl cx0 cx1 cxl
  have q0 : ∀ x : Wo w [(w.heap.size, p, q), (w1.heap.size, rn, rd), (w2.heap.size, rn, rd)], x.1.cell? ⟨w.heap.size, 0, none⟩ = some (.int .i64 p) := fun x => x.2.three.1
  have q1 : ∀ x : Wo w [(w.heap.size, p, q), (w1.heap.size, rn, rd), (w2.heap.size, rn, rd)], x.1.cell? ⟨w.heap.size, 1, none⟩ = some (.int .i64 q) := fun x => x.2.three.2.1
  have q2 : ∀ x : Wo w [(w.heap.size, p, q), (w1.heap.size, rn, rd), (w2.heap.size, rn, rd)], x.1.cell? ⟨w1.heap.size, 0, none⟩ = some (.int .i64 rn) := fun x => x.2.three.2.2.1
  have q3 : ∀ x : Wo w [(w.heap.size, p, q), (w1.heap.size, rn, rd), (w2.heap.size, rn, rd)], x.1.cell? ⟨w1.heap.size, 1, none⟩ = some (.int .i64 rd) := fun x => x.2.three.2.2.2.1
  have q4 : ∀ x : Wo w [(w.heap.size, p, q), (w1.heap.size, rn, rd), (w2.heap.size, rn, rd)], x.1.cell? ⟨w2.heap.size, 0, none⟩ = some (.int .i64 rn) := fun x => x.2.three.2.2.2.2.1
  have q5 : ∀ x : Wo w [(w.heap.size, p, q), (w1.heap.size, rn, rd), (w2.heap.size, rn, rd)], x.1.cell? ⟨w2.heap.size, 1, none⟩ = some (.int .i64 rd) := fun x => x.2.three.2.2.2.2.2.1
  cases b
  all_goals
    have ne : Nonempty (Wo w [(w.heap.size, p, q), (w1.heap.size, rn, rd), (w2.heap.size, rn, rd)]) := ⟨⟨_, HK0.drew⟩⟩
    refine region_cls (C := fun W => ∃ x : Wo w [(w.heap.size, p, q), (w1.heap.size, rn, rd), (w2.heap.size, rn, rd)], W = x.1) (by kernel_rfl) (by kernel_rfl) ⟨⟨_, HK0.drew⟩, rfl⟩ ?_
    repeat (go_big_quiet_step ((first | (go_at_call 16; with_reducible exact cl_wo CV _) | (go_at_call 16; with_reducible exact cl_wo CX _) | (go_at_call 17; with_reducible exact cl_wo CW _) | (go_at_call 18; with_reducible exact known_wo _))))
    refine wpQuiet_nil ?_
    intro w' hw'
    obtain ⟨x, rfl⟩ := hw'
    go_wp2
    go_ret
    exact ⟨rfl, x.2.bl⟩
set_option maxRecDepth 100000 in
set_option maxHeartbeats 4000000 in
theorem MK_err (n d p q rn rd re : Int) (b : Bool) (w : World) (ht : Tb w)
    (h0 : re ≠ 0)
    (CM : Cl 14 #[.int .i64 n, .int .i64 d] (.tuple #[.agg #[.int .i64 rn, .int .i64 rd], .int .i64 re]))
    (CR : Cl 15 #[.int .i64 n, .int .i64 d] (.tuple #[.agg #[.int .i64 rn, .int .i64 rd], .int .i64 re]))
    (CV : Cl 16 #[.agg #[.int .i64 p, .int .i64 q]] (.bool b))
    (CW : Cl 17 #[.agg #[.int .i64 p, .int .i64 q]] (.bool b))
    : Calls Tryd.prog 3 #[.int .i64 n, .int .i64 d, .agg #[.int .i64 p, .int .i64 q]] w fun e w' => e = .returned (.bool true) ∧ Below w.heap.size w w' := by
  have eq := eq_num rn rd rn rd
  have er := eqN_refl rn rd
  have d1 : (re != 0) = true := by rw [bne_iff_ne]; exact h0
  clear h0
  go_enter Tryd.func3, Tryd.ntmps3
  go_wp2_with fail
  refine (CM _).mono ?_
  rintro e w1 ⟨rfl, hb1⟩
  have Fn : Nm w1 _ p q := new1_0 hb1
  have HB1 := Lib.hid (bl1 (Below.refl _ _) hb1)
  clear hb1
  have cn0 := Fn.c0; have cn1 := Fn.c1; have cnl := Fn.lt
  go_wp2_with fail
  refine (CR _).mono ?_
  clear cn0 cn1 cnl
  rintro e w2 ⟨rfl, hb2⟩
  have Fn := Fn.past1 hb2
  have Fx : Nm w2 _ rn rd := new1_0 hb2
  have HB2 := Lib.hid (bl1 HB1.out hb2)
  clear hb2
  have HK0 : Hk w [(w.heap.size, p, q), (w1.heap.size, rn, rd), (w2.heap.size, rn, rd)] (w2.alloc (box rn rd)) := ⟨by
    intro x hx
    simp only [List.mem_cons, List.not_mem_nil, or_false] at hx
    rcases hx with rfl | rfl | rfl
    · exact Fn.old _
    · exact Fx.old _
    · exact Nm.new w2 rn rd, ht.below (bl_a1 HB2.out _), bl_a1 HB2.out _⟩
  have cn0 := Fn.c0; have cn1 := Fn.c1; have cnl := Fn.lt
  have cx0 := Fx.c0; have cx1 := Fx.c1; have cxl := Fx.lt
  go_wp2
  clear cn0 cn1 cnl cx0 cx1 cxl
  have q0 : ∀ x : Wo w [(w.heap.size, p, q), (w1.heap.size, rn, rd), (w2.heap.size, rn, rd)], x.1.cell? ⟨w.heap.size, 0, none⟩ = some (.int .i64 p) := fun x => x.2.three.1
  have q1 : ∀ x : Wo w [(w.heap.size, p, q), (w1.heap.size, rn, rd), (w2.heap.size, rn, rd)], x.1.cell? ⟨w.heap.size, 1, none⟩ = some (.int .i64 q) := fun x => x.2.three.2.1
  have q2 : ∀ x : Wo w [(w.heap.size, p, q), (w1.heap.size, rn, rd), (w2.heap.size, rn, rd)], x.1.cell? ⟨w1.heap.size, 0, none⟩ = some (.int .i64 rn) := fun x => x.2.three.2.2.1
  have q3 : ∀ x : Wo w [(w.heap.size, p, q), (w1.heap.size, rn, rd), (w2.heap.size, rn, rd)], x.1.cell? ⟨w1.heap.size, 1, none⟩ = some (.int .i64 rd) := fun x => x.2.three.2.2.2.1
  have q4 : ∀ x : Wo w [(w.heap.size, p, q), (w1.heap.size, rn, rd), (w2.heap.size, rn, rd)], x.1.cell? ⟨w2.heap.size, 0, none⟩ = some (.int .i64 rn) := fun x => x.2.three.2.2.2.2.1
  have q5 : ∀ x : Wo w [(w.heap.size, p, q), (w1.heap.size, rn, rd), (w2.heap.size, rn, rd)], x.1.cell? ⟨w2.heap.size, 1, none⟩ = some (.int .i64 rd) := fun x => x.2.three.2.2.2.2.2.1
  cases b
  all_goals
    have ne : Nonempty (Wo w [(w.heap.size, p, q), (w1.heap.size, rn, rd), (w2.heap.size, rn, rd)]) := ⟨⟨_, HK0.drew⟩⟩
    refine region_cls (C := fun W => ∃ x : Wo w [(w.heap.size, p, q), (w1.heap.size, rn, rd), (w2.heap.size, rn, rd)], W = x.1) (by kernel_rfl) (by kernel_rfl) ⟨⟨_, HK0.drew⟩, rfl⟩ ?_
    repeat (go_big_quiet_step ((first | (go_at_call 16; with_reducible exact cl_wo CV _) | (go_at_call 17; with_reducible exact cl_wo CW _) | (go_at_call 18; with_reducible exact known_wo _))))
    refine wpQuiet_nil ?_
    intro w' hw'
    obtain ⟨x, rfl⟩ := hw'
    go_wp2
    go_ret
    exact ⟨rfl, x.2.bl⟩
theorem NumberMake_any (n d p q : Int) (w : World) (_ : I64 p) (ht : Tb w) : Calls Tryd.prog 3 #[.int .i64 n, .int .i64 d, .agg #[.int .i64 p, .int .i64 q]] w fun e w' => e = .returned (.bool true) ∧ Below w.heap.size w w' := by
  by_cases h0 : (make n d).e = 0
  · have hok : okB (make n d).n (make n d).d = true := by
      unfold make at h0 ⊢
      cases h1 : inB n <;> cases h2 : inB d <;> simp [h1, h2] at h0 ⊢
      by_cases hd : d = 0
      · simp [hd] at h0
      · simp only [hd, if_false] at h0 ⊢
        exact okB_iff.2 (fit_ok hd h0).1
    refine MK_ok n d p q (make n d).n (make n d).d (okB p q) w ht (fun w => ?_) (fun w => ?_) (Valid_any p q) (RefValid_any p q) (Valid_yes hok)
    · have := Make_any n d w; rw [h0] at this; exact this
    · have := RMake_any n d w; rw [h0] at this; exact this
  · exact MK_err n d p q (make n d).n (make n d).d (make n d).e (okB p q) w ht h0 (Make_any n d) (RMake_any n d) (Valid_any p q) (RefValid_any p q)
end Go.Proofs.YtgnhihgimeiphaaDoor.Nu
