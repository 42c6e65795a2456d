/-
  The law NumberOperations returns true for all arguments, in every world that holds the library's table.
-/
import Derived.Test.YtgnhihgimeiphaaDoorNuNm2
import Derived.Deep.RegionHeld3
namespace Go.Proofs.YtgnhihgimeiphaaDoor.Nu
open Go.RowKit

set_option maxRecDepth 100000 in
set_option maxHeartbeats 4000000 in
theorem OP_Add (a p b q op rn rd re c : Int) (w : World) (ht : Tb w)
    (hop : op % 8 = 0)
    (CM : Cl 19 #[.agg #[.int .i64 a, .int .i64 p], .agg #[.int .i64 b, .int .i64 q]] (.tuple #[.agg #[.int .i64 rn, .int .i64 rd], .int .i64 re]))
    (CR : Cl 20 #[.agg #[.int .i64 a, .int .i64 p], .agg #[.int .i64 b, .int .i64 q]] (.tuple #[.agg #[.int .i64 rn, .int .i64 rd], .int .i64 re]))
    (CC : Cl 29 #[.agg #[.int .i64 a, .int .i64 p], .agg #[.int .i64 b, .int .i64 q]] (.int .i64 c))
    (CD : Cl 30 #[.agg #[.int .i64 a, .int .i64 p], .agg #[.int .i64 b, .int .i64 q]] (.int .i64 c))
    : Calls Tryd.prog 4 #[.agg #[.int .i64 a, .int .i64 p], .agg #[.int .i64 b, .int .i64 q], .int .i64 op] w fun e w' => e = .returned (.bool true) ∧ Below w.heap.size w w' := by
  have eq := eq_num rn rd rn rd
  have er := eqN_refl rn rd
  have h7 := i64_and7 op
  rw [hop] at h7
  clear hop
  go_enter Tryd.func4, Tryd.ntmps4
  go_wp2_with fail
  refine (CM _).mono ?_
  rintro e w1 ⟨rfl, hb1⟩
  obtain ⟨Fa, Fb, Fx, Fy⟩ := new4 hb1
  obtain ⟨fx, fy⟩ := fz4 hb1
  have HB1 := Lib.hid (bl4 (Below.refl _ _) hb1)
  clear hb1
  have ca0 := Fa.c0; have ca1 := Fa.c1; have cal := Fa.lt
  have cb0 := Fb.c0; have cb1 := Fb.c1; have cbl := Fb.lt
  have cx0 := Fx.c0; have cx1 := Fx.c1; have cxl := Fx.lt
  have cy0 := Fy.c0; have cy1 := Fy.c1; have cyl := Fy.lt
  go_wp2_with fail
  refine (CR _).mono ?_
  clear ca0 ca1 cal cb0 cb1 cbl cx0 cx1 cxl cy0 cy1 cyl
  rintro e w2 ⟨rfl, hb2⟩
  have HB2 := Lib.hid (bl0 (bl_set HB1.out (by omega) _ _) hb2)
  have Fa := (Fa.far' (c := w.heap.size + 1 + 1) (by omega) _ _).past0 hb2
  have Fb := (Fb.far' (c := w.heap.size + 1 + 1) (by omega) _ _).past0 hb2
  have fy2 : ∀ i, w2.frozen? ⟨w.heap.size + 1 + 1 + 1, i, none⟩ = false := fun i => (hb2.frozen (p := ⟨w.heap.size + 1 + 1 + 1, i, none⟩) (by have := (Fy.far' (c := w.heap.size + 1 + 1) (by omega) (.int .i64 rn) (.int .i64 rd)).lt; exact this)).trans (fz_set _ _ _ _ _ i (fy i))
  have Fy := (Fy.far' (c := w.heap.size + 1 + 1) (by omega) _ _).past0 hb2
  have Fx := (Fx.set rn rd).past0 hb2
  clear hb2 fx fy
  have HB3 := Lib.hid (bl_set (c := w.heap.size + 1 + 1 + 1) HB2.out (by omega) (.int .i64 rn) (.int .i64 rd))
  have HK0 : Hk w [(w.heap.size, a, p), (w.heap.size + 1, b, q), (w.heap.size + 1 + 1, rn, rd), (w.heap.size + 1 + 1 + 1, rn, rd)] ((w2.setCell ⟨w.heap.size + 1 + 1 + 1, 0, none⟩ (.int .i64 rn)).setCell ⟨w.heap.size + 1 + 1 + 1, 1, none⟩ (.int .i64 rd)) := ⟨by
    intro x hx
    simp only [List.mem_cons, List.not_mem_nil, or_false] at hx
    rcases hx with rfl | rfl | rfl | rfl
    · exact Fa.far' (by first | omega | (dsimp only; omega)) _ _
    · exact Fb.far' (by first | omega | (dsimp only; omega)) _ _
    · exact Fx.far' (by first | omega | (dsimp only; omega)) _ _
    · exact Fy.set rn rd, ht.below HB3.out, HB3.out⟩
  have ca0 := Fa.c0; have ca1 := Fa.c1; have cal := Fa.lt
  have cb0 := Fb.c0; have cb1 := Fb.c1; have cbl := Fb.lt
  have cx0 := Fx.c0; have cx1 := Fx.c1; have cxl := Fx.lt
  have cy0 := Fy.c0; have cy1 := Fy.c1; have cyl := Fy.lt
  go_wp2
  clear ca0 ca1 cal cb0 cb1 cbl cx0 cx1 cxl cy0 cy1 cyl
  have q0 : ∀ x : Wo w [(w.heap.size, a, p), (w.heap.size + 1, b, q), (w.heap.size + 1 + 1, rn, rd), (w.heap.size + 1 + 1 + 1, rn, rd)], x.1.cell? ⟨w.heap.size, 0, none⟩ = some (.int .i64 a) := fun x => x.2.four.1
  have q1 : ∀ x : Wo w [(w.heap.size, a, p), (w.heap.size + 1, b, q), (w.heap.size + 1 + 1, rn, rd), (w.heap.size + 1 + 1 + 1, rn, rd)], x.1.cell? ⟨w.heap.size, 1, none⟩ = some (.int .i64 p) := fun x => x.2.four.2.1
  have q2 : ∀ x : Wo w [(w.heap.size, a, p), (w.heap.size + 1, b, q), (w.heap.size + 1 + 1, rn, rd), (w.heap.size + 1 + 1 + 1, rn, rd)], x.1.cell? ⟨w.heap.size + 1, 0, none⟩ = some (.int .i64 b) := fun x => x.2.four.2.2.1
  have q3 : ∀ x : Wo w [(w.heap.size, a, p), (w.heap.size + 1, b, q), (w.heap.size + 1 + 1, rn, rd), (w.heap.size + 1 + 1 + 1, rn, rd)], x.1.cell? ⟨w.heap.size + 1, 1, none⟩ = some (.int .i64 q) := fun x => x.2.four.2.2.2.1
  have q4 : ∀ x : Wo w [(w.heap.size, a, p), (w.heap.size + 1, b, q), (w.heap.size + 1 + 1, rn, rd), (w.heap.size + 1 + 1 + 1, rn, rd)], x.1.cell? ⟨w.heap.size + 1 + 1, 0, none⟩ = some (.int .i64 rn) := fun x => x.2.four.2.2.2.2.1
  have q5 : ∀ x : Wo w [(w.heap.size, a, p), (w.heap.size + 1, b, q), (w.heap.size + 1 + 1, rn, rd), (w.heap.size + 1 + 1 + 1, rn, rd)], x.1.cell? ⟨w.heap.size + 1 + 1, 1, none⟩ = some (.int .i64 rd) := fun x => x.2.four.2.2.2.2.2.1
  have q6 : ∀ x : Wo w [(w.heap.size, a, p), (w.heap.size + 1, b, q), (w.heap.size + 1 + 1, rn, rd), (w.heap.size + 1 + 1 + 1, rn, rd)], x.1.cell? ⟨w.heap.size + 1 + 1 + 1, 0, none⟩ = some (.int .i64 rn) := fun x => x.2.four.2.2.2.2.2.2.1
  have q7 : ∀ x : Wo w [(w.heap.size, a, p), (w.heap.size + 1, b, q), (w.heap.size + 1 + 1, rn, rd), (w.heap.size + 1 + 1 + 1, rn, rd)], x.1.cell? ⟨w.heap.size + 1 + 1 + 1, 1, none⟩ = some (.int .i64 rd) := fun x => x.2.four.2.2.2.2.2.2.2.1
  have ne : Nonempty (Wo w [(w.heap.size, a, p), (w.heap.size + 1, b, q), (w.heap.size + 1 + 1, rn, rd), (w.heap.size + 1 + 1 + 1, rn, rd)]) := ⟨⟨_, HK0.drew⟩⟩
  refine region_cls (C := fun W => ∃ x : Wo w [(w.heap.size, a, p), (w.heap.size + 1, b, q), (w.heap.size + 1 + 1, rn, rd), (w.heap.size + 1 + 1 + 1, rn, rd)], W = x.1) (by kernel_rfl) (by kernel_rfl) ⟨⟨_, HK0.drew⟩, rfl⟩ ?_
  repeat (go_big_quiet_step ((first | (go_at_call 29; with_reducible exact cl_wo CC _) | (go_at_call 30; with_reducible exact cl_wo CD _) | (go_at_call 18; with_reducible exact known_wo _))))
  refine wpQuiet_nil ?_
  intro w' hw'
  obtain ⟨x, rfl⟩ := hw'
  go_wp2
  go_ret
  exact ⟨rfl, x.2.bl⟩
set_option maxRecDepth 100000 in
set_option maxHeartbeats 4000000 in
theorem OP_Sub (a p b q op rn rd re c : Int) (w : World) (ht : Tb w)
    (hop : op % 8 = 1)
    (CM : Cl 21 #[.agg #[.int .i64 a, .int .i64 p], .agg #[.int .i64 b, .int .i64 q]] (.tuple #[.agg #[.int .i64 rn, .int .i64 rd], .int .i64 re]))
    (CR : Cl 22 #[.agg #[.int .i64 a, .int .i64 p], .agg #[.int .i64 b, .int .i64 q]] (.tuple #[.agg #[.int .i64 rn, .int .i64 rd], .int .i64 re]))
    (CC : Cl 29 #[.agg #[.int .i64 a, .int .i64 p], .agg #[.int .i64 b, .int .i64 q]] (.int .i64 c))
    (CD : Cl 30 #[.agg #[.int .i64 a, .int .i64 p], .agg #[.int .i64 b, .int .i64 q]] (.int .i64 c))
    : Calls Tryd.prog 4 #[.agg #[.int .i64 a, .int .i64 p], .agg #[.int .i64 b, .int .i64 q], .int .i64 op] w fun e w' => e = .returned (.bool true) ∧ Below w.heap.size w w' := by
  have eq := eq_num rn rd rn rd
  have er := eqN_refl rn rd
  have h7 := i64_and7 op
  rw [hop] at h7
  clear hop
  go_enter Tryd.func4, Tryd.ntmps4
  go_wp2_with fail
  refine (CM _).mono ?_
  rintro e w1 ⟨rfl, hb1⟩
  obtain ⟨Fa, Fb, Fx, Fy⟩ := new4 hb1
  obtain ⟨fx, fy⟩ := fz4 hb1
  have HB1 := Lib.hid (bl4 (Below.refl _ _) hb1)
  clear hb1
  have ca0 := Fa.c0; have ca1 := Fa.c1; have cal := Fa.lt
  have cb0 := Fb.c0; have cb1 := Fb.c1; have cbl := Fb.lt
  have cx0 := Fx.c0; have cx1 := Fx.c1; have cxl := Fx.lt
  have cy0 := Fy.c0; have cy1 := Fy.c1; have cyl := Fy.lt
  go_wp2_with fail
  refine (CR _).mono ?_
  clear ca0 ca1 cal cb0 cb1 cbl cx0 cx1 cxl cy0 cy1 cyl
  rintro e w2 ⟨rfl, hb2⟩
  have HB2 := Lib.hid (bl0 (bl_set HB1.out (by omega) _ _) hb2)
  have Fa := (Fa.far' (c := w.heap.size + 1 + 1) (by omega) _ _).past0 hb2
  have Fb := (Fb.far' (c := w.heap.size + 1 + 1) (by omega) _ _).past0 hb2
  have fy2 : ∀ i, w2.frozen? ⟨w.heap.size + 1 + 1 + 1, i, none⟩ = false := fun i => (hb2.frozen (p := ⟨w.heap.size + 1 + 1 + 1, i, none⟩) (by have := (Fy.far' (c := w.heap.size + 1 + 1) (by omega) (.int .i64 rn) (.int .i64 rd)).lt; exact this)).trans (fz_set _ _ _ _ _ i (fy i))
  have Fy := (Fy.far' (c := w.heap.size + 1 + 1) (by omega) _ _).past0 hb2
  have Fx := (Fx.set rn rd).past0 hb2
  clear hb2 fx fy
  have HB3 := Lib.hid (bl_set (c := w.heap.size + 1 + 1 + 1) HB2.out (by omega) (.int .i64 rn) (.int .i64 rd))
  have HK0 : Hk w [(w.heap.size, a, p), (w.heap.size + 1, b, q), (w.heap.size + 1 + 1, rn, rd), (w.heap.size + 1 + 1 + 1, rn, rd)] ((w2.setCell ⟨w.heap.size + 1 + 1 + 1, 0, none⟩ (.int .i64 rn)).setCell ⟨w.heap.size + 1 + 1 + 1, 1, none⟩ (.int .i64 rd)) := ⟨by
    intro x hx
    simp only [List.mem_cons, List.not_mem_nil, or_false] at hx
    rcases hx with rfl | rfl | rfl | rfl
    · exact Fa.far' (by first | omega | (dsimp only; omega)) _ _
    · exact Fb.far' (by first | omega | (dsimp only; omega)) _ _
    · exact Fx.far' (by first | omega | (dsimp only; omega)) _ _
    · exact Fy.set rn rd, ht.below HB3.out, HB3.out⟩
  have ca0 := Fa.c0; have ca1 := Fa.c1; have cal := Fa.lt
  have cb0 := Fb.c0; have cb1 := Fb.c1; have cbl := Fb.lt
  have cx0 := Fx.c0; have cx1 := Fx.c1; have cxl := Fx.lt
  have cy0 := Fy.c0; have cy1 := Fy.c1; have cyl := Fy.lt
  go_wp2
  clear ca0 ca1 cal cb0 cb1 cbl cx0 cx1 cxl cy0 cy1 cyl
  have q0 : ∀ x : Wo w [(w.heap.size, a, p), (w.heap.size + 1, b, q), (w.heap.size + 1 + 1, rn, rd), (w.heap.size + 1 + 1 + 1, rn, rd)], x.1.cell? ⟨w.heap.size, 0, none⟩ = some (.int .i64 a) := fun x => x.2.four.1
  have q1 : ∀ x : Wo w [(w.heap.size, a, p), (w.heap.size + 1, b, q), (w.heap.size + 1 + 1, rn, rd), (w.heap.size + 1 + 1 + 1, rn, rd)], x.1.cell? ⟨w.heap.size, 1, none⟩ = some (.int .i64 p) := fun x => x.2.four.2.1
  have q2 : ∀ x : Wo w [(w.heap.size, a, p), (w.heap.size + 1, b, q), (w.heap.size + 1 + 1, rn, rd), (w.heap.size + 1 + 1 + 1, rn, rd)], x.1.cell? ⟨w.heap.size + 1, 0, none⟩ = some (.int .i64 b) := fun x => x.2.four.2.2.1
  have q3 : ∀ x : Wo w [(w.heap.size, a, p), (w.heap.size + 1, b, q), (w.heap.size + 1 + 1, rn, rd), (w.heap.size + 1 + 1 + 1, rn, rd)], x.1.cell? ⟨w.heap.size + 1, 1, none⟩ = some (.int .i64 q) := fun x => x.2.four.2.2.2.1
  have q4 : ∀ x : Wo w [(w.heap.size, a, p), (w.heap.size + 1, b, q), (w.heap.size + 1 + 1, rn, rd), (w.heap.size + 1 + 1 + 1, rn, rd)], x.1.cell? ⟨w.heap.size + 1 + 1, 0, none⟩ = some (.int .i64 rn) := fun x => x.2.four.2.2.2.2.1
  have q5 : ∀ x : Wo w [(w.heap.size, a, p), (w.heap.size + 1, b, q), (w.heap.size + 1 + 1, rn, rd), (w.heap.size + 1 + 1 + 1, rn, rd)], x.1.cell? ⟨w.heap.size + 1 + 1, 1, none⟩ = some (.int .i64 rd) := fun x => x.2.four.2.2.2.2.2.1
  have q6 : ∀ x : Wo w [(w.heap.size, a, p), (w.heap.size + 1, b, q), (w.heap.size + 1 + 1, rn, rd), (w.heap.size + 1 + 1 + 1, rn, rd)], x.1.cell? ⟨w.heap.size + 1 + 1 + 1, 0, none⟩ = some (.int .i64 rn) := fun x => x.2.four.2.2.2.2.2.2.1
  have q7 : ∀ x : Wo w [(w.heap.size, a, p), (w.heap.size + 1, b, q), (w.heap.size + 1 + 1, rn, rd), (w.heap.size + 1 + 1 + 1, rn, rd)], x.1.cell? ⟨w.heap.size + 1 + 1 + 1, 1, none⟩ = some (.int .i64 rd) := fun x => x.2.four.2.2.2.2.2.2.2.1
  have ne : Nonempty (Wo w [(w.heap.size, a, p), (w.heap.size + 1, b, q), (w.heap.size + 1 + 1, rn, rd), (w.heap.size + 1 + 1 + 1, rn, rd)]) := ⟨⟨_, HK0.drew⟩⟩
  refine region_cls (C := fun W => ∃ x : Wo w [(w.heap.size, a, p), (w.heap.size + 1, b, q), (w.heap.size + 1 + 1, rn, rd), (w.heap.size + 1 + 1 + 1, rn, rd)], W = x.1) (by kernel_rfl) (by kernel_rfl) ⟨⟨_, HK0.drew⟩, rfl⟩ ?_
  repeat (go_big_quiet_step ((first | (go_at_call 29; with_reducible exact cl_wo CC _) | (go_at_call 30; with_reducible exact cl_wo CD _) | (go_at_call 18; with_reducible exact known_wo _))))
  refine wpQuiet_nil ?_
  intro w' hw'
  obtain ⟨x, rfl⟩ := hw'
  go_wp2
  go_ret
  exact ⟨rfl, x.2.bl⟩
set_option maxRecDepth 100000 in
set_option maxHeartbeats 4000000 in
theorem OP_Mul (a p b q op rn rd re c : Int) (w : World) (ht : Tb w)
    (hop : op % 8 = 2)
    (CM : Cl 23 #[.agg #[.int .i64 a, .int .i64 p], .agg #[.int .i64 b, .int .i64 q]] (.tuple #[.agg #[.int .i64 rn, .int .i64 rd], .int .i64 re]))
    (CR : Cl 24 #[.agg #[.int .i64 a, .int .i64 p], .agg #[.int .i64 b, .int .i64 q]] (.tuple #[.agg #[.int .i64 rn, .int .i64 rd], .int .i64 re]))
    (CC : Cl 29 #[.agg #[.int .i64 a, .int .i64 p], .agg #[.int .i64 b, .int .i64 q]] (.int .i64 c))
    (CD : Cl 30 #[.agg #[.int .i64 a, .int .i64 p], .agg #[.int .i64 b, .int .i64 q]] (.int .i64 c))
    : Calls Tryd.prog 4 #[.agg #[.int .i64 a, .int .i64 p], .agg #[.int .i64 b, .int .i64 q], .int .i64 op] w fun e w' => e = .returned (.bool true) ∧ Below w.heap.size w w' := by
  have eq := eq_num rn rd rn rd
  have er := eqN_refl rn rd
  have h7 := i64_and7 op
  rw [hop] at h7
  clear hop
  go_enter Tryd.func4, Tryd.ntmps4
  go_wp2_with fail
  refine (CM _).mono ?_
  rintro e w1 ⟨rfl, hb1⟩
  obtain ⟨Fa, Fb, Fx, Fy⟩ := new4 hb1
  obtain ⟨fx, fy⟩ := fz4 hb1
  have HB1 := Lib.hid (bl4 (Below.refl _ _) hb1)
  clear hb1
  have ca0 := Fa.c0; have ca1 := Fa.c1; have cal := Fa.lt
  have cb0 := Fb.c0; have cb1 := Fb.c1; have cbl := Fb.lt
  have cx0 := Fx.c0; have cx1 := Fx.c1; have cxl := Fx.lt
  have cy0 := Fy.c0; have cy1 := Fy.c1; have cyl := Fy.lt
  go_wp2_with fail
  refine (CR _).mono ?_
  clear ca0 ca1 cal cb0 cb1 cbl cx0 cx1 cxl cy0 cy1 cyl
  rintro e w2 ⟨rfl, hb2⟩
  have HB2 := Lib.hid (bl0 (bl_set HB1.out (by omega) _ _) hb2)
  have Fa := (Fa.far' (c := w.heap.size + 1 + 1) (by omega) _ _).past0 hb2
  have Fb := (Fb.far' (c := w.heap.size + 1 + 1) (by omega) _ _).past0 hb2
  have fy2 : ∀ i, w2.frozen? ⟨w.heap.size + 1 + 1 + 1, i, none⟩ = false := fun i => (hb2.frozen (p := ⟨w.heap.size + 1 + 1 + 1, i, none⟩) (by have := (Fy.far' (c := w.heap.size + 1 + 1) (by omega) (.int .i64 rn) (.int .i64 rd)).lt; exact this)).trans (fz_set _ _ _ _ _ i (fy i))
  have Fy := (Fy.far' (c := w.heap.size + 1 + 1) (by omega) _ _).past0 hb2
  have Fx := (Fx.set rn rd).past0 hb2
  clear hb2 fx fy
  have HB3 := Lib.hid (bl_set (c := w.heap.size + 1 + 1 + 1) HB2.out (by omega) (.int .i64 rn) (.int .i64 rd))
  have HK0 : Hk w [(w.heap.size, a, p), (w.heap.size + 1, b, q), (w.heap.size + 1 + 1, rn, rd), (w.heap.size + 1 + 1 + 1, rn, rd)] ((w2.setCell ⟨w.heap.size + 1 + 1 + 1, 0, none⟩ (.int .i64 rn)).setCell ⟨w.heap.size + 1 + 1 + 1, 1, none⟩ (.int .i64 rd)) := ⟨by
    intro x hx
    simp only [List.mem_cons, List.not_mem_nil, or_false] at hx
    rcases hx with rfl | rfl | rfl | rfl
    · exact Fa.far' (by first | omega | (dsimp only; omega)) _ _
    · exact Fb.far' (by first | omega | (dsimp only; omega)) _ _
    · exact Fx.far' (by first | omega | (dsimp only; omega)) _ _
    · exact Fy.set rn rd, ht.below HB3.out, HB3.out⟩
  have ca0 := Fa.c0; have ca1 := Fa.c1; have cal := Fa.lt
  have cb0 := Fb.c0; have cb1 := Fb.c1; have cbl := Fb.lt
  have cx0 := Fx.c0; have cx1 := Fx.c1; have cxl := Fx.lt
  have cy0 := Fy.c0; have cy1 := Fy.c1; have cyl := Fy.lt
  go_wp2
  clear ca0 ca1 cal cb0 cb1 cbl cx0 cx1 cxl cy0 cy1 cyl
  have q0 : ∀ x : Wo w [(w.heap.size, a, p), (w.heap.size + 1, b, q), (w.heap.size + 1 + 1, rn, rd), (w.heap.size + 1 + 1 + 1, rn, rd)], x.1.cell? ⟨w.heap.size, 0, none⟩ = some (.int .i64 a) := fun x => x.2.four.1
  have q1 : ∀ x : Wo w [(w.heap.size, a, p), (w.heap.size + 1, b, q), (w.heap.size + 1 + 1, rn, rd), (w.heap.size + 1 + 1 + 1, rn, rd)], x.1.cell? ⟨w.heap.size, 1, none⟩ = some (.int .i64 p) := fun x => x.2.four.2.1
  have q2 : ∀ x : Wo w [(w.heap.size, a, p), (w.heap.size + 1, b, q), (w.heap.size + 1 + 1, rn, rd), (w.heap.size + 1 + 1 + 1, rn, rd)], x.1.cell? ⟨w.heap.size + 1, 0, none⟩ = some (.int .i64 b) := fun x => x.2.four.2.2.1
  have q3 : ∀ x : Wo w [(w.heap.size, a, p), (w.heap.size + 1, b, q), (w.heap.size + 1 + 1, rn, rd), (w.heap.size + 1 + 1 + 1, rn, rd)], x.1.cell? ⟨w.heap.size + 1, 1, none⟩ = some (.int .i64 q) := fun x => x.2.four.2.2.2.1
  have q4 : ∀ x : Wo w [(w.heap.size, a, p), (w.heap.size + 1, b, q), (w.heap.size + 1 + 1, rn, rd), (w.heap.size + 1 + 1 + 1, rn, rd)], x.1.cell? ⟨w.heap.size + 1 + 1, 0, none⟩ = some (.int .i64 rn) := fun x => x.2.four.2.2.2.2.1
  have q5 : ∀ x : Wo w [(w.heap.size, a, p), (w.heap.size + 1, b, q), (w.heap.size + 1 + 1, rn, rd), (w.heap.size + 1 + 1 + 1, rn, rd)], x.1.cell? ⟨w.heap.size + 1 + 1, 1, none⟩ = some (.int .i64 rd) := fun x => x.2.four.2.2.2.2.2.1
  have q6 : ∀ x : Wo w [(w.heap.size, a, p), (w.heap.size + 1, b, q), (w.heap.size + 1 + 1, rn, rd), (w.heap.size + 1 + 1 + 1, rn, rd)], x.1.cell? ⟨w.heap.size + 1 + 1 + 1, 0, none⟩ = some (.int .i64 rn) := fun x => x.2.four.2.2.2.2.2.2.1
  have q7 : ∀ x : Wo w [(w.heap.size, a, p), (w.heap.size + 1, b, q), (w.heap.size + 1 + 1, rn, rd), (w.heap.size + 1 + 1 + 1, rn, rd)], x.1.cell? ⟨w.heap.size + 1 + 1 + 1, 1, none⟩ = some (.int .i64 rd) := fun x => x.2.four.2.2.2.2.2.2.2.1
  have ne : Nonempty (Wo w [(w.heap.size, a, p), (w.heap.size + 1, b, q), (w.heap.size + 1 + 1, rn, rd), (w.heap.size + 1 + 1 + 1, rn, rd)]) := ⟨⟨_, HK0.drew⟩⟩
  refine region_cls (C := fun W => ∃ x : Wo w [(w.heap.size, a, p), (w.heap.size + 1, b, q), (w.heap.size + 1 + 1, rn, rd), (w.heap.size + 1 + 1 + 1, rn, rd)], W = x.1) (by kernel_rfl) (by kernel_rfl) ⟨⟨_, HK0.drew⟩, rfl⟩ ?_
  repeat (go_big_quiet_step ((first | (go_at_call 29; with_reducible exact cl_wo CC _) | (go_at_call 30; with_reducible exact cl_wo CD _) | (go_at_call 18; with_reducible exact known_wo _))))
  refine wpQuiet_nil ?_
  intro w' hw'
  obtain ⟨x, rfl⟩ := hw'
  go_wp2
  go_ret
  exact ⟨rfl, x.2.bl⟩
set_option maxRecDepth 100000 in
set_option maxHeartbeats 4000000 in
theorem OP_Div (a p b q op rn rd re c : Int) (w : World) (ht : Tb w)
    (hop : op % 8 = 3)
    (CM : Cl 25 #[.agg #[.int .i64 a, .int .i64 p], .agg #[.int .i64 b, .int .i64 q]] (.tuple #[.agg #[.int .i64 rn, .int .i64 rd], .int .i64 re]))
    (CR : Cl 26 #[.agg #[.int .i64 a, .int .i64 p], .agg #[.int .i64 b, .int .i64 q]] (.tuple #[.agg #[.int .i64 rn, .int .i64 rd], .int .i64 re]))
    (CC : Cl 29 #[.agg #[.int .i64 a, .int .i64 p], .agg #[.int .i64 b, .int .i64 q]] (.int .i64 c))
    (CD : Cl 30 #[.agg #[.int .i64 a, .int .i64 p], .agg #[.int .i64 b, .int .i64 q]] (.int .i64 c))
    : Calls Tryd.prog 4 #[.agg #[.int .i64 a, .int .i64 p], .agg #[.int .i64 b, .int .i64 q], .int .i64 op] w fun e w' => e = .returned (.bool true) ∧ Below w.heap.size w w' := by
  have eq := eq_num rn rd rn rd
  have er := eqN_refl rn rd
  have h7 := i64_and7 op
  rw [hop] at h7
  clear hop
  go_enter Tryd.func4, Tryd.ntmps4
  go_wp2_with fail
  refine (CM _).mono ?_
  rintro e w1 ⟨rfl, hb1⟩
  obtain ⟨Fa, Fb, Fx, Fy⟩ := new4 hb1
  obtain ⟨fx, fy⟩ := fz4 hb1
  have HB1 := Lib.hid (bl4 (Below.refl _ _) hb1)
  clear hb1
  have ca0 := Fa.c0; have ca1 := Fa.c1; have cal := Fa.lt
  have cb0 := Fb.c0; have cb1 := Fb.c1; have cbl := Fb.lt
  have cx0 := Fx.c0; have cx1 := Fx.c1; have cxl := Fx.lt
  have cy0 := Fy.c0; have cy1 := Fy.c1; have cyl := Fy.lt
  go_wp2_with fail
  refine (CR _).mono ?_
  clear ca0 ca1 cal cb0 cb1 cbl cx0 cx1 cxl cy0 cy1 cyl
  rintro e w2 ⟨rfl, hb2⟩
  have HB2 := Lib.hid (bl0 (bl_set HB1.out (by omega) _ _) hb2)
  have Fa := (Fa.far' (c := w.heap.size + 1 + 1) (by omega) _ _).past0 hb2
  have Fb := (Fb.far' (c := w.heap.size + 1 + 1) (by omega) _ _).past0 hb2
  have fy2 : ∀ i, w2.frozen? ⟨w.heap.size + 1 + 1 + 1, i, none⟩ = false := fun i => (hb2.frozen (p := ⟨w.heap.size + 1 + 1 + 1, i, none⟩) (by have := (Fy.far' (c := w.heap.size + 1 + 1) (by omega) (.int .i64 rn) (.int .i64 rd)).lt; exact this)).trans (fz_set _ _ _ _ _ i (fy i))
  have Fy := (Fy.far' (c := w.heap.size + 1 + 1) (by omega) _ _).past0 hb2
  have Fx := (Fx.set rn rd).past0 hb2
  clear hb2 fx fy
  have HB3 := Lib.hid (bl_set (c := w.heap.size + 1 + 1 + 1) HB2.out (by omega) (.int .i64 rn) (.int .i64 rd))
  have HK0 : Hk w [(w.heap.size, a, p), (w.heap.size + 1, b, q), (w.heap.size + 1 + 1, rn, rd), (w.heap.size + 1 + 1 + 1, rn, rd)] ((w2.setCell ⟨w.heap.size + 1 + 1 + 1, 0, none⟩ (.int .i64 rn)).setCell ⟨w.heap.size + 1 + 1 + 1, 1, none⟩ (.int .i64 rd)) := ⟨by
    intro x hx
    simp only [List.mem_cons, List.not_mem_nil, or_false] at hx
    rcases hx with rfl | rfl | rfl | rfl
    · exact Fa.far' (by first | omega | (dsimp only; omega)) _ _
    · exact Fb.far' (by first | omega | (dsimp only; omega)) _ _
    · exact Fx.far' (by first | omega | (dsimp only; omega)) _ _
    · exact Fy.set rn rd, ht.below HB3.out, HB3.out⟩
  have ca0 := Fa.c0; have ca1 := Fa.c1; have cal := Fa.lt
  have cb0 := Fb.c0; have cb1 := Fb.c1; have cbl := Fb.lt
  have cx0 := Fx.c0; have cx1 := Fx.c1; have cxl := Fx.lt
  have cy0 := Fy.c0; have cy1 := Fy.c1; have cyl := Fy.lt
  go_wp2
  clear ca0 ca1 cal cb0 cb1 cbl cx0 cx1 cxl cy0 cy1 cyl
  have q0 : ∀ x : Wo w [(w.heap.size, a, p), (w.heap.size + 1, b, q), (w.heap.size + 1 + 1, rn, rd), (w.heap.size + 1 + 1 + 1, rn, rd)], x.1.cell? ⟨w.heap.size, 0, none⟩ = some (.int .i64 a) := fun x => x.2.four.1
  have q1 : ∀ x : Wo w [(w.heap.size, a, p), (w.heap.size + 1, b, q), (w.heap.size + 1 + 1, rn, rd), (w.heap.size + 1 + 1 + 1, rn, rd)], x.1.cell? ⟨w.heap.size, 1, none⟩ = some (.int .i64 p) := fun x => x.2.four.2.1
  have q2 : ∀ x : Wo w [(w.heap.size, a, p), (w.heap.size + 1, b, q), (w.heap.size + 1 + 1, rn, rd), (w.heap.size + 1 + 1 + 1, rn, rd)], x.1.cell? ⟨w.heap.size + 1, 0, none⟩ = some (.int .i64 b) := fun x => x.2.four.2.2.1
  have q3 : ∀ x : Wo w [(w.heap.size, a, p), (w.heap.size + 1, b, q), (w.heap.size + 1 + 1, rn, rd), (w.heap.size + 1 + 1 + 1, rn, rd)], x.1.cell? ⟨w.heap.size + 1, 1, none⟩ = some (.int .i64 q) := fun x => x.2.four.2.2.2.1
  have q4 : ∀ x : Wo w [(w.heap.size, a, p), (w.heap.size + 1, b, q), (w.heap.size + 1 + 1, rn, rd), (w.heap.size + 1 + 1 + 1, rn, rd)], x.1.cell? ⟨w.heap.size + 1 + 1, 0, none⟩ = some (.int .i64 rn) := fun x => x.2.four.2.2.2.2.1
  have q5 : ∀ x : Wo w [(w.heap.size, a, p), (w.heap.size + 1, b, q), (w.heap.size + 1 + 1, rn, rd), (w.heap.size + 1 + 1 + 1, rn, rd)], x.1.cell? ⟨w.heap.size + 1 + 1, 1, none⟩ = some (.int .i64 rd) := fun x => x.2.four.2.2.2.2.2.1
  have q6 : ∀ x : Wo w [(w.heap.size, a, p), (w.heap.size + 1, b, q), (w.heap.size + 1 + 1, rn, rd), (w.heap.size + 1 + 1 + 1, rn, rd)], x.1.cell? ⟨w.heap.size + 1 + 1 + 1, 0, none⟩ = some (.int .i64 rn) := fun x => x.2.four.2.2.2.2.2.2.1
  have q7 : ∀ x : Wo w [(w.heap.size, a, p), (w.heap.size + 1, b, q), (w.heap.size + 1 + 1, rn, rd), (w.heap.size + 1 + 1 + 1, rn, rd)], x.1.cell? ⟨w.heap.size + 1 + 1 + 1, 1, none⟩ = some (.int .i64 rd) := fun x => x.2.four.2.2.2.2.2.2.2.1
  have ne : Nonempty (Wo w [(w.heap.size, a, p), (w.heap.size + 1, b, q), (w.heap.size + 1 + 1, rn, rd), (w.heap.size + 1 + 1 + 1, rn, rd)]) := ⟨⟨_, HK0.drew⟩⟩
  refine region_cls (C := fun W => ∃ x : Wo w [(w.heap.size, a, p), (w.heap.size + 1, b, q), (w.heap.size + 1 + 1, rn, rd), (w.heap.size + 1 + 1 + 1, rn, rd)], W = x.1) (by kernel_rfl) (by kernel_rfl) ⟨⟨_, HK0.drew⟩, rfl⟩ ?_
  repeat (go_big_quiet_step ((first | (go_at_call 29; with_reducible exact cl_wo CC _) | (go_at_call 30; with_reducible exact cl_wo CD _) | (go_at_call 18; with_reducible exact known_wo _))))
  refine wpQuiet_nil ?_
  intro w' hw'
  obtain ⟨x, rfl⟩ := hw'
  go_wp2
  go_ret
  exact ⟨rfl, x.2.bl⟩
set_option maxRecDepth 100000 in
set_option maxHeartbeats 4000000 in
theorem OP_Mod (a p b q op rn rd re c : Int) (w : World) (ht : Tb w)
    (hop : 4 ≤ op % 8)
    (CM : Cl 27 #[.agg #[.int .i64 a, .int .i64 p], .agg #[.int .i64 b, .int .i64 q]] (.tuple #[.agg #[.int .i64 rn, .int .i64 rd], .int .i64 re]))
    (CR : Cl 28 #[.agg #[.int .i64 a, .int .i64 p], .agg #[.int .i64 b, .int .i64 q]] (.tuple #[.agg #[.int .i64 rn, .int .i64 rd], .int .i64 re]))
    (CC : Cl 29 #[.agg #[.int .i64 a, .int .i64 p], .agg #[.int .i64 b, .int .i64 q]] (.int .i64 c))
    (CD : Cl 30 #[.agg #[.int .i64 a, .int .i64 p], .agg #[.int .i64 b, .int .i64 q]] (.int .i64 c))
    : Calls Tryd.prog 4 #[.agg #[.int .i64 a, .int .i64 p], .agg #[.int .i64 b, .int .i64 q], .int .i64 op] w fun e w' => e = .returned (.bool true) ∧ Below w.heap.size w w' := by
  have eq := eq_num rn rd rn rd
  have er := eqN_refl rn rd
  have h7 := i64_and7 op
  obtain ⟨r, hr⟩ : ∃ r, r = op % 8 := ⟨_, rfl⟩
  rw [← hr] at h7 hop
  have n0 : (r == 0) = false := by rw [beq_eq_false_iff_ne]; omega
  have n1 : (r == 1) = false := by rw [beq_eq_false_iff_ne]; omega
  have n2 : (r == 2) = false := by rw [beq_eq_false_iff_ne]; omega
  have n3 : (r == 3) = false := by rw [beq_eq_false_iff_ne]; omega
  clear hr hop
  go_enter Tryd.func4, Tryd.ntmps4
  go_wp2_with fail
  refine (CM _).mono ?_
  rintro e w1 ⟨rfl, hb1⟩
  obtain ⟨Fa, Fb, Fx, Fy⟩ := new4 hb1
  obtain ⟨fx, fy⟩ := fz4 hb1
  have HB1 := Lib.hid (bl4 (Below.refl _ _) hb1)
  clear hb1
  have ca0 := Fa.c0; have ca1 := Fa.c1; have cal := Fa.lt
  have cb0 := Fb.c0; have cb1 := Fb.c1; have cbl := Fb.lt
  have cx0 := Fx.c0; have cx1 := Fx.c1; have cxl := Fx.lt
  have cy0 := Fy.c0; have cy1 := Fy.c1; have cyl := Fy.lt
  go_wp2_with fail
  refine (CR _).mono ?_
  clear ca0 ca1 cal cb0 cb1 cbl cx0 cx1 cxl cy0 cy1 cyl
  rintro e w2 ⟨rfl, hb2⟩
  have HB2 := Lib.hid (bl0 (bl_set HB1.out (by omega) _ _) hb2)
  have Fa := (Fa.far' (c := w.heap.size + 1 + 1) (by omega) _ _).past0 hb2
  have Fb := (Fb.far' (c := w.heap.size + 1 + 1) (by omega) _ _).past0 hb2
  have fy2 : ∀ i, w2.frozen? ⟨w.heap.size + 1 + 1 + 1, i, none⟩ = false := fun i => (hb2.frozen (p := ⟨w.heap.size + 1 + 1 + 1, i, none⟩) (by have := (Fy.far' (c := w.heap.size + 1 + 1) (by omega) (.int .i64 rn) (.int .i64 rd)).lt; exact this)).trans (fz_set _ _ _ _ _ i (fy i))
  have Fy := (Fy.far' (c := w.heap.size + 1 + 1) (by omega) _ _).past0 hb2
  have Fx := (Fx.set rn rd).past0 hb2
  clear hb2 fx fy
  have HB3 := Lib.hid (bl_set (c := w.heap.size + 1 + 1 + 1) HB2.out (by omega) (.int .i64 rn) (.int .i64 rd))
  have HK0 : Hk w [(w.heap.size, a, p), (w.heap.size + 1, b, q), (w.heap.size + 1 + 1, rn, rd), (w.heap.size + 1 + 1 + 1, rn, rd)] ((w2.setCell ⟨w.heap.size + 1 + 1 + 1, 0, none⟩ (.int .i64 rn)).setCell ⟨w.heap.size + 1 + 1 + 1, 1, none⟩ (.int .i64 rd)) := ⟨by
    intro x hx
    simp only [List.mem_cons, List.not_mem_nil, or_false] at hx
    rcases hx with rfl | rfl | rfl | rfl
    · exact Fa.far' (by first | omega | (dsimp only; omega)) _ _
    · exact Fb.far' (by first | omega | (dsimp only; omega)) _ _
    · exact Fx.far' (by first | omega | (dsimp only; omega)) _ _
    · exact Fy.set rn rd, ht.below HB3.out, HB3.out⟩
  have ca0 := Fa.c0; have ca1 := Fa.c1; have cal := Fa.lt
  have cb0 := Fb.c0; have cb1 := Fb.c1; have cbl := Fb.lt
  have cx0 := Fx.c0; have cx1 := Fx.c1; have cxl := Fx.lt
  have cy0 := Fy.c0; have cy1 := Fy.c1; have cyl := Fy.lt
  go_wp2
  clear ca0 ca1 cal cb0 cb1 cbl cx0 cx1 cxl cy0 cy1 cyl
  have q0 : ∀ x : Wo w [(w.heap.size, a, p), (w.heap.size + 1, b, q), (w.heap.size + 1 + 1, rn, rd), (w.heap.size + 1 + 1 + 1, rn, rd)], x.1.cell? ⟨w.heap.size, 0, none⟩ = some (.int .i64 a) := fun x => x.2.four.1
  have q1 : ∀ x : Wo w [(w.heap.size, a, p), (w.heap.size + 1, b, q), (w.heap.size + 1 + 1, rn, rd), (w.heap.size + 1 + 1 + 1, rn, rd)], x.1.cell? ⟨w.heap.size, 1, none⟩ = some (.int .i64 p) := fun x => x.2.four.2.1
  have q2 : ∀ x : Wo w [(w.heap.size, a, p), (w.heap.size + 1, b, q), (w.heap.size + 1 + 1, rn, rd), (w.heap.size + 1 + 1 + 1, rn, rd)], x.1.cell? ⟨w.heap.size + 1, 0, none⟩ = some (.int .i64 b) := fun x => x.2.four.2.2.1
  have q3 : ∀ x : Wo w [(w.heap.size, a, p), (w.heap.size + 1, b, q), (w.heap.size + 1 + 1, rn, rd), (w.heap.size + 1 + 1 + 1, rn, rd)], x.1.cell? ⟨w.heap.size + 1, 1, none⟩ = some (.int .i64 q) := fun x => x.2.four.2.2.2.1
  have q4 : ∀ x : Wo w [(w.heap.size, a, p), (w.heap.size + 1, b, q), (w.heap.size + 1 + 1, rn, rd), (w.heap.size + 1 + 1 + 1, rn, rd)], x.1.cell? ⟨w.heap.size + 1 + 1, 0, none⟩ = some (.int .i64 rn) := fun x => x.2.four.2.2.2.2.1
  have q5 : ∀ x : Wo w [(w.heap.size, a, p), (w.heap.size + 1, b, q), (w.heap.size + 1 + 1, rn, rd), (w.heap.size + 1 + 1 + 1, rn, rd)], x.1.cell? ⟨w.heap.size + 1 + 1, 1, none⟩ = some (.int .i64 rd) := fun x => x.2.four.2.2.2.2.2.1
  have q6 : ∀ x : Wo w [(w.heap.size, a, p), (w.heap.size + 1, b, q), (w.heap.size + 1 + 1, rn, rd), (w.heap.size + 1 + 1 + 1, rn, rd)], x.1.cell? ⟨w.heap.size + 1 + 1 + 1, 0, none⟩ = some (.int .i64 rn) := fun x => x.2.four.2.2.2.2.2.2.1
  have q7 : ∀ x : Wo w [(w.heap.size, a, p), (w.heap.size + 1, b, q), (w.heap.size + 1 + 1, rn, rd), (w.heap.size + 1 + 1 + 1, rn, rd)], x.1.cell? ⟨w.heap.size + 1 + 1 + 1, 1, none⟩ = some (.int .i64 rd) := fun x => x.2.four.2.2.2.2.2.2.2.1
  have ne : Nonempty (Wo w [(w.heap.size, a, p), (w.heap.size + 1, b, q), (w.heap.size + 1 + 1, rn, rd), (w.heap.size + 1 + 1 + 1, rn, rd)]) := ⟨⟨_, HK0.drew⟩⟩
  refine region_cls (C := fun W => ∃ x : Wo w [(w.heap.size, a, p), (w.heap.size + 1, b, q), (w.heap.size + 1 + 1, rn, rd), (w.heap.size + 1 + 1 + 1, rn, rd)], W = x.1) (by kernel_rfl) (by kernel_rfl) ⟨⟨_, HK0.drew⟩, rfl⟩ ?_
  repeat (go_big_quiet_step ((first | (go_at_call 29; with_reducible exact cl_wo CC _) | (go_at_call 30; with_reducible exact cl_wo CD _) | (go_at_call 18; with_reducible exact known_wo _))))
  refine wpQuiet_nil ?_
  intro w' hw'
  obtain ⟨x, rfl⟩ := hw'
  go_wp2
  go_ret
  exact ⟨rfl, x.2.bl⟩
theorem NumberOperations_any (a p b q op : Int) (w : World) (_ : I64 a) (hb : I64 b) (ht : Tb w) : Calls Tryd.prog 4 #[.agg #[.int .i64 a, .int .i64 p], .agg #[.int .i64 b, .int .i64 q], .int .i64 op] w fun e w' => e = .returned (.bool true) ∧ Below w.heap.size w w' := by
  have h : op % 8 = 0 ∨ op % 8 = 1 ∨ op % 8 = 2 ∨ op % 8 = 3 ∨ 4 ≤ op % 8 := by omega
  rcases h with h | h | h | h | h
  · exact OP_Add a p b q op _ _ _ (cmp a p b q) w ht h (Add_any a p b q) (RAdd_any a p b q) (Compare_any a p b q) (RCompare_any a p b q)
  · exact OP_Sub a p b q op _ _ _ (cmp a p b q) w ht h (fun w => Sub_any a p b q w hb) (RSub_any a p b q) (Compare_any a p b q) (RCompare_any a p b q)
  · exact OP_Mul a p b q op _ _ _ (cmp a p b q) w ht h (Mul_any a p b q) (RMul_any a p b q) (Compare_any a p b q) (RCompare_any a p b q)
  · exact OP_Div a p b q op _ _ _ (cmp a p b q) w ht h (Div_any a p b q) (RDiv_any a p b q) (Compare_any a p b q) (RCompare_any a p b q)
  · exact OP_Mod a p b q op _ _ _ (cmp a p b q) w ht h (Mod_any a p b q) (RMod_any a p b q) (Compare_any a p b q) (RCompare_any a p b q)
end Go.Proofs.YtgnhihgimeiphaaDoor.Nu
