/-
  The law NumberFormat returns true for all arguments, in every world that holds the library's table.
-/
import Derived.Test.YtgnhihgimeiphaaDoorNuNm2
import Derived.Deep.RegionHeld3
namespace Go.Proofs.YtgnhihgimeiphaaDoor.Nu
open Go.RowKit

set_option maxRecDepth 100000 in
set_option maxHeartbeats 4000000 in
theorem NumberFormat_any (p q k : Int) (w : World) (_ : I64 p) (ht : Tb w)
    : Calls Tryd.prog 7 #[.agg #[.int .i64 p, .int .i64 q], .int .i64 k] w fun e w' => e = .returned (.bool true) ∧ Below w.heap.size w w' := by
  go_enter Tryd.func7, Tryd.ntmps7
  go_wp2_with fail
  refine (Fixed_any p q k _ (ht.below ((Below.refl _ _).alloc (Nat.le_refl _) _))).mono ?_
  rintro e w1 ⟨rfl, hb1⟩
  have Fn : Nm w1 _ p q := new1_0 hb1
  have HB1 := Lib.hid (bl1 (Below.refl _ _) hb1)
  clear hb1
  have cn0 := Fn.c0; have cn1 := Fn.c1; have cnl := Fn.lt
  go_wp2_with fail
  refine (RFixed_any p q k _).mono ?_
  clear cn0 cn1 cnl
  rintro e w2 ⟨rfl, hb2⟩
  have Fn := Fn.past0 hb2
  have HB2 := Lib.hid (bl0 HB1.out hb2)
  clear hb2
  have HK0 : Hk w [(w.heap.size, p, q)] w2 := ⟨by
    intro x hx
    simp only [List.mem_cons, List.not_mem_nil, or_false] at hx
    subst hx
    exact Fn, ht.below HB2.out, HB2.out⟩
  have cn0 := Fn.c0; have cn1 := Fn.c1; have cnl := Fn.lt
  go_wp2
  clear cn0 cn1 cnl
  have q0 : ∀ x : Wo w [(w.heap.size, p, q)], x.1.cell? ⟨w.heap.size, 0, none⟩ = some (.int .i64 p) := fun x => x.2.one.1
  have q1 : ∀ x : Wo w [(w.heap.size, p, q)], x.1.cell? ⟨w.heap.size, 1, none⟩ = some (.int .i64 q) := fun x => x.2.one.2.1
  have ne : Nonempty (Wo w [(w.heap.size, p, q)]) := ⟨⟨_, HK0.drew⟩⟩
  refine region_cls (C := fun W => ∃ x : Wo w [(w.heap.size, p, q)], W = x.1) (by kernel_rfl) (by kernel_rfl) ⟨⟨_, HK0.drew⟩, rfl⟩ ?_
  repeat (go_big_quiet_step ((first | (go_at_call 39; with_reducible exact format_wo p q _) | (go_at_call 40; with_reducible exact rformat_wo p q _) | (go_at_call 18; with_reducible exact known_wo _))))
  refine wpQuiet_nil ?_
  intro w' hw'
  obtain ⟨x, rfl⟩ := hw'
  go_wp2
  go_ret
  exact ⟨rfl, x.2.bl⟩
end Go.Proofs.YtgnhihgimeiphaaDoor.Nu
