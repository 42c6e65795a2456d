/-
  The contract of known: the first example of the chapter holds.
-/
import Derived.Test.YtaapdhpfjiaeaaaDoorTiParse
import Derived.Laws.StructEq
namespace Go.Proofs.YtaapdhpfjiaeaaaDoor.Ti
open Go.RowKit

theorem known_parse : parse [116, 101, 109, 112, 108, 97, 116, 101, 32, 58, 32, 105, 110, 102, 111, 95, 98, 111, 120] = ((3, [73, 110, 102, 111, 32, 98, 111, 120]), 0) := by decide +kernel
theorem known_format : format 3 [73, 110, 102, 111, 32, 98, 111, 120] = [84, 101, 109, 112, 108, 97, 116, 101, 58, 73, 110, 102, 111, 32, 98, 111, 120] := by decide +kernel

set_option maxRecDepth 100000 in
theorem known_any (w : World) (ht : Tb w) : Calls Tryd.prog 12 #[] w fun e w' => e = .returned (.bool true) ∧ Below w.heap.size w w' := by
  go_enter Tryd.func12, Tryd.ntmps12
  go_wp2_with fail
  refine (Parse_any _ _ (by decide) ht).mono ?_
  rintro e w1 ⟨he, hb1⟩
  simp only [known_parse] at he
  subst he
  have t1 := ht.below hb1
  have hbel : Below w1.heap.size w1 (w1.alloc (.cells #[.int .i64 3, .string ⟨#[73, 110, 102, 111, 32, 98, 111, 120]⟩] 24)) := (Below.refl _ w1).alloc (Nat.le_refl _) _
  have t2 := t1.below hbel
  go_wp2_with fail
  refine (Format_any _ _ _ (by decide) t2).mono ?_
  rintro e w2 ⟨he, hb2⟩
  simp only [known_format] at he
  subst he
  go_wp2
  go_ret
  exact ⟨rfl, (hb1.trans (hbel.mono hb1.size)).trans (hb2.mono (by have := hb1.size; simp; omega))⟩
end Go.Proofs.YtaapdhpfjiaeaaaDoor.Ti
