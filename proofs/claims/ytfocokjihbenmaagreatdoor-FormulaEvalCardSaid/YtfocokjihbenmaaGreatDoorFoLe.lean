/-
  The law on the value of a text (P8.3).
-/
import Derived.Test.YtfocokjihbenmaaGreatDoorFoRe
import Derived.Test.YtfocokjihbenmaaGreatDoorFoTk
namespace Go.Proofs.YtfocokjihbenmaaGreatDoor.Fo
open Go.RowKit Go.Proofs.YtfocokjihbenmaaGreatDoor.Nu
set_option linter.unusedVariables false
set_option linter.unusedSimpArgs false

set_option maxRecDepth 100000 in
set_option maxHeartbeats 4000000 in
theorem FormulaEval_any (s : ByteArray) (w : World) (ht : Tb w) : Calls Tryz.prog 3 #[.string s] w fun e w' => e = .returned (.bool true) ∧ Below w.heap.size w w' := by
  by_cases h5 : 500 < s.size
  · have hd : decide ((s.size : Int) > 500) = true := by rw [decide_eq_true_iff]; omega
    have HK := Lib.hid (known_any w ht)
    clear h5
    go_enter Tryz.func3, Tryz.ntmps3
    go_wp2_with fail
    refine HK.out.mono ?_
    rintro e w1 ⟨rfl, hb1⟩
    go_wp2
    go_ret
    exact ⟨rfl, hb1⟩
  · have hd : decide ((s.size : Int) > 500) = false := by rw [decide_eq_false_iff_not]; omega
    have HT := Lib.hid ht
    have H1 := Lib.hid (Eval_any s w ht)
    have H2 := Lib.hid (REval_any s)
    obtain ⟨x, y, z, hV⟩ : ∃ x y z, ev s.data.toList = ⟨x, y, z⟩ := ⟨_, _, _, rfl⟩
    rw [hV] at H1 H2
    unfold res at H1 H2
    clear hV ht h5
    go_enter Tryz.func3, Tryz.ntmps3
    go_wp2_with fail
    refine H1.out.mono ?_
    rintro e w1 ⟨rfl, hb1⟩
    have HB1 := Lib.hid hb1
    have HA1 := Lib.hid (hb1.alloc hb1.size (nb1 x y))
    have HR1 := Lib.hid (H2.out (w1.alloc (nb1 x y)))
    clear hb1
    unfold nb1 at HR1
    go_wp2_with fail
    refine HR1.out.mono ?_
    rintro e w2 ⟨rfl, hb2⟩
    have p2 : w2.heap[w1.heap.size]? = some (nb1 x y) := (hb2.block _ (by simp)).trans (nhh _ _)
    have HB2 := Lib.hid (HA1.out.trans (hb2.mono HA1.out.size))
    have z2 := lth p2
    obtain ⟨p20, p21⟩ := cc2 p2
    have he : eqN x y x y = true := by simp [eqN]
    have HA2 := Lib.hid (HB2.out.alloc HB2.out.size (nb1 x y))
    have HK := Lib.hid (known_any (w2.alloc (nb1 x y)) (HT.out.below HA2.out))
    clear hb2 p2
    unfold nb1 at HK
    have eqr := eq_num
    go_wp2_with fail
    refine HK.out.mono ?_
    rintro e w3 ⟨rfl, hb3⟩
    go_wp2
    go_ret
    exact ⟨rfl, HA2.out.trans (hb3.mono HA2.out.size)⟩
end Go.Proofs.YtfocokjihbenmaaGreatDoor.Fo
