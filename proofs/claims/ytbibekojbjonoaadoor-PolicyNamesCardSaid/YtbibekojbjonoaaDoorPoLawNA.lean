/-
  The law PolicyNames.
-/
import Derived.Test.YtbibekojbjonoaaDoorPoKnown
import Derived.Test.YtbibekojbjonoaaDoorPoRLeaf
namespace Go.Proofs.YtbibekojbjonoaaDoor.Po
open Go.RowKit Go.Shelf
set_option linter.unusedVariables false
set_option linter.unusedSimpArgs false

set_option maxRecDepth 100000 in
set_option maxHeartbeats 2000000 in
theorem PolicyNames_any (s : ByteArray) (w : World) (hs : s.size ≤ maxLen) (ht : Tb w) : Calls Tryd.prog 3 #[.string s] w fun e w' => e = .returned (.bool true) ∧ Below w.heap.size w w' := by
  have HK := Lib.hid (known_any w ht)
  have HP := Lib.hid (fun W => IsName_any s W hs)
  have HR := Lib.hid (fun W => RIsName_any s W hs)
  have hz : (s.size : Int) ≤ 9223372036854775807 := by unfold maxLen at hs; omega
  generalize isName s.data.toList = b at HP HR
  by_cases h : 300 < s.size
  · have d : decide ((300 : Int) < (s.size : Int)) = true := d_t (by omega)
    clear hs ht
    go_enter Tryd.func3, Tryd.ntmps3
    go_wp2
    go_ret
    exact ⟨rfl, Below.refl _ _⟩
  · have d : decide ((300 : Int) < (s.size : Int)) = false := d_f (by omega)
    have hbb : (b == b) = true := by cases b <;> rfl
    clear hs ht
    go_enter Tryd.func3, Tryd.ntmps3
    go_wp2_with fail
    with_reducible refine (HP.out _).mono ?_
    rintro e w1 ⟨rfl, rfl⟩
    go_wp2_with fail
    with_reducible refine (HR.out _).mono ?_
    rintro e w1 ⟨rfl, rfl⟩
    go_wp2_with fail
    with_reducible refine (HK.out).mono ?_
    rintro e w1 ⟨rfl, hb⟩
    go_wp2
    go_ret
    exact ⟨rfl, hb⟩
end Go.Proofs.YtbibekojbjonoaaDoor.Po
