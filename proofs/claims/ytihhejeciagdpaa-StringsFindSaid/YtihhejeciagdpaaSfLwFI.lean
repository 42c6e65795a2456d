/-
  The law StringsFind.
-/
import Derived.Test.YtihhejeciagdpaaSfKnown
import Derived.Test.YtihhejeciagdpaaSfROc
namespace Go.Proofs.Ytihhejeciagdpaa.Sf
open Go.RowKit
set_option linter.unusedVariables false

set_option maxRecDepth 100000 in
set_option maxHeartbeats 4000000 in
theorem StringsFind_any (s t : ByteArray) (f : Int) (w : World) (hs : s.size ≤ 9223372036854775807) (ht : t.size ≤ 9223372036854775807) (hf : I64 f) : Calls Try.prog 5 #[.string s, .string t, .int .i64 f] w fun e w' => e = .returned (.bool true) ∧ Below w.heap.size w w' := by
  have HK := Lib.hid known_any
  by_cases h0 : 400 < s.size
  · have hd0 : decide ((400 : Int) < (s.size : Int)) = true := decide_eq_true (by omega)
    clear h0
    go_enter Try.func5, Try.ntmps5
    go_wp2_with fail
    refine (HK.out _).mono ?_
    rintro e w1 ⟨rfl, hb1⟩
    go_wp2
    go_ret
    exact ⟨rfl, hb1⟩
  · have hd0 : decide ((400 : Int) < (s.size : Int)) = false := decide_eq_false (by omega)
    by_cases h1 : 100 < t.size
    · have hd1 : decide ((100 : Int) < (t.size : Int)) = true := decide_eq_true (by omega)
      clear h1
      go_enter Try.func5, Try.ntmps5
      go_wp2_with fail
      refine (HK.out _).mono ?_
      rintro e w1 ⟨rfl, hb1⟩
      go_wp2
      go_ret
      exact ⟨rfl, hb1⟩
    · have hd1 : decide ((100 : Int) < (t.size : Int)) = false := decide_eq_false (by omega)
      have hs4 : s.size ≤ 4294967281 := by omega
      have ht4 : t.size ≤ 4294967281 := by omega
      have HL := Lib.hid (fun w => Find_any s t f w hs4 ht4)
      have HM := Lib.hid (fun w => RFind_any s t f w hs4 ht4 hf)
      have HA := Lib.hid (fun w => Count_any s t w hs4 ht4)
      have HB := Lib.hid (fun w => RCount_any s t w (by omega) (by omega))
      generalize fnd s t f = x at HL HM
      generalize (occ s t).length = n at HA HB
      go_enter Try.func5, Try.ntmps5
      go_wp2_with fail
      refine (HL.out _).mono ?_
      rintro e w1 ⟨rfl, hb1⟩
      go_wp2_with fail
      refine (HM.out _).mono ?_
      rintro e w2 ⟨rfl, hb2⟩
      go_wp2_with fail
      refine (HA.out _).mono ?_
      rintro e w3 ⟨rfl, hb3⟩
      go_wp2_with fail
      refine (HB.out _).mono ?_
      rintro e w4 ⟨rfl, hb4⟩
      go_wp2_with fail
      refine (HK.out _).mono ?_
      rintro e w5 ⟨rfl, hb5⟩
      go_wp2
      go_ret
      exact ⟨rfl, (bnx (bnx (bnx (bnx hb1 hb2) hb3) hb4) hb5)⟩
end Go.Proofs.Ytihhejeciagdpaa.Sf
