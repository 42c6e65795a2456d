/-
  The law StringsPart.
-/
import Derived.Test.YtihhejeciagdpaaSfKnown
import Derived.Test.YtihhejeciagdpaaSfRDv
import Derived.Test.YtihhejeciagdpaaSfPart
namespace Go.Proofs.Ytihhejeciagdpaa.Sf
open Go.RowKit
set_option linter.unusedVariables false

set_option maxRecDepth 100000 in
set_option maxHeartbeats 4000000 in
theorem StringsPart_any (s t : ByteArray) (i : Int) (w : World) (hs : s.size ≤ 9223372036854775807) (ht : t.size ≤ 9223372036854775807) (hi : I64 i) : Calls Try.prog 11 #[.string s, .string t, .int .i64 i] w fun e w' => e = .returned (.bool true) ∧ Below w.heap.size w w' := by
  have HK := Lib.hid known_any
  by_cases h0 : 400 < s.size
  · have hd0 : decide ((400 : Int) < (s.size : Int)) = true := decide_eq_true (by omega)
    clear h0
    go_enter Try.func11, Try.ntmps11
    go_wp2_with fail
    refine (HK.out _).mono ?_
    rintro e w1 ⟨rfl, hb1⟩
    go_wp2
    go_ret
    exact ⟨rfl, hb1⟩
  · have hd0 : decide ((400 : Int) < (s.size : Int)) = false := decide_eq_false (by omega)
    by_cases h1 : 50 < t.size
    · have hd1 : decide ((50 : Int) < (t.size : Int)) = true := decide_eq_true (by omega)
      clear h1
      go_enter Try.func11, Try.ntmps11
      go_wp2_with fail
      refine (HK.out _).mono ?_
      rintro e w1 ⟨rfl, hb1⟩
      go_wp2
      go_ret
      exact ⟨rfl, hb1⟩
    · have hd1 : decide ((50 : Int) < (t.size : Int)) = false := decide_eq_false (by omega)
      have hs4 : s.size ≤ 4294967281 := by omega
      have ht4 : t.size ≤ 4294967281 := by omega
      have hs6 : s.size ≤ 1048576 := by omega
      have ht6 : t.size ≤ 1048576 := by omega
      have HL := Lib.hid (fun w => Part_any s t i w hs4 ht4 hi)
      have HM := Lib.hid (fun w => RPart_any s t i w hs6 ht6 hi)
      obtain ⟨j, hj⟩ : ∃ j, i.tmod 9 = j := ⟨_, rfl⟩
      have hjb : I64 j := by
        have h1 := Int.lt_tmod_of_pos i (show (0 : Int) < 9 by omega)
        have h2 := Int.tmod_lt_of_pos i (show (0 : Int) < 9 by omega)
        rw [hj] at h1 h2
        exact ⟨by omega, by omega⟩
      have HA := Lib.hid (fun w => Part_any s t j w hs4 ht4 hjb)
      have HB := Lib.hid (fun w => RPart_any s t j w hs6 ht6 hjb)
      generalize part s t i = x at HL HM
      generalize part s t j = y at HA HB
      clear hjb hs4 ht4 hs6 ht6
      go_enter Try.func11, Try.ntmps11
      go_wp2_with fail
      refine (HL.out _).mono ?_
      rintro e w1 ⟨rfl, hb1⟩
      go_wp2_with fail
      refine (HM.out _).mono ?_
      rintro e w2 ⟨rfl, hb2⟩
      go_wp2_with fail
      refine (HA.out _).mono ?_
      rintro e w3 ⟨rfl, hb3⟩
      go_wp2_with fail
      refine (HB.out _).mono ?_
      rintro e w4 ⟨rfl, hb4⟩
      go_wp2_with fail
      refine (HK.out _).mono ?_
      rintro e w5 ⟨rfl, hb5⟩
      go_wp2
      go_ret
      exact ⟨rfl, (bnx (bnx (bnx (bnx hb1 hb2) hb3) hb4) hb5)⟩
end Go.Proofs.Ytihhejeciagdpaa.Sf
