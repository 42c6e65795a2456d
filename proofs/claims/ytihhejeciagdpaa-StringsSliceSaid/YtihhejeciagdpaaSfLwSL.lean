/-
  The law StringsSlice.
-/
import Derived.Test.YtihhejeciagdpaaSfKnown
import Derived.Test.YtihhejeciagdpaaSfRSl
namespace Go.Proofs.Ytihhejeciagdpaa.Sf
open Go.RowKit
set_option linter.unusedVariables false

set_option maxRecDepth 100000 in
set_option maxHeartbeats 4000000 in
theorem StringsSlice_any (s : ByteArray) (f n : Int) (w : World) (hs : s.size ≤ 9223372036854775807) (hf : I64 f) (hn : I64 n) : Calls Try.prog 3 #[.string s, .int .i64 f, .int .i64 n] w fun e w' => e = .returned (.bool true) ∧ Below w.heap.size w w' := by
  have HK := Lib.hid known_any
  by_cases h0 : 400 < s.size
  · have hd0 : decide ((400 : Int) < (s.size : Int)) = true := decide_eq_true (by omega)
    clear h0
    go_enter Try.func3, Try.ntmps3
    go_wp2_with fail
    refine (HK.out _).mono ?_
    rintro e w1 ⟨rfl, hb1⟩
    go_wp2
    go_ret
    exact ⟨rfl, hb1⟩
  · have hd0 : decide ((400 : Int) < (s.size : Int)) = false := decide_eq_false (by omega)
    have hs4 : s.size ≤ 4294967281 := by omega
    have HL := Lib.hid (fun w => Length_any s w hs4)
    have HM := Lib.hid (fun w => RLength_any s w hs4)
    have HA := Lib.hid (fun w => Slice_any s f n w hs4 hf hn)
    have HB := Lib.hid (fun w => RSlice_any s f n w hs4 hf hn)
    generalize slice s f n = x at HA HB
    generalize rc s = R at HL HM
    go_enter Try.func3, Try.ntmps3
    go_wp2_with fail
    refine (HL.out _).mono ?_
    rintro e w1 ⟨rfl, hb1⟩
    go_wp2_with fail
    refine (HM.out _).mono ?_
    rintro e w2 ⟨rfl, hb2⟩
    go_wp2_with fail
    refine (HA.out _).mono ?_
    rintro e w3 ⟨rfl, hb3⟩
    go_wp2_with fail
    refine (HB.out _).mono ?_
    rintro e w4 ⟨rfl, hb4⟩
    go_wp2_with fail
    refine (HK.out _).mono ?_
    rintro e w5 ⟨rfl, hb5⟩
    go_wp2
    go_ret
    exact ⟨rfl, (bnx (bnx (bnx (bnx hb1 hb2) hb3) hb4) hb5)⟩
end Go.Proofs.Ytihhejeciagdpaa.Sf
