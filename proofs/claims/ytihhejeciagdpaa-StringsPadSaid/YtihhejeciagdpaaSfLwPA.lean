/-
  The law StringsPad.
-/
import Derived.Test.YtihhejeciagdpaaSfKnown
import Derived.Test.YtihhejeciagdpaaSfRPe
import Derived.Test.YtihhejeciagdpaaSfPad
namespace Go.Proofs.Ytihhejeciagdpaa.Sf
open Go.RowKit
set_option linter.unusedVariables false

set_option maxRecDepth 100000 in
set_option maxHeartbeats 4000000 in
theorem StringsPad_any (s : ByteArray) (n : Int) (f : ByteArray) (w : World) (hs : s.size ≤ 9223372036854775807) (hn : I64 n) (hf : f.size ≤ 9223372036854775807) : Calls Try.prog 9 #[.string s, .int .i64 n, .string f] w fun e w' => e = .returned (.bool true) ∧ Below w.heap.size w w' := by
  have HK := Lib.hid known_any
  by_cases h0 : 400 < s.size
  · have hd0 : decide ((400 : Int) < (s.size : Int)) = true := decide_eq_true (by omega)
    clear h0
    go_enter Try.func9, Try.ntmps9
    go_wp2_with fail
    refine (HK.out _).mono ?_
    rintro e w1 ⟨rfl, hb1⟩
    go_wp2
    go_ret
    exact ⟨rfl, hb1⟩
  · have hd0 : decide ((400 : Int) < (s.size : Int)) = false := decide_eq_false (by omega)
    by_cases h1 : 50 < f.size
    · have hd1 : decide ((50 : Int) < (f.size : Int)) = true := decide_eq_true (by omega)
      clear h1
      go_enter Try.func9, Try.ntmps9
      go_wp2_with fail
      refine (HK.out _).mono ?_
      rintro e w1 ⟨rfl, hb1⟩
      go_wp2
      go_ret
      exact ⟨rfl, hb1⟩
    · have hd1 : decide ((50 : Int) < (f.size : Int)) = false := decide_eq_false (by omega)
      have HL := Lib.hid (fun w => PadLeft_any s f n w (by omega) (by omega) hn)
      have HM := Lib.hid (fun w => RPadLeft_any s f n w (by omega) (by omega) hn)
      have HA := Lib.hid (fun w => PadRight_any s f n w (by omega) (by omega) hn)
      have HB := Lib.hid (fun w => RPadRight_any s f n w (by omega) (by omega) hn)
      generalize pL s f n = x at HL HM
      generalize pR s f n = y at HA HB
      generalize padE s f n = z at HL HM HA HB
      go_enter Try.func9, Try.ntmps9
      go_wp2_with fail
      refine (HL.out _).mono ?_
      rintro e w1 ⟨rfl, hb1⟩
      go_wp2_with fail
      refine (HM.out _).mono ?_
      rintro e w2 ⟨rfl, hb2⟩
      go_wp2_with fail
      refine (HA.out _).mono ?_
      rintro e w3 ⟨rfl, hb3⟩
      go_wp2_with fail
      refine (HB.out _).mono ?_
      rintro e w4 ⟨rfl, hb4⟩
      go_wp2_with fail
      refine (HK.out _).mono ?_
      rintro e w5 ⟨rfl, hb5⟩
      go_wp2
      go_ret
      exact ⟨rfl, (bnx (bnx (bnx (bnx hb1 hb2) hb3) hb4) hb5)⟩
end Go.Proofs.Ytihhejeciagdpaa.Sf
