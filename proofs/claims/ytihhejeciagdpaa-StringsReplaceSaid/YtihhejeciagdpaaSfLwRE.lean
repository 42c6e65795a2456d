/-
  The law StringsReplace.
-/
import Derived.Test.YtihhejeciagdpaaSfKnown
import Derived.Test.YtihhejeciagdpaaSfRRe
namespace Go.Proofs.Ytihhejeciagdpaa.Sf
open Go.RowKit
set_option linter.unusedVariables false

set_option maxRecDepth 100000 in
set_option maxHeartbeats 4000000 in
theorem StringsReplace_any (s t u : ByteArray) (m : Int) (w : World) (hs : s.size ≤ 9223372036854775807) (ht : t.size ≤ 9223372036854775807) (hu : u.size ≤ 9223372036854775807) (hm : I64 m) : Calls Try.prog 7 #[.string s, .string t, .string u, .int .i64 m] w fun e w' => e = .returned (.bool true) ∧ Below w.heap.size w w' := by
  have HK := Lib.hid known_any
  by_cases h0 : 400 < s.size
  · have hd0 : decide ((400 : Int) < (s.size : Int)) = true := decide_eq_true (by omega)
    clear h0
    go_enter Try.func7, Try.ntmps7
    go_wp2_with fail
    refine (HK.out _).mono ?_
    rintro e w1 ⟨rfl, hb1⟩
    go_wp2
    go_ret
    exact ⟨rfl, hb1⟩
  · have hd0 : decide ((400 : Int) < (s.size : Int)) = false := decide_eq_false (by omega)
    by_cases h1 : 100 < t.size
    · have hd1 : decide ((100 : Int) < (t.size : Int)) = true := decide_eq_true (by omega)
      clear h1
      go_enter Try.func7, Try.ntmps7
      go_wp2_with fail
      refine (HK.out _).mono ?_
      rintro e w1 ⟨rfl, hb1⟩
      go_wp2
      go_ret
      exact ⟨rfl, hb1⟩
    · have hd1 : decide ((100 : Int) < (t.size : Int)) = false := decide_eq_false (by omega)
      by_cases h2 : 400 < u.size
      · have hd2 : decide ((400 : Int) < (u.size : Int)) = true := decide_eq_true (by omega)
        clear h2
        go_enter Try.func7, Try.ntmps7
        go_wp2_with fail
        refine (HK.out _).mono ?_
        rintro e w1 ⟨rfl, hb1⟩
        go_wp2
        go_ret
        exact ⟨rfl, hb1⟩
      · have hd2 : decide ((400 : Int) < (u.size : Int)) = false := decide_eq_false (by omega)
        have HL := Lib.hid (fun w => Replace_any s t u m w (by omega) (by omega) (by omega) hm)
        have HM := Lib.hid (fun w => RReplace_any s t u m w (by omega) (by omega) (by omega) hm)
        generalize rpS s t u m = x at HL HM
        generalize rpE s t u m = z at HL HM
        go_enter Try.func7, Try.ntmps7
        go_wp2_with fail
        refine (HL.out _).mono ?_
        rintro e w1 ⟨rfl, hb1⟩
        go_wp2_with fail
        refine (HM.out _).mono ?_
        rintro e w2 ⟨rfl, hb2⟩
        go_wp2_with fail
        refine (HK.out _).mono ?_
        rintro e w3 ⟨rfl, hb3⟩
        go_wp2
        go_ret
        exact ⟨rfl, (bnx (bnx hb1 hb2) hb3)⟩
end Go.Proofs.Ytihhejeciagdpaa.Sf
