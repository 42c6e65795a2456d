/-
  The law StringsReplaced.
-/
import Derived.Test.YtihhejeciagdpaaSfKnown
import Derived.Test.YtihhejeciagdpaaSfLp
import Derived.Test.YtihhejeciagdpaaSfPad
import Derived.Test.YtihhejeciagdpaaSfRpl
namespace Go.Proofs.Ytihhejeciagdpaa.Sf
open Go.RowKit
set_option linter.unusedVariables false

set_option maxRecDepth 100000 in
set_option maxHeartbeats 4000000 in
theorem StringsReplaced_any (s t u : ByteArray) (w : World) (hs : s.size ≤ 9223372036854775807) (ht : t.size ≤ 9223372036854775807) (hu : u.size ≤ 9223372036854775807) : Calls Try.prog 8 #[.string s, .string t, .string u] w fun e w' => e = .returned (.bool true) ∧ Below w.heap.size w w' := by
  have HK := Lib.hid known_any
  by_cases h0 : 300 < s.size
  · have hd0 : decide ((300 : Int) < (s.size : Int)) = true := decide_eq_true (by omega)
    clear h0
    go_enter Try.func8, Try.ntmps8
    go_wp2_with fail
    refine (HK.out _).mono ?_
    rintro e w1 ⟨rfl, hb1⟩
    go_wp2
    go_ret
    exact ⟨rfl, hb1⟩
  · have hd0 : decide ((300 : Int) < (s.size : Int)) = false := decide_eq_false (by omega)
    by_cases h1 : 50 < t.size
    · have hd1 : decide ((50 : Int) < (t.size : Int)) = true := decide_eq_true (by omega)
      clear h1
      go_enter Try.func8, Try.ntmps8
      go_wp2_with fail
      refine (HK.out _).mono ?_
      rintro e w1 ⟨rfl, hb1⟩
      go_wp2
      go_ret
      exact ⟨rfl, hb1⟩
    · have hd1 : decide ((50 : Int) < (t.size : Int)) = false := decide_eq_false (by omega)
      by_cases h2 : 50 < u.size
      · have hd2 : decide ((50 : Int) < (u.size : Int)) = true := decide_eq_true (by omega)
        clear h2
        go_enter Try.func8, Try.ntmps8
        go_wp2_with fail
        refine (HK.out _).mono ?_
        rintro e w1 ⟨rfl, hb1⟩
        go_wp2
        go_ret
        exact ⟨rfl, hb1⟩
      · have hd2 : decide ((50 : Int) < (u.size : Int)) = false := decide_eq_false (by omega)
        have hs4 : s.size ≤ 4294967281 := by omega
        have ht4 : t.size ≤ 4294967281 := by omega
        have hs6 : s.size ≤ 1048576 := by omega
        have ht6 : t.size ≤ 1048576 := by omega
        have hu6 : u.size ≤ 1048576 := by omega
        have im : I64 (-1) := ⟨by omega, by omega⟩
        have i0 : I64 0 := ⟨by omega, by omega⟩
        have z1 := rp_small (s := s) (t := t) (u := u) (-1) (by omega) (by omega) (by omega)
        have z2 := rp_small (s := s) (t := t) (u := t) (-1) (by omega) (by omega) (by omega)
        have z3 := rp_small (s := s) (t := t) (u := u) 0 (by omega) (by omega) (by omega)
        have e1 : rpS s t u (-1) = rpb s t u (-1) := if_neg (by omega)
        have f1 : rpE s t u (-1) = 0 := if_neg (by omega)
        have e2 : rpS s t t (-1) = s := (if_neg (by omega)).trans (rpb_same s t _)
        have f2 : rpE s t t (-1) = 0 := if_neg (by omega)
        have e3 : rpS s t u 0 = s := (if_neg (by omega)).trans (rpb_none s t u)
        have f3 : rpE s t u 0 = 0 := if_neg (by omega)
        have HC : Hid (∀ w, Calls Try.prog 20 #[.string s, .string t] w fun e w' => e = .returned (.int .i64 ((occ s t).length : Int)) ∧ Below w.heap.size w w') := Lib.hid (fun w => Count_any s t w hs4 ht4)
        have HA : Hid (∀ w, Calls Try.prog 23 #[.string s, .string t, .string u, .int .i64 (-1)] w fun e w' => e = .returned (.tuple #[.string (rpb s t u (-1)), .int .i64 0]) ∧ Below w.heap.size w w') := Lib.hid (fun w => by have := Replace_any s t u (-1) w hs6 ht6 hu6 im; rwa [e1, f1] at this)
        have HB : Hid (∀ w, Calls Try.prog 23 #[.string s, .string t, .string t, .int .i64 (-1)] w fun e w' => e = .returned (.tuple #[.string s, .int .i64 0]) ∧ Below w.heap.size w w') := Lib.hid (fun w => by have := Replace_any s t t (-1) w hs6 ht6 ht6 im; rwa [e2, f2] at this)
        have HD : Hid (∀ w, Calls Try.prog 23 #[.string s, .string t, .string u, .int .i64 0] w fun e w' => e = .returned (.tuple #[.string s, .int .i64 0]) ∧ Below w.heap.size w w') := Lib.hid (fun w => by have := Replace_any s t u 0 w hs6 ht6 hu6 i0; rwa [e3, f3] at this)
        have hz := rpd_size s t u
        have hoc := occ_len s t
        obtain ⟨x, hx⟩ : ∃ x, rpb s t u (-1) = x := ⟨_, rfl⟩
        obtain ⟨c, hc⟩ : ∃ c, (occ s t).length = c := ⟨_, rfl⟩
        rw [hx] at HA hz z1
        rw [hc] at HC hz hoc
        clear e1 e2 e3 f1 f2 f3 z2 z3 hx hc
        obtain ⟨M, hM⟩ : ∃ M : Int, (c : Int) * ((u.size : Int) - (t.size : Int)) = M := ⟨_, rfl⟩
        rw [hM] at hz
        have hc0 : (c : Int) ≤ 300 := by omega
        have hM2 : -15000 ≤ M := by
          have h1 : c * t.size ≤ 300 * 50 := Nat.mul_le_mul (by omega) (by omega)
          have h2 : ((c * t.size : Nat) : Int) = (c : Int) * (t.size : Int) := Int.natCast_mul _ _
          have h3 : (0 : Int) ≤ (c : Int) * (u.size : Int) := Int.mul_nonneg (by omega) (by omega)
          rw [Int.mul_sub] at hM
          omega
        have hM3 : M ≤ 15300 := by
          have h1 : c * u.size ≤ 300 * 50 := Nat.mul_le_mul (by omega) (by omega)
          have h2 : ((c * u.size : Nat) : Int) = (c : Int) * (u.size : Int) := Int.natCast_mul _ _
          have h3 : (0 : Int) ≤ (c : Int) * (t.size : Int) := Int.mul_nonneg (by omega) (by omega)
          rw [Int.mul_sub] at hM
          omega
        have he : ((x.size : Int) == (s.size : Int) + M) = true := by rw [beq_iff_eq]; exact hz
        clear hs4 ht4 hs6 ht6 hu6 im i0 hoc
        go_enter Try.func8, Try.ntmps8
        go_wp2_with fail
        refine (HA.out _).mono ?_
        rintro e w1 ⟨rfl, hb1⟩
        go_wp2_with fail
        refine (HB.out _).mono ?_
        rintro e w2 ⟨rfl, hb2⟩
        go_wp2_with fail
        refine (HD.out _).mono ?_
        rintro e w3 ⟨rfl, hb3⟩
        go_wp2_with fail
        refine (HC.out _).mono ?_
        rintro e w4 ⟨rfl, hb4⟩
        go_wp2_with fail
        refine (HK.out _).mono ?_
        rintro e w5 ⟨rfl, hb5⟩
        go_wp2
        go_ret
        exact ⟨rfl, (bnx (bnx (bnx (bnx hb1 hb2) hb3) hb4) hb5)⟩
end Go.Proofs.Ytihhejeciagdpaa.Sf
