/-
  The contract of the reference's Parse: texts with a point.
-/
import Derived.Test.YtpehlihbpmcofaaDoorNuRPl
import Derived.Test.YtpehlihbpmcofaaDoorNuRPa
import Derived.Deep.RegionWith
import Derived.Test.YtpehlihbpmcofaaDoorNuForm
import Derived.Test.YtpehlihbpmcofaaDoorNuMake
namespace Go.Proofs.YtpehlihbpmcofaaDoor.Nu
open Go.RowKit
set_option linter.unusedVariables false

theorem undrewTn {w w' : World} (h : Below w.drew.heap.size w.drew w') : Below w.heap.size w w' := (below_drewN (Below.refl w.heap.size w) 1).trans h
set_option maxRecDepth 100000 in
set_option maxHeartbeats 4000000 in
theorem RP_pt_n (s : ByteArray) (w : World) (hs : s.size ≤ 100) (x : UInt8) (h0 : 0 < s.size) (hx : s[0]'h0 = x) (hx1 : x.toNat ≠ 43) (hx2 : x.toNat ≠ 45) (I K va vb : Nat) (hI : run1 s.data.toList 0 = I) (y : UInt8) (h1 : I < s.size) (hy : s[I]'h1 = y) (hy1 : y.toNat = 46) (hK : run1 s.data.toList (I + 1) = s.size) (hb : I ≤ 9) (hm : s.size = I + 1 + K) (hm1 : 1 ≤ K) (hm9 : K ≤ 9) (hva : va < 1000000000) (hvb : vb < 1000000000)
    (CA : Hid (∀ w, Calls Tryd.prog 60 #[.string (s.extract 0 I)] w fun e w' => e = .returned (.int .i64 (va : Int)) ∧ w = w'))
    (CB : Hid (∀ w, Calls Tryd.prog 60 #[.string (s.extract (I + 1) s.size)] w fun e w' => e = .returned (.int .i64 (vb : Int)) ∧ w = w'))
    (HA : Hid (pbody false s.data.toList = fit ((va * 10 ^ K + vb : Nat) : Int) (pw K))) :
    Calls Tryd.prog 36 #[.string s] w fun e w' => e = .returned (.tuple #[.agg #[.int .i64 (pbody false s.data.toList).n, .int .i64 (pbody false s.data.toList).d], .int .i64 (pbody false s.data.toList).e]) ∧ Below w.heap.size w w' := by
  have hsz := Lib.size_eq s
  have q0 : decide ((0 : Int) < (s.size : Int)) = true := decide_eq_true (by omega)
  have q1 : ((x.toNat : Int) == 43) = false := beq_eq_false_iff_ne.2 (by omega)
  have q2 : ((x.toNat : Int) == 45) = false := beq_eq_false_iff_ne.2 (by omega)
  have CD := Lib.hid (fun w => digits_any s 0 w (by omega) (Nat.zero_le _))
  rw [hI] at CD
  have cd2 := fun w => digits_any s (I + 1) w (by omega) (by omega)
  rw [hK, Int.natCast_succ] at cd2
  have CD2 := Lib.hid cd2
  have hpw := pw_nat K
  obtain ⟨w1, w2⟩ := pw_bd hm9
  have hmul : (va : Int) * pw K ≤ 999999999 * 1000000000 := Int.mul_le_mul (by omega) w2 (by omega) (by omega)
  have hmul0 : 0 ≤ (va : Int) * pw K := Int.mul_nonneg (by omega) (by omega)
  have eV : (va : Int) * pw K + (vb : Int) = ((va * 10 ^ K + vb : Nat) : Int) := by rw [hpw]; push_cast; rfl
  obtain ⟨V, hV⟩ : ∃ V : Int, ((va * 10 ^ K + vb : Nat) : Int) = V := ⟨_, rfl⟩
  rw [hV] at eV HA
  have CP := Lib.hid (fun w => Power_q2 K w hm9)
  have CF := Lib.hid (fun w => form_any V (pw K) w (by omega) (by omega) (by omega))
  have g1 : IntKind.i64.wrap ((va : Int) * pw K) = (va : Int) * pw K := IntWalk.i64_in _ (by omega)
  have g2 : IntKind.i64.wrap ((va : Int) * pw K + (vb : Int)) = V := by rw [IntWalk.i64_in _ (by omega)]; exact eV
  have eI : IntKind.i64.wrap ((I : Int) + 1) = (I : Int) + 1 := IntWalk.i64_in _ (by omega)
  have q3 : decide ((I : Int) < (s.size : Int)) = true := decide_eq_true (by omega)
  have q4 : ((y.toNat : Int) == 46) = true := beq_iff_eq.2 (by omega)
  have q5 : decide ((9 : Int) < (I : Int)) = false := decide_eq_false (by omega)
  have s1 : IntKind.i64.wrap ((s.size : Int) - (I : Int)) = (s.size : Int) - (I : Int) := IntWalk.i64_in _ (by omega)
  have s2 : IntKind.i64.wrap ((s.size : Int) - (I : Int) - 1) = (K : Int) := by rw [IntWalk.i64_in _ (by omega)]; omega
  have q6 : decide ((K : Int) < 1) = false := decide_eq_false (by omega)
  have q7 : decide ((9 : Int) < (K : Int)) = false := decide_eq_false (by omega)
  have q8 : ((s.size : Int) == 0) = false := beq_eq_false_iff_ne.2 (by omega)
  have q9 : ((I : Int) == (s.size : Int)) = false := beq_eq_false_iff_ne.2 (by omega)
  have e1 : IntKind.i64.wrap (1 * V) = V := by rw [IntWalk.i64_in _ (by omega)]; omega
  have e1' : IntKind.i64.wrap V = V := IntWalk.i64_in _ (by omega)
  clear hsz hI hK cd2 hy1 hb hm hm1 hm9 hva hvb hpw w1 w2 hmul hmul0 eV hV hx1 hx2
  go_enter Tryd.func36, Tryd.ntmps36
  go_wp2_with fail
  refine (CD.out _).mono ?_
  rintro e w' ⟨rfl, rfl⟩
  go_wp2_with fail
  refine (CD2.out _).mono ?_
  rintro e w' ⟨rfl, rfl⟩
  go_wp2_with fail
  refine (CP.out _).mono ?_
  rintro e w' ⟨rfl, rfl⟩
  go_wp2
  go_region_with (first | (go_at_call 60; (with_reducible refine (CA.out _).mono ?_); rintro e w' ⟨rfl, rfl⟩) | (go_at_call 60; (with_reducible refine (CB.out _).mono ?_); rintro e w' ⟨rfl, rfl⟩) | (go_at_call 45; (with_reducible refine (CF.out _).mono ?_); rintro e w3 ⟨rfl, hb⟩; have hb := undrewTn hb; obtain ⟨hc, hf⟩ := bcell hb; have z0 := size1 hb; have HB := Lib.hid (below1 hb)))
  all_goals
    go_wp2
    exact bodyPost_ret (v := .tuple #[.agg #[.int .i64 (fit V (pw K)).n, .int .i64 (fit V (pw K)).d], .int .i64 (fit V (pw K)).e]) (by simp [results, Tryd.results36, go_sem, hc]) rfl ⟨by rw [HA.out], below_two HB.out _ _⟩
end Go.Proofs.YtpehlihbpmcofaaDoor.Nu
