/-
  The contracts of gcd, Power and below of the reference, and of power and floor of package number.
-/
import Derived.Test.YtfocokjihbenmaaDoorNuLeaf
namespace Go.Proofs.YtfocokjihbenmaaDoor.Nu
open Go.RowKit

theorem pw_succ (k : Nat) : pw (k + 1) = pw k * 10 := by unfold pw; exact Int.pow_succ ..
theorem pw_bd {k : Nat} (h : k ≤ 9) : 1 ≤ pw k ∧ pw k ≤ 1000000000 := by
  rw [pw_nat]
  have h1 : 1 ≤ (10 : Nat) ^ k := Nat.one_le_pow _ _ (by decide)
  have h2 : (10 : Nat) ^ k ≤ 10 ^ 9 := Nat.pow_le_pow_right (by decide) h
  omega
set_option maxHeartbeats 400000 in
theorem power_any (k : Nat) (w : World) (h : k ≤ 9) : Calls Tryd.prog 53 #[.int .i64 (k : Int)] w fun e w' => e = .returned (.int .i64 (pw k)) ∧ w = w' := by
  go_enter Tryd.func53, Tryd.ntmps53
  go_wp2
  go_loop [3, 5] (fun x y => ∃ j : Nat, j ≤ k ∧ x = .int .i64 (pw j) ∧ y = .int .i64 (j : Int)) (fun _ y => k - (intOf y).toNat)
  case atStart => exact ⟨0, by omega, rfl, rfl⟩
  case round =>
    obtain ⟨j, hj, rfl, rfl⟩ := hrel
    by_cases hlt : j < k
    · obtain ⟨b1, b2⟩ := pw_bd (k := j) (by omega)
      have hd : decide (j < k) = true := by simpa using hlt
      have HS := Lib.hid (pw_succ j)
      go_wp2
      go_round
      case rel => exact ⟨j + 1, by omega, by rw [HS.out], by go_num⟩
      case measure => simp [intOf]; omega
    · obtain rfl : j = k := by omega
      go_wp2
      go_ret
      exact ⟨rfl, rfl⟩
/-- Whether a division leaves something of the other sign. -/
def odd (p q : Int) : Bool := (p.tmod q != 0) && (decide (p < 0) != decide (q < 0))
theorem fdiv_odd (p : Int) {q : Int} (hq : q ≠ 0) : Int.fdiv p q = if odd p q then p.tdiv q - 1 else p.tdiv q := by
  have hd : q ∣ p ↔ p.tmod q = 0 := Int.dvd_iff_tmod_eq_zero
  unfold odd
  rw [Int.fdiv_eq_tdiv]
  by_cases hz : p.tmod q = 0
  · rw [if_pos (hd.2 hz)]; simp [hz]
  · rw [if_neg (fun h => hz (hd.1 h))]
    have hb : (p.tmod q != 0) = true := by rw [bne_iff_ne]; exact hz
    rw [hb, Bool.true_and]
    by_cases h1 : p < 0
    · rw [if_neg (show ¬ 0 ≤ p by omega), show decide (p < 0) = true by simpa using h1]
      by_cases h2 : q < 0
      · rw [if_neg (show ¬ 0 ≤ q by omega), show decide (q < 0) = true by simpa using h2, Int.sign_eq_neg_one_of_neg h2]; simp
      · rw [if_pos (show 0 ≤ q by omega), show decide (q < 0) = false by simpa using h2, Int.sign_eq_one_of_pos (by omega)]; simp
    · rw [if_pos (show 0 ≤ p by omega), show decide (p < 0) = false by simpa using h1]
      by_cases h2 : q < 0
      · rw [if_neg (show ¬ 0 ≤ q by omega), show decide (q < 0) = true by simpa using h2]; simp
      · rw [if_pos (show 0 ≤ q by omega), show decide (q < 0) = false by simpa using h2]; simp
theorem fmod_odd (p : Int) {q : Int} (hq : q ≠ 0) : Int.fmod p q = if odd p q then p.tmod q + q else p.tmod q := by
  have h1 := Int.fmod_add_mul_fdiv p q
  have h2 := Int.tmod_add_mul_tdiv p q
  rw [fdiv_odd p hq] at h1
  have h3 : q * (p.tdiv q - 1) = q * p.tdiv q - q := by rw [Int.mul_sub, Int.mul_one]
  cases ho : odd p q
  · rw [ho] at h1
    simp only [Bool.false_eq_true, if_false] at h1 ⊢
    generalize q * p.tdiv q = z at *
    generalize p.tmod q = y at *
    generalize p.fmod q = x at *
    omega
  · rw [ho] at h1
    simp only [if_true] at h1 ⊢
    rw [h3] at h1
    generalize q * p.tdiv q = z at *
    generalize p.tmod q = y at *
    generalize p.fmod q = x at *
    omega
theorem tdiv_bd (p q : Int) {B : Nat} (h : p.natAbs ≤ B) : (p.tdiv q).natAbs ≤ B := by
  rw [Int.natAbs_tdiv]; exact Nat.le_trans (Nat.div_le_self _ _) h
theorem tmod_sign (p : Int) {q : Int} (h : p.tmod q ≠ 0) : decide (p.tmod q < 0) = decide (p < 0) := by
  by_cases h1 : p < 0
  · have h2 : p.tmod q ≤ 0 := by
      have := Int.tmod_nonneg (a := -p) q (by omega)
      rw [Int.neg_tmod] at this
      generalize p.tmod q = x at *
      omega
    have h3 : p.tmod q < 0 := by
      generalize p.tmod q = x at *
      omega
    rw [decide_eq_decide]
    exact ⟨fun _ => h1, fun _ => h3⟩
  · have := Int.tmod_nonneg (a := p) q (by omega)
    rw [decide_eq_decide]
    refine ⟨fun h3 => ?_, fun h3 => absurd h3 h1⟩
    generalize p.tmod q = x at *
    omega

/-- What the walk knows of a division, in its own words. -/
structure Dv (p q : Int) (b : Bool) : Prop where
  r : (p.tmod q != 0) = b
  r' : 0 ≤ p → (p % q != 0) = b
theorem dv (p q : Int) : Dv p q (p.tmod q != 0) := ⟨rfl, fun h => by rw [Int.tmod_eq_emod_of_nonneg h]⟩

set_option maxHeartbeats 1000000 in
theorem floor_any (p q : Int) (w : World) (h1 : p.natAbs ≤ 4611686018427387904) (hq : q ≠ 0) :
    Calls Tryd.prog 84 #[.int .i64 p, .int .i64 q] w fun e w' => e = .returned (.int .i64 (Int.fdiv p q)) ∧ w = w' := by
  have hF := fdiv_odd p hq
  have hb := tdiv_bd p q h1
  have e1 : IntKind.i64.wrap (p.tdiv q) = p.tdiv q := IntWalk.i64_in _ (by omega)
  have e2 : IntKind.i64.wrap (p.tdiv q - 1) = p.tdiv q - 1 := IntWalk.i64_in _ (by omega)
  have hq0 : (q == 0) = false := by simpa using hq
  have hv := dv p q
  unfold odd at hF
  cases hz : (p.tmod q != 0)
  · rw [hz] at hF hv
    by_cases h2 : p < 0
    · have HF := Lib.hid hF; have hr := hv.r; clear hF hz hv
      go_enter Tryd.func84, Tryd.ntmps84
      go_wp2
      go_ret
      exact ⟨ret_int (by rw [HF.out]; simp), rfl⟩
    · have h3 : 0 ≤ p := by omega
      have HT := Lib.hid (Int.tdiv_eq_ediv_of_nonneg (b := q) h3)
      have HF := Lib.hid hF; have hr := hv.r' h3; have hr2 := hv.r; clear hF hz hv
      go_enter Tryd.func84, Tryd.ntmps84
      go_wp2
      go_ret
      exact ⟨ret_int (by rw [HF.out]; simp [HT.out]), rfl⟩
  · rw [hz] at hF hv
    by_cases h2 : p < 0
    · have d1 : decide (p < 0) = true := by simpa using h2
      by_cases h3 : q < 0
      · have d2 : decide (q < 0) = true := by simpa using h3
        rw [d1, d2] at hF
        have HF := Lib.hid hF; have hr := hv.r; clear hF hz hv
        go_enter Tryd.func84, Tryd.ntmps84
        go_wp2
        go_ret
        exact ⟨ret_int (by rw [HF.out]; simp), rfl⟩
      · have d2 : decide (q < 0) = false := by simpa using h3
        rw [d1, d2] at hF
        have HF := Lib.hid hF; have hr := hv.r; clear hF hz hv
        go_enter Tryd.func84, Tryd.ntmps84
        go_wp2
        go_ret
        exact ⟨ret_int (by rw [HF.out]; simp), rfl⟩
    · have d1 : decide (p < 0) = false := by simpa using h2
      have h5 : 0 ≤ p := by omega
      have HT := Lib.hid (Int.tdiv_eq_ediv_of_nonneg (b := q) h5)
      by_cases h3 : q < 0
      · have d2 : decide (q < 0) = true := by simpa using h3
        rw [d1, d2] at hF
        have HF := Lib.hid hF; have hr := hv.r' h5; have hr2 := hv.r; clear hF hz hv
        go_enter Tryd.func84, Tryd.ntmps84
        go_wp2
        go_ret
        exact ⟨ret_int (by rw [HF.out]; simp [HT.out]), rfl⟩
      · have d2 : decide (q < 0) = false := by simpa using h3
        rw [d1, d2] at hF
        have HF := Lib.hid hF; have hr := hv.r' h5; have hr2 := hv.r; clear hF hz hv
        go_enter Tryd.func84, Tryd.ntmps84
        go_wp2
        go_ret
        exact ⟨ret_int (by rw [HF.out]; simp [HT.out]), rfl⟩
end Go.Proofs.YtfocokjihbenmaaDoor.Nu
