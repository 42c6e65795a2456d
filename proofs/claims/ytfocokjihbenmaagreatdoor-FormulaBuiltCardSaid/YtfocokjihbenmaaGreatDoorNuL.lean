/-
  The contracts of size, inRange, divisor, power and floor of package number and of abs, gcd, Power and below of its reference.
  The contracts of gcd, Power and below of the reference, and of power and floor of package number.
  The contracts of fit and Valid of package number, and of form and Valid of its reference.
  The contracts of Valid of package number and of its reference.
-/
import Derived.Test.YtfocokjihbenmaaGreatDoorChecked
import Derived.Test.YtfocokjihbenmaaGreatDoorNuT
import Derived.WalkKit
import Derived.WalkSpells
import Derived.WalkLawsBesides
import Derived.Outline
import Derived.Deep.QuietTactic
import Derived.BigQuiet
import Derived.Lib.Hide
import Derived.IntWalk
import Derived.Deep.RegionHeld3
namespace Go.Proofs.YtfocokjihbenmaaGreatDoor.Nu
open Go.RowKit

theorem ret_int {k : IntKind} {a b : Int} (h : a = b) : Ending.returned (.int k a) = .returned (.int k b) := by rw [h]
theorem ret_bool {a b : Bool} (h : a = b) : Ending.returned (.bool a) = .returned (.bool b) := by rw [h]
theorem ret_str {a b : ByteArray} (h : a = b) : Ending.returned (.string a) = .returned (.string b) := by rw [h]
theorem below_drewN {B : Nat} {a w : World} (h : Below B a w) (n : Nat) : Below B a (w.drewN n) := ⟨h.os, h.tape, h.output, h.size, h.block⟩

theorem size_any (i : Int) (w : World) (h1 : -4611686018427387904 ≤ i) (h2 : i ≤ 4611686018427387904) : Calls Tryz.prog 115 #[.int .i64 i] w fun e w' => e = .returned (.int .i64 (i.natAbs : Int)) ∧ w = w' := by
  go_enter Tryz.func115, Tryz.ntmps115
  go_wp2
  all_goals go_ret
  all_goals exact ⟨ret_int (by omega), rfl⟩
theorem abs_any (i : Int) (w : World) (h1 : -4611686018427387904 ≤ i) (h2 : i ≤ 4611686018427387904) : Calls Tryz.prog 43 #[.int .i64 i] w fun e w' => e = .returned (.int .i64 (i.natAbs : Int)) ∧ w = w' := by
  go_enter Tryz.func43, Tryz.ntmps43
  go_wp2
  all_goals go_ret
  all_goals exact ⟨ret_int (by omega), rfl⟩
theorem inRange_any (i : Int) (w : World) : Calls Tryz.prog 99 #[.int .i64 i] w fun e w' => e = .returned (.bool (inB i)) ∧ w = w' := by
  unfold inB
  by_cases h1 : -1000000000 ≤ i
  · go_enter Tryz.func99, Tryz.ntmps99
    go_wp2
    go_ret
    exact ⟨ret_bool (by simp [h1]), rfl⟩
  · go_enter Tryz.func99, Tryz.ntmps99
    go_wp2
    go_ret
    exact ⟨ret_bool (by simp; omega), rfl⟩
theorem gcd_step {a b : Int} (_h : b ≠ 0) : Int.gcd b (a.tmod b) = Int.gcd a b := by
  rw [Int.gcd_comm a b]
  unfold Int.gcd
  rw [Int.natAbs_tmod, Nat.gcd_comm b.natAbs (a.natAbs % b.natAbs), ← Nat.gcd_rec]
theorem tmod_lt (a : Int) {b : Int} (h : b ≠ 0) : (a.tmod b).natAbs < b.natAbs := by
  rw [Int.natAbs_tmod]; exact Nat.mod_lt _ (by omega)
set_option maxHeartbeats 400000 in
theorem divisor_any (a b : Int) (w : World) (h1 : a.natAbs ≤ 4611686018427387904) (h2 : b.natAbs ≤ 4611686018427387904) :
    Calls Tryz.prog 98 #[.int .i64 a, .int .i64 b] w fun e w' => e = .returned (.int .i64 (gc a b)) ∧ ∃ n, w' = w.drewN n := by
  go_enter Tryz.func98, Tryz.ntmps98
  go_wp2
  go_loopw [0, 1] (fun x y wr => ∃ (p q : Int) (nq : Nat), x = .int .i64 p ∧ y = .int .i64 q ∧ p.natAbs ≤ 4611686018427387904 ∧ q.natAbs ≤ 4611686018427387904 ∧ Hid (Int.gcd p q = Int.gcd a b) ∧ Hid (wr = w.drewN nq)) (fun _ y _ => (intOf y).natAbs)
  case atStart => exact ⟨a, b, 0, rfl, rfl, h1, h2, Lib.hid rfl, Lib.hid rfl⟩
  case round =>
    obtain ⟨p, q, nq, rfl, rfl, h3, h4, HG, HW⟩ := hrel
    by_cases hq : q = 0
    · subst hq
      go_wp2_with fail
      refine (size_any _ _ (by omega) (by omega)).mono ?_
      rintro e w' ⟨rfl, rfl⟩
      go_wp2
      go_ret
      exact ⟨ret_int (by unfold gc; rw [← HG.out]; simp), nq, HW.out⟩
    · have hd : (q != 0) = true := by rw [bne_iff_ne]; exact hq
      have hlt := tmod_lt p hq
      have hs := gcd_step (a := p) hq
      have HS := Lib.hid hs; clear hs
      go_wp2
      go_region
      go_wp2
      go_roundw
      case rel => exact ⟨q, _, nq + 1, rfl, rfl, h4, by omega, Lib.hid (HS.out.trans HG.out), Lib.hid (by first | rfl | (rw [HW.out]; rfl))⟩
      case measure => simp only [intOf]; exact hlt
end Go.Proofs.YtfocokjihbenmaaGreatDoor.Nu

namespace Go.Proofs.YtfocokjihbenmaaGreatDoor.Nu
open Go.RowKit

set_option maxHeartbeats 400000 in
theorem gcd_any (a b : Int) (w : World) (h0 : 0 ≤ a) (h0' : 0 ≤ b) (h1 : a ≤ 4611686018427387904) (h2 : b ≤ 4611686018427387904) :
    Calls Tryz.prog 42 #[.int .i64 a, .int .i64 b] w fun e w' => e = .returned (.int .i64 (gc a b)) ∧ ∃ n, w' = w.drewN n := by
  go_enter Tryz.func42, Tryz.ntmps42
  go_wp2
  go_loopw [0, 1] (fun x y wr => ∃ (p q : Int) (nq : Nat), x = .int .i64 p ∧ y = .int .i64 q ∧ 0 ≤ p ∧ 0 ≤ q ∧ p ≤ 4611686018427387904 ∧ q ≤ 4611686018427387904 ∧ Hid (Int.gcd p q = Int.gcd a b) ∧ Hid (wr = w.drewN nq)) (fun _ y _ => (intOf y).natAbs)
  case atStart => exact ⟨a, b, 0, rfl, rfl, h0, h0', h1, h2, Lib.hid rfl, Lib.hid rfl⟩
  case round =>
    obtain ⟨p, q, nq, rfl, rfl, h5, h6, h3, h4, HG, HW⟩ := hrel
    by_cases hq : 0 < q
    · have hd : decide (0 < q) = true := by simpa using hq
      have hlt := tmod_lt p (show q ≠ 0 by omega)
      have hs := gcd_step (a := p) (show q ≠ 0 by omega)
      have hm : p.tmod q = p % q := Int.tmod_eq_emod_of_nonneg h5
      rw [hm] at hlt hs
      have h7 := Int.emod_nonneg p (show q ≠ 0 by omega)
      have HS := Lib.hid hs; clear hs hm
      go_wp2
      go_region
      go_wp2
      go_roundw
      case rel => exact ⟨q, _, nq + 1, rfl, rfl, h6, h7, h4, by omega, Lib.hid (HS.out.trans HG.out), Lib.hid (by first | rfl | (rw [HW.out]; rfl))⟩
      case measure => simp only [intOf]; exact hlt
    · obtain rfl : q = 0 := by omega
      go_wp2
      go_ret
      exact ⟨ret_int (by unfold gc; rw [← HG.out]; simp; omega), nq, HW.out⟩

theorem pw_succ (k : Nat) : pw (k + 1) = pw k * 10 := by unfold pw; exact Int.pow_succ ..
theorem pw_bd {k : Nat} (h : k ≤ 9) : 1 ≤ pw k ∧ pw k ≤ 1000000000 := by
  rw [pw_nat]
  have h1 : 1 ≤ (10 : Nat) ^ k := Nat.one_le_pow _ _ (by decide)
  have h2 : (10 : Nat) ^ k ≤ 10 ^ 9 := Nat.pow_le_pow_right (by decide) h
  omega
set_option maxHeartbeats 400000 in
theorem power_any (k : Nat) (w : World) (h : k ≤ 9) : Calls Tryz.prog 60 #[.int .i64 (k : Int)] w fun e w' => e = .returned (.int .i64 (pw k)) ∧ w = w' := by
  go_enter Tryz.func60, Tryz.ntmps60
  go_wp2
  go_loop [3, 5] (fun x y => ∃ j : Nat, j ≤ k ∧ x = .int .i64 (pw j) ∧ y = .int .i64 (j : Int)) (fun _ y => k - (intOf y).toNat)
  case atStart => exact ⟨0, by omega, rfl, rfl⟩
  case round =>
    obtain ⟨j, hj, rfl, rfl⟩ := hrel
    by_cases hlt : j < k
    · obtain ⟨b1, b2⟩ := pw_bd (k := j) (by omega)
      have hd : decide (j < k) = true := by simpa using hlt
      have HS := Lib.hid (pw_succ j)
      go_wp2
      go_round
      case rel => exact ⟨j + 1, by omega, by rw [HS.out], by go_num⟩
      case measure => simp [intOf]; omega
    · obtain rfl : j = k := by omega
      go_wp2
      go_ret
      exact ⟨rfl, rfl⟩
set_option maxHeartbeats 400000 in
theorem Power_any (k : Nat) (w : World) (h : k ≤ 9) : Calls Tryz.prog 81 #[.int .i64 (k : Int)] w fun e w' => e = .returned (.int .i64 (pw k)) ∧ w = w' := by
  go_enter Tryz.func81, Tryz.ntmps81
  go_wp2
  go_loop [3, 4] (fun x y => ∃ j : Nat, j ≤ k ∧ x = .int .i64 (pw j) ∧ y = .int .i64 (j : Int)) (fun _ y => k - (intOf y).toNat)
  case atStart => exact ⟨0, by omega, rfl, rfl⟩
  case round =>
    obtain ⟨j, hj, rfl, rfl⟩ := hrel
    by_cases hlt : j < k
    · obtain ⟨b1, b2⟩ := pw_bd (k := j) (by omega)
      have hd : decide (j < k) = true := by simpa using hlt
      have HS := Lib.hid (pw_succ j)
      go_wp2
      go_round
      case rel => exact ⟨j + 1, by omega, by rw [HS.out], by go_num⟩
      case measure => simp [intOf]; omega
    · obtain rfl : j = k := by omega
      go_wp2
      go_ret
      exact ⟨rfl, rfl⟩

/-- Whether a division leaves something of the other sign. -/
def odd (p q : Int) : Bool := (p.tmod q != 0) && (decide (p < 0) != decide (q < 0))
theorem fdiv_odd (p : Int) {q : Int} (hq : q ≠ 0) : Int.fdiv p q = if odd p q then p.tdiv q - 1 else p.tdiv q := by
  have hd : q ∣ p ↔ p.tmod q = 0 := Int.dvd_iff_tmod_eq_zero
  unfold odd
  rw [Int.fdiv_eq_tdiv]
  by_cases hz : p.tmod q = 0
  · rw [if_pos (hd.2 hz)]; simp [hz]
  · rw [if_neg (fun h => hz (hd.1 h))]
    have hb : (p.tmod q != 0) = true := by rw [bne_iff_ne]; exact hz
    rw [hb, Bool.true_and]
    by_cases h1 : p < 0
    · rw [if_neg (show ¬ 0 ≤ p by omega), show decide (p < 0) = true by simpa using h1]
      by_cases h2 : q < 0
      · rw [if_neg (show ¬ 0 ≤ q by omega), show decide (q < 0) = true by simpa using h2, Int.sign_eq_neg_one_of_neg h2]; simp
      · rw [if_pos (show 0 ≤ q by omega), show decide (q < 0) = false by simpa using h2, Int.sign_eq_one_of_pos (by omega)]; simp
    · rw [if_pos (show 0 ≤ p by omega), show decide (p < 0) = false by simpa using h1]
      by_cases h2 : q < 0
      · rw [if_neg (show ¬ 0 ≤ q by omega), show decide (q < 0) = true by simpa using h2]; simp
      · rw [if_pos (show 0 ≤ q by omega), show decide (q < 0) = false by simpa using h2]; simp
theorem fmod_odd (p : Int) {q : Int} (hq : q ≠ 0) : Int.fmod p q = if odd p q then p.tmod q + q else p.tmod q := by
  have h1 := Int.fmod_add_mul_fdiv p q
  have h2 := Int.tmod_add_mul_tdiv p q
  rw [fdiv_odd p hq] at h1
  have h3 : q * (p.tdiv q - 1) = q * p.tdiv q - q := by rw [Int.mul_sub, Int.mul_one]
  cases ho : odd p q
  · rw [ho] at h1
    simp only [Bool.false_eq_true, if_false] at h1 ⊢
    generalize q * p.tdiv q = z at *
    generalize p.tmod q = y at *
    generalize p.fmod q = x at *
    omega
  · rw [ho] at h1
    simp only [if_true] at h1 ⊢
    rw [h3] at h1
    generalize q * p.tdiv q = z at *
    generalize p.tmod q = y at *
    generalize p.fmod q = x at *
    omega
theorem tdiv_bd (p q : Int) {B : Nat} (h : p.natAbs ≤ B) : (p.tdiv q).natAbs ≤ B := by
  rw [Int.natAbs_tdiv]; exact Nat.le_trans (Nat.div_le_self _ _) h
theorem tmod_sign (p : Int) {q : Int} (h : p.tmod q ≠ 0) : decide (p.tmod q < 0) = decide (p < 0) := by
  by_cases h1 : p < 0
  · have h2 : p.tmod q ≤ 0 := by
      have := Int.tmod_nonneg (a := -p) q (by omega)
      rw [Int.neg_tmod] at this
      generalize p.tmod q = x at *
      omega
    have h3 : p.tmod q < 0 := by
      generalize p.tmod q = x at *
      omega
    rw [decide_eq_decide]
    exact ⟨fun _ => h1, fun _ => h3⟩
  · have := Int.tmod_nonneg (a := p) q (by omega)
    rw [decide_eq_decide]
    refine ⟨fun h3 => ?_, fun h3 => absurd h3 h1⟩
    generalize p.tmod q = x at *
    omega

/-- What the walk knows of a division, in its own words. -/
structure Dv (p q : Int) (b : Bool) : Prop where
  r : (p.tmod q != 0) = b
  r' : 0 ≤ p → (p % q != 0) = b
theorem dv (p q : Int) : Dv p q (p.tmod q != 0) := ⟨rfl, fun h => by rw [Int.tmod_eq_emod_of_nonneg h]⟩

set_option maxHeartbeats 1000000 in
theorem floor_any (p q : Int) (w : World) (h1 : p.natAbs ≤ 4611686018427387904) (hq : q ≠ 0) :
    Calls Tryz.prog 101 #[.int .i64 p, .int .i64 q] w fun e w' => e = .returned (.int .i64 (Int.fdiv p q)) ∧ w = w' := by
  have hF := fdiv_odd p hq
  have hb := tdiv_bd p q h1
  have e1 : IntKind.i64.wrap (p.tdiv q) = p.tdiv q := IntWalk.i64_in _ (by omega)
  have e2 : IntKind.i64.wrap (p.tdiv q - 1) = p.tdiv q - 1 := IntWalk.i64_in _ (by omega)
  have hq0 : (q == 0) = false := by simpa using hq
  have hv := dv p q
  unfold odd at hF
  cases hz : (p.tmod q != 0)
  · rw [hz] at hF hv
    by_cases h2 : p < 0
    · have HF := Lib.hid hF; have hr := hv.r; clear hF hz hv
      go_enter Tryz.func101, Tryz.ntmps101
      go_wp2
      go_ret
      exact ⟨ret_int (by rw [HF.out]; simp), rfl⟩
    · have h3 : 0 ≤ p := by omega
      have HT := Lib.hid (Int.tdiv_eq_ediv_of_nonneg (b := q) h3)
      have HF := Lib.hid hF; have hr := hv.r' h3; have hr2 := hv.r; clear hF hz hv
      go_enter Tryz.func101, Tryz.ntmps101
      go_wp2
      go_ret
      exact ⟨ret_int (by rw [HF.out]; simp [HT.out]), rfl⟩
  · rw [hz] at hF hv
    by_cases h2 : p < 0
    · have d1 : decide (p < 0) = true := by simpa using h2
      by_cases h3 : q < 0
      · have d2 : decide (q < 0) = true := by simpa using h3
        rw [d1, d2] at hF
        have HF := Lib.hid hF; have hr := hv.r; clear hF hz hv
        go_enter Tryz.func101, Tryz.ntmps101
        go_wp2
        go_ret
        exact ⟨ret_int (by rw [HF.out]; simp), rfl⟩
      · have d2 : decide (q < 0) = false := by simpa using h3
        rw [d1, d2] at hF
        have HF := Lib.hid hF; have hr := hv.r; clear hF hz hv
        go_enter Tryz.func101, Tryz.ntmps101
        go_wp2
        go_ret
        exact ⟨ret_int (by rw [HF.out]; simp), rfl⟩
    · have d1 : decide (p < 0) = false := by simpa using h2
      have h5 : 0 ≤ p := by omega
      have HT := Lib.hid (Int.tdiv_eq_ediv_of_nonneg (b := q) h5)
      by_cases h3 : q < 0
      · have d2 : decide (q < 0) = true := by simpa using h3
        rw [d1, d2] at hF
        have HF := Lib.hid hF; have hr := hv.r' h5; have hr2 := hv.r; clear hF hz hv
        go_enter Tryz.func101, Tryz.ntmps101
        go_wp2
        go_ret
        exact ⟨ret_int (by rw [HF.out]; simp [HT.out]), rfl⟩
      · have d2 : decide (q < 0) = false := by simpa using h3
        rw [d1, d2] at hF
        have HF := Lib.hid hF; have hr := hv.r' h5; have hr2 := hv.r; clear hF hz hv
        go_enter Tryz.func101, Tryz.ntmps101
        go_wp2
        go_ret
        exact ⟨ret_int (by rw [HF.out]; simp [HT.out]), rfl⟩
set_option maxHeartbeats 1000000 in
theorem below_any (p q : Int) (w : World) (h1 : q.natAbs ≤ 4611686018427387904) (hq : q ≠ 0) :
    Calls Tryz.prog 30 #[.int .i64 p, .int .i64 q] w fun e w' => e = .returned (.int .i64 (Int.fmod p q)) ∧ w = w' := by
  have hF := fmod_odd p hq
  have hb := tmod_lt p hq
  have hq0 : (q == 0) = false := by simpa using hq
  have hv := dv p q
  unfold odd at hF
  cases hz : (p.tmod q != 0)
  · rw [hz] at hF hv
    by_cases h2 : p < 0
    · have HF := Lib.hid hF; have hr := hv.r; clear hF hz hv
      go_enter Tryz.func30, Tryz.ntmps30
      go_wp2
      go_ret
      exact ⟨ret_int (by rw [HF.out]; simp), rfl⟩
    · have h3 : 0 ≤ p := by omega
      have HT := Lib.hid (Int.tmod_eq_emod_of_nonneg (b := q) h3)
      have HF := Lib.hid hF; have hr := hv.r' h3; have hr2 := hv.r; clear hF hz hv
      go_enter Tryz.func30, Tryz.ntmps30
      go_wp2
      go_ret
      exact ⟨ret_int (by rw [HF.out]; simp [HT.out]), rfl⟩
  · have hs := tmod_sign p (show p.tmod q ≠ 0 from bne_iff_ne.1 hz)
    rw [hz] at hF hv
    by_cases h2 : p < 0
    · have d1 : decide (p < 0) = true := by simpa using h2
      rw [d1] at hs
      have e2 : IntKind.i64.wrap (p.tmod q + q) = p.tmod q + q := IntWalk.i64_in _ (by generalize p.tmod q = x at *; omega)
      by_cases h3 : q < 0
      · have d2 : decide (q < 0) = true := by simpa using h3
        rw [d1, d2] at hF
        have HF := Lib.hid hF; have hr := hv.r; clear hF hz hv
        go_enter Tryz.func30, Tryz.ntmps30
        go_wp2
        go_ret
        exact ⟨ret_int (by rw [HF.out]; simp), rfl⟩
      · have d2 : decide (q < 0) = false := by simpa using h3
        rw [d1, d2] at hF
        have HF := Lib.hid hF; have hr := hv.r; clear hF hz hv
        go_enter Tryz.func30, Tryz.ntmps30
        go_wp2
        go_ret
        exact ⟨ret_int (by rw [HF.out]; simp), rfl⟩
    · have d1 : decide (p < 0) = false := by simpa using h2
      have h5 : 0 ≤ p := by omega
      have hT := Int.tmod_eq_emod_of_nonneg (b := q) h5
      rw [d1, hT] at hs
      rw [hT] at hb
      have e2 : IntKind.i64.wrap (p % q + q) = p % q + q := IntWalk.i64_in _ (by generalize p % q = x at *; omega)
      have HT := Lib.hid hT; clear hT
      by_cases h3 : q < 0
      · have d2 : decide (q < 0) = true := by simpa using h3
        rw [d1, d2] at hF
        have HF := Lib.hid hF; have hr := hv.r' h5; have hr2 := hv.r; clear hF hz hv
        go_enter Tryz.func30, Tryz.ntmps30
        go_wp2
        go_ret
        exact ⟨ret_int (by rw [HF.out]; simp [HT.out]), rfl⟩
      · have d2 : decide (q < 0) = false := by simpa using h3
        rw [d1, d2] at hF
        have HF := Lib.hid hF; have hr := hv.r' h5; have hr2 := hv.r; clear hF hz hv
        go_enter Tryz.func30, Tryz.ntmps30
        go_wp2
        go_ret
        exact ⟨ret_int (by rw [HF.out]; simp [HT.out]), rfl⟩
end Go.Proofs.YtfocokjihbenmaaGreatDoor.Nu

namespace Go.Proofs.YtfocokjihbenmaaGreatDoor.Nu
open Go.RowKit

/-- What the division by the common divisor gives, in the walk's own words. -/
theorem fn_tdiv (n d : Int) : (sn n d).tdiv (gc n d) = fn n d := by unfold fn; exact Int.tdiv_eq_ediv_of_dvd (gc_sn n d)
theorem fd_tdiv (n d : Int) : (sd d).tdiv (gc n d) = fd n d := by unfold fd; exact Int.tdiv_eq_ediv_of_dvd (gc_sd n d)
theorem gc_neg (n d : Int) : gc (-n) (-d) = gc n d := by unfold gc; simp
theorem fn_bd (n d : Int) {B : Nat} (h : n.natAbs ≤ B) : (fn n d).natAbs ≤ B := by
  rw [← fn_tdiv]; refine tdiv_bd _ _ ?_
  unfold sn; split <;> omega
theorem fd_bd (n d : Int) {B : Nat} (h : d.natAbs ≤ B) : (fd n d).natAbs ≤ B := by
  rw [← fd_tdiv]; refine tdiv_bd _ _ ?_
  unfold sd; split <;> omega
theorem fitB_in {n d : Int} (hd : d ≠ 0) : fitB n d = (inB (fn n d) && inB (fd n d)) := by
  have := fd_pos n hd
  unfold fitB inB
  rw [Bool.eq_iff_iff]; simp; omega

/-- The two cells of a result, set. -/
theorem below_two {w W : World} (h : Below w.heap.size w W) (u v : Value) : Below w.heap.size w ((W.setCell ⟨w.heap.size, 0, none⟩ u).setCell ⟨w.heap.size, 1, none⟩ v) :=
  (h.setCell (Nat.le_refl _) _).setCell (Nat.le_refl _) _
set_option maxRecDepth 100000 in
set_option maxHeartbeats 1000000 in
theorem fit_any (n d : Int) (w : World) (h1 : n.natAbs ≤ 4000000000000000000) (h2 : d.natAbs ≤ 4000000000000000000) (hd : d ≠ 0) :
    Calls Tryz.prog 59 #[.int .i64 n, .int .i64 d] w fun e w' => e = .returned (.tuple #[.agg #[.int .i64 (fit n d).n, .int .i64 (fit n d).d], .int .i64 (fit n d).e]) ∧ Below w.heap.size w w' := by
  have hg := gc_pos n hd
  have hB := fitB_in (n := n) hd
  have ef := fn_tdiv n d; have ed := fd_tdiv n d
  have b1 := fn_bd n d h1; have b2 := fd_bd n d h2
  have e1 : IntKind.i64.wrap (fn n d) = fn n d := IntWalk.i64_in _ (by omega)
  have e2 : IntKind.i64.wrap (fd n d) = fd n d := IntWalk.i64_in _ (by omega)
  have hg0 : (gc n d == 0) = false := by rw [beq_eq_false_iff_ne]; omega
  by_cases hs : d < 0
  · have es : sn n d = -n := by unfold sn; rw [if_pos hs]
    have es2 : sd d = -d := by unfold sd; rw [if_pos hs]
    rw [es] at ef; rw [es2] at ed
    have ed2 : (-d) / gc n d = fd n d := by unfold fd; rw [es2]
    clear es es2
    go_enter Tryz.func59, Tryz.ntmps59
    go_wp2_with fail
    refine (divisor_any (-n) (-d) _ (by omega) (by omega)).mono ?_
    rintro e w' ⟨rfl, k, rfl⟩
    have EN := gc_neg n d
    go_wp2
    go_region
    go_wp2_with fail
    refine (inRange_any _ _).mono ?_
    rintro e w' ⟨rfl, rfl⟩
    cases hi1 : inB (fn n d)
    · rw [hi1] at hB
      have HF : Hid (fit n d = ⟨0, 0, 15⟩) := Lib.hid (by unfold fit; rw [hB]; rfl)
      clear hB
      go_wp2
      exact bodyPost_ret (v := .tuple #[.agg #[.int .i64 0, .int .i64 0], .int .i64 15]) (by simp [results, Tryz.results59, go_sem]) rfl ⟨by rw [HF.out], below_two (below_drewN ((Below.refl _ _).alloc (Nat.le_refl _) _) _) _ _⟩
    · rw [hi1] at hB
      go_wp2_with fail
      refine (inRange_any _ _).mono ?_
      rintro e w' ⟨rfl, rfl⟩
      cases hi2 : inB (fd n d)
      · rw [hi2] at hB
        have HF : Hid (fit n d = ⟨0, 0, 15⟩) := Lib.hid (by unfold fit; rw [hB]; rfl)
        clear hB
        go_wp2
        exact bodyPost_ret (v := .tuple #[.agg #[.int .i64 0, .int .i64 0], .int .i64 15]) (by simp [results, Tryz.results59, go_sem]) rfl ⟨by rw [HF.out], below_two (below_drewN ((Below.refl _ _).alloc (Nat.le_refl _) _) _) _ _⟩
      · rw [hi2] at hB
        have HF : Hid (fit n d = ⟨fn n d, fd n d, 0⟩) := Lib.hid (by unfold fit; rw [hB]; rfl)
        clear hB
        go_wp2
        exact bodyPost_ret (v := .tuple #[.agg #[.int .i64 (fn n d), .int .i64 (fd n d)], .int .i64 0]) (by simp [results, Tryz.results59, go_sem]) rfl ⟨by rw [HF.out], below_two (below_drewN ((Below.refl _ _).alloc (Nat.le_refl _) _) _) _ _⟩
  · have es : sn n d = n := by unfold sn; rw [if_neg hs]
    have es2 : sd d = d := by unfold sd; rw [if_neg hs]
    rw [es] at ef; rw [es2] at ed
    have ed2 : d / gc n d = fd n d := by unfold fd; rw [es2]
    have ef2 : n / gc n d = fn n d := by unfold fn; rw [es]
    clear es es2
    go_enter Tryz.func59, Tryz.ntmps59
    go_wp2_with fail
    refine (divisor_any n d _ (by omega) (by omega)).mono ?_
    rintro e w' ⟨rfl, k, rfl⟩
    go_wp2
    go_region
    go_wp2_with fail
    refine (inRange_any _ _).mono ?_
    rintro e w' ⟨rfl, rfl⟩
    cases hi1 : inB (fn n d)
    · rw [hi1] at hB
      have HF : Hid (fit n d = ⟨0, 0, 15⟩) := Lib.hid (by unfold fit; rw [hB]; rfl)
      clear hB
      go_wp2
      exact bodyPost_ret (v := .tuple #[.agg #[.int .i64 0, .int .i64 0], .int .i64 15]) (by simp [results, Tryz.results59, go_sem]) rfl ⟨by rw [HF.out], below_two (below_drewN ((Below.refl _ _).alloc (Nat.le_refl _) _) _) _ _⟩
    · rw [hi1] at hB
      go_wp2_with fail
      refine (inRange_any _ _).mono ?_
      rintro e w' ⟨rfl, rfl⟩
      cases hi2 : inB (fd n d)
      · rw [hi2] at hB
        have HF : Hid (fit n d = ⟨0, 0, 15⟩) := Lib.hid (by unfold fit; rw [hB]; rfl)
        clear hB
        go_wp2
        exact bodyPost_ret (v := .tuple #[.agg #[.int .i64 0, .int .i64 0], .int .i64 15]) (by simp [results, Tryz.results59, go_sem]) rfl ⟨by rw [HF.out], below_two (below_drewN ((Below.refl _ _).alloc (Nat.le_refl _) _) _) _ _⟩
      · rw [hi2] at hB
        have HF : Hid (fit n d = ⟨fn n d, fd n d, 0⟩) := Lib.hid (by unfold fit; rw [hB]; rfl)
        clear hB
        go_wp2
        exact bodyPost_ret (v := .tuple #[.agg #[.int .i64 (fn n d), .int .i64 (fd n d)], .int .i64 0]) (by simp [results, Tryz.results59, go_sem]) rfl ⟨by rw [HF.out], below_two (below_drewN ((Below.refl _ _).alloc (Nat.le_refl _) _) _) _ _⟩
end Go.Proofs.YtfocokjihbenmaaGreatDoor.Nu

namespace Go.Proofs.YtfocokjihbenmaaGreatDoor.Nu
open Go.RowKit

theorem okB_in (n d : Int) : okB n d = (decide (0 < d) && (inB d && (inB n && (gc n d == 1)))) := by
  unfold okB inB gc
  rw [Bool.eq_iff_iff]; simp; omega
set_option maxHeartbeats 1000000 in
theorem Valid_any (n d : Int) (w : World) :
    Calls Tryz.prog 100 #[.agg #[.int .i64 n, .int .i64 d]] w fun e w' => e = .returned (.bool (okB n d)) ∧ Below w.heap.size w w' := by
  have hO := okB_in n d
  cases h1 : decide (0 < d)
  · rw [h1] at hO
    have HO := Lib.hid hO; clear hO
    go_enter Tryz.func100, Tryz.ntmps100
    go_wp2
    go_ret
    exact ⟨ret_bool (by rw [HO.out]; rfl), (Below.refl _ _).alloc (Nat.le_refl _) _⟩
  · rw [h1] at hO
    cases h2 : inB d
    · rw [h2] at hO
      have HO := Lib.hid hO; clear hO
      go_enter Tryz.func100, Tryz.ntmps100
      go_wp2_with fail
      refine (inRange_any _ _).mono ?_
      rintro e w' ⟨rfl, rfl⟩
      go_wp2
      go_ret
      exact ⟨ret_bool (by rw [HO.out]; rfl), (Below.refl _ _).alloc (Nat.le_refl _) _⟩
    · rw [h2] at hO
      cases h3 : inB n
      · rw [h3] at hO
        have HO := Lib.hid hO; clear hO
        go_enter Tryz.func100, Tryz.ntmps100
        go_wp2_with fail
        refine (inRange_any _ _).mono ?_
        rintro e w' ⟨rfl, rfl⟩
        go_wp2_with fail
        refine (inRange_any _ _).mono ?_
        rintro e w' ⟨rfl, rfl⟩
        go_wp2
        go_ret
        exact ⟨ret_bool (by rw [HO.out]; rfl), (Below.refl _ _).alloc (Nat.le_refl _) _⟩
      · rw [h3] at hO
        have hn : n.natAbs ≤ 1000000000 := by unfold inB at h3; simp at h3; omega
        have hd : d.natAbs ≤ 1000000000 := by unfold inB at h2; simp at h2; omega
        have HO := Lib.hid hO; clear hO
        go_enter Tryz.func100, Tryz.ntmps100
        go_wp2_with fail
        refine (inRange_any _ _).mono ?_
        rintro e w' ⟨rfl, rfl⟩
        go_wp2_with fail
        refine (inRange_any _ _).mono ?_
        rintro e w' ⟨rfl, rfl⟩
        go_wp2_with fail
        refine (divisor_any _ _ _ (by omega) (by omega)).mono ?_
        rintro e w' ⟨rfl, k, rfl⟩
        go_wp2
        go_ret
        exact ⟨ret_bool (by rw [HO.out]; rfl), below_drewN ((Below.refl _ _).alloc (Nat.le_refl _) _) _⟩

theorem gc_abs (n d : Int) : gc (n.natAbs : Int) d = gc n d := by unfold gc Int.gcd; rw [Int.natAbs_natCast]
theorem abs_q (n : Int) (w : World) (h : n.natAbs ≤ 1000000000) : Calls Tryz.prog 43 #[.int .i64 n] w fun e w' => e = .returned (.int .i64 (n.natAbs : Int)) ∧ ∃ k, w' = w.drewN k :=
  (abs_any n w (by omega) (by omega)).mono fun _ _ ⟨he, hw⟩ => ⟨he, 0, hw.symm⟩
theorem gcd_q (n d : Int) (w : World) (h : n.natAbs ≤ 1000000000) (h1 : 1 ≤ d) (h2 : d ≤ 1000000000) : Calls Tryz.prog 42 #[.int .i64 (n.natAbs : Int), .int .i64 d] w fun e w' => e = .returned (.int .i64 (gc n d)) ∧ ∃ k, w' = w.drewN k := by
  have := gcd_any (n.natAbs : Int) d w (by omega) (by omega) (by omega) (by omega)
  rw [gc_abs] at this
  exact this
set_option maxHeartbeats 2000000 in
theorem RefValid_any (n d : Int) (w : World) :
    Calls Tryz.prog 28 #[.agg #[.int .i64 n, .int .i64 d]] w fun e w' => e = .returned (.bool (okB n d)) ∧ Below w.heap.size w w' := by
  have hO := okB_in n d
  by_cases h1 : 1 ≤ d
  · by_cases h2 : d ≤ 1000000000
    · by_cases h3 : -1000000000 ≤ n
      · by_cases h4 : n ≤ 1000000000
        · have hO2 : okB n d = (gc n d == 1) := by
            rw [hO, show decide (0 < d) = true by rw [decide_eq_true_iff]; omega, show inB d = true by unfold inB; rw [decide_eq_true_iff]; omega, show inB n = true by unfold inB; rw [decide_eq_true_iff]; omega]; rfl
          have HO := Lib.hid hO2; clear hO hO2
          have hna : n.natAbs ≤ 1000000000 := by omega
          go_enter Tryz.func28, Tryz.ntmps28
          go_wp2
          go_quiet ((first | (go_at_call 43; exact (Calls.quiet_of (abs_q n _ hna))) | (go_at_call 42; exact (Calls.quiet_of (gcd_q n d _ hna h1 h2)))))
          go_wp2
          go_ret
          exact ⟨ret_bool (by rw [HO.out]), below_drewN ((Below.refl _ _).alloc (Nat.le_refl _) _) _⟩
        · have hd : decide (n ≤ 1000000000) = false := by simpa using h4
          have HO := Lib.hid (show okB n d = false by rw [hO, show inB n = false by unfold inB; rw [decide_eq_false_iff_not]; omega]; simp); clear hO
          go_enter Tryz.func28, Tryz.ntmps28
          go_wp2
          go_quiet ((fail))
          go_wp2
          go_ret
          exact ⟨ret_bool (by rw [HO.out]), below_drewN ((Below.refl _ _).alloc (Nat.le_refl _) _) _⟩
      · have hd : decide (-1000000000 ≤ n) = false := by simpa using h3
        have HO := Lib.hid (show okB n d = false by rw [hO]; unfold inB; simp; omega); clear hO
        go_enter Tryz.func28, Tryz.ntmps28
        go_wp2
        go_quiet ((fail))
        go_wp2
        go_ret
        exact ⟨ret_bool (by rw [HO.out]), below_drewN ((Below.refl _ _).alloc (Nat.le_refl _) _) _⟩
    · have hd : decide (d ≤ 1000000000) = false := by simpa using h2
      have HO := Lib.hid (show okB n d = false by rw [hO]; unfold inB; simp; omega); clear hO
      go_enter Tryz.func28, Tryz.ntmps28
      go_wp2
      go_quiet ((fail))
      go_wp2
      go_ret
      exact ⟨ret_bool (by rw [HO.out]), below_drewN ((Below.refl _ _).alloc (Nat.le_refl _) _) _⟩
  · have hd : decide (1 ≤ d) = false := by simpa using h1
    have HO := Lib.hid (show okB n d = false by rw [hO]; unfold inB; simp; omega); clear hO
    go_enter Tryz.func28, Tryz.ntmps28
    go_wp2
    go_quiet ((fail))
    go_wp2
    go_ret
    exact ⟨ret_bool (by rw [HO.out]), below_drewN ((Below.refl _ _).alloc (Nat.le_refl _) _) _⟩
end Go.Proofs.YtfocokjihbenmaaGreatDoor.Nu
