/-
  Order, remainders and rounding of fractions, as plain facts.
-/
import Derived.Test.YtfocokjihbenmaaDoorNuOps
namespace Go.Proofs.YtfocokjihbenmaaDoor.Nu

theorem le_qv {a p b q : Int} (hp : 1 ≤ p) (hq : 1 ≤ q) : qv a p ≤ qv b q ↔ a * q ≤ b * p := by
  unfold qv
  rw [Rat.le_iff_sub_nonneg, Rat.divInt_sub_divInt _ _ (by omega) (by omega), Rat.divInt_nonneg_iff_of_pos_right (Int.mul_pos (by omega) (by omega))]
  omega
theorem lt_qv {a p b q : Int} (hp : 1 ≤ p) (hq : 1 ≤ q) : qv a p < qv b q ↔ a * q < b * p := by
  rw [← Rat.not_le, le_qv hq hp]; omega
theorem cmp_ok {a p b q : Int} (h1 : Ok a p) (h2 : Ok b q) : cmp a p b q = if qv a p < qv b q then -1 else if qv b q < qv a p then 1 else 0 := by
  unfold cmp
  rw [okB_iff.2 h1, okB_iff.2 h2]
  simp only [lt_qv h1.d1 h2.d1, lt_qv h2.d1 h1.d1]; simp
theorem cmp_lt {a p b q : Int} (h1 : Ok a p) (h2 : Ok b q) : cmp a p b q < 0 ↔ a * q < b * p := by
  unfold cmp; rw [okB_iff.2 h1, okB_iff.2 h2]; simp; split <;> (try split) <;> omega
theorem cmp_gt {a p b q : Int} (h1 : Ok a p) (h2 : Ok b q) : 0 < cmp a p b q ↔ b * p < a * q := by
  unfold cmp; rw [okB_iff.2 h1, okB_iff.2 h2]; simp; split <;> (try split) <;> omega
theorem cmp_neg (a p b q : Int) : cmp b q a p = - cmp a p b q := by
  unfold cmp
  rw [Bool.and_comm]
  split
  · split <;> split <;> (try split) <;> omega
  · rfl
theorem cmp_zero {a p b q : Int} (h1 : Ok a p) (h2 : Ok b q) : cmp a p b q = 0 ↔ a = b ∧ p = q := by
  constructor
  · intro h
    refine h1.lone h2 ?_
    have e1 := cmp_lt h1 h2; have e2 := cmp_gt h1 h2
    rw [h] at e1 e2
    have n1 : ¬ a * q < b * p := fun x => absurd (e1.2 x) (by decide)
    have n2 : ¬ b * p < a * q := fun x => absurd (e2.2 x) (by decide)
    omega
  · rintro ⟨rfl, rfl⟩
    unfold cmp; simp
theorem cmp_trans {a p b q c r : Int} (h1 : Ok a p) (h2 : Ok b q) (h3 : Ok c r) (x : cmp a p b q ≤ 0) (y : cmp b q c r ≤ 0) : cmp a p c r ≤ 0 := by
  have x' : ¬ b * p < a * q := fun h => absurd ((cmp_gt h1 h2).2 h) (by omega)
  have y' : ¬ c * q < b * r := fun h => absurd ((cmp_gt h2 h3).2 h) (by omega)
  have hx := (le_qv h1.d1 h2.d1).2 (by omega : a * q ≤ b * p)
  have hy := (le_qv h2.d1 h3.d1).2 (by omega : b * r ≤ c * q)
  have hz := (le_qv h1.d1 h3.d1).1 (Rat.le_trans hx hy)
  have : ¬ 0 < cmp a p c r := fun h => by have := (cmp_gt h1 h3).1 h; omega
  omega
/-- Sums keep the order. -/
theorem cmp_add {xn xd yn yd zn zd : Int} (hx : Sm xn xd) (hy : Sm yn yd) (hz : Sm zn zd) {s t : R3} (es : s = add xn xd zn zd) (et : t = add yn yd zn zd) : cmp s.n s.d t.n t.d = cmp xn xd yn yd := by
  obtain ⟨s1, s2⟩ := add_qv hx.ok hz.ok (add_sm hx hz)
  obtain ⟨t1, t2⟩ := add_qv hy.ok hz.ok (add_sm hy hz)
  rw [← es] at s1 s2; rw [← et] at t1 t2
  rw [cmp_ok s1 t1, cmp_ok hx.ok hy.ok, s2, t2]
  simp only [Rat.add_lt_add_right]

/-! ### Remainders -/
structure Mo (xn xd yn yd : Int) (r : R3) : Prop where
  e : r.e = 0
  ok : Ok r.n r.d
  sub : ∃ s : R3, sub xn xd r.n r.d = s ∧ s.e = 0 ∧ Ok s.n s.d ∧ ∃ k, div s.n s.d yn yd = ⟨k, 1, 0⟩
  pos : 0 < yn → 0 ≤ cmp r.n r.d 0 1 ∧ cmp r.n r.d yn yd < 0
  neg : yn < 0 → cmp r.n r.d 0 1 ≤ 0 ∧ 0 < cmp r.n r.d yn yd
theorem fmod_lt_neg {a b : Int} (h : b < 0) : b < Int.fmod a b ∧ Int.fmod a b ≤ 0 := by
  have e : Int.fmod a b = - Int.fmod (-a) (-b) := by rw [Int.neg_fmod_neg, Int.neg_neg]
  have h1 := Int.fmod_nonneg_of_pos (-a) (show 0 < -b by omega)
  have h2 := Int.fmod_lt_of_pos (-a) (show 0 < -b by omega)
  omega
theorem mod_mo {xn xd yn yd : Int} (hx : Sm xn xd) (hy : Sm yn yd) (h : yn ≠ 0) : Mo xn xd yn yd (mod xn xd yn yd) := by
  have a1 := hx.n1; have a2 := hx.n2; have a3 := hx.d2; have a4 := hx.ok.d1
  have b1 := hy.n1; have b2 := hy.n2; have b3 := hy.d2; have b4 := hy.ok.d1
  have eA := mul_bd (A := 1999) (B := 1024) a1 a2 (show -1024 ≤ yd by omega) b3
  have eB := mul_bd (A := 1999) (B := 1024) b1 b2 (show -1024 ≤ xd by omega) a3
  have eD := mul_bd (A := 1024) (B := 1024) (show -1024 ≤ xd by omega) a3 (show -1024 ≤ yd by omega) b3
  have hD : 1 ≤ xd * yd := by have := Int.mul_pos (show 0 < xd by omega) (show 0 < yd by omega); omega
  have hB0 : yn * xd ≠ 0 := ne_mul h (by omega)
  rw [mod_ok hx.ok hy.ok h]
  generalize hF : Int.fmod (xn * yd) (yn * xd) = F
  generalize hQ : Int.fdiv (xn * yd) (yn * xd) = Q
  have hFQ : F + (yn * xd) * Q = xn * yd := by rw [← hF, ← hQ]; exact Int.fmod_add_mul_fdiv ..
  have hFp : 0 < yn → 0 ≤ F ∧ F < yn * xd := fun hp => by
    have : 0 < yn * xd := Int.mul_pos hp (by omega)
    rw [← hF]; exact ⟨Int.fmod_nonneg_of_pos _ this, Int.fmod_lt_of_pos _ this⟩
  have hFn : yn < 0 → yn * xd < F ∧ F ≤ 0 := fun hp => by
    have : yn * xd < 0 := Int.mul_neg_of_neg_of_pos hp (by omega)
    rw [← hF]; exact fmod_lt_neg this
  have hFb : -2046976 ≤ F ∧ F ≤ 2046976 := by
    rcases Int.lt_or_gt_of_ne h with hp | hp
    · have := hFn hp; omega
    · have := hFp hp; omega
  have re : (fit F (xd * yd)).e = 0 := fit_small (by omega) (by omega) (by omega) (by omega) (by omega)
  obtain ⟨r1, r2⟩ := fit_ok (by omega) re
  have r3 : qv (fit F (xd * yd)).n (fit F (xd * yd)).d = qv F (xd * yd) := (qv_eq r1.ne (by omega)).2 r2
  generalize fit F (xd * yd) = r at re r1 r2 r3
  have hs : sub xn xd r.n r.d = fit (yn * xd * Q) (xd * yd) := by
    rw [sub_ok hx.ok r1]
    refine fit_same (ne_mul hx.ok.ne r1.ne) (by omega) ?_
    have : xn * yd = F + yn * xd * Q := hFQ.symm
    grind
  have hQb : -4093952 ≤ yn * xd * Q ∧ yn * xd * Q ≤ 4093952 := by omega
  have se : (fit (yn * xd * Q) (xd * yd)).e = 0 := fit_small (by omega) (by omega) (by omega) (by omega) (by omega)
  obtain ⟨s1, s2⟩ := fit_ok (by omega) se
  have s3 := (qv_eq s1.ne (by omega)).2 s2
  have hQ1 : -4093952 ≤ Q ∧ Q ≤ 4093952 := by
    have e : (yn * xd * Q).natAbs = (yn * xd).natAbs * Q.natAbs := Int.natAbs_mul ..
    have : Q.natAbs ≤ (yn * xd).natAbs * Q.natAbs := Nat.le_mul_of_pos_left _ (by omega)
    omega
  refine ⟨re, r1, ⟨_, hs, se, s1, Q, ?_⟩, fun hp => ?_, fun hp => ?_⟩
  · refine div_is s1 hy.ok h ⟨by omega, by omega, by omega, by omega, by simp⟩ ?_
    rw [s3]; unfold qv
    rw [Rat.divInt_mul_divInt]
    exact (Rat.divInt_eq_divInt_iff (by simpa using hy.ok.ne) (by omega)).2 (by grind)
  · have hp2 := hFp hp
    have h0 : 0 ≤ r.n := by
      rcases (show r.n < 0 ∨ 0 ≤ r.n by omega) with h5 | h5
      · have := Int.mul_neg_of_neg_of_pos h5 (show 0 < xd * yd by omega)
        have := Int.mul_nonneg hp2.1 (show 0 ≤ r.d by have := r1.d1; omega)
        omega
      · exact h5
    refine ⟨?_, (cmp_lt r1 hy.ok).2 ?_⟩
    · have : ¬ cmp r.n r.d 0 1 < 0 := fun h6 => by have := (cmp_lt r1 ok_zero).1 h6; omega
      omega
    · refine (lt_qv r1.d1 hy.ok.d1).1 ?_
      rw [r3]
      refine (lt_qv hD hy.ok.d1).2 ?_
      have := Int.mul_lt_mul_of_pos_right hp2.2 (show 0 < yd by omega)
      grind
  · have hp2 := hFn hp
    have h0 : r.n ≤ 0 := by
      rcases (show 0 < r.n ∨ r.n ≤ 0 by omega) with h5 | h5
      · have := Int.mul_pos h5 (show 0 < xd * yd by omega)
        have := Int.mul_nonpos_of_nonpos_of_nonneg hp2.2 (show 0 ≤ r.d by have := r1.d1; omega)
        omega
      · exact h5
    refine ⟨?_, (cmp_gt r1 hy.ok).2 ?_⟩
    · have : ¬ 0 < cmp r.n r.d 0 1 := fun h6 => by have := (cmp_gt r1 ok_zero).1 h6; omega
      omega
    · refine (lt_qv hy.ok.d1 r1.d1).1 ?_
      rw [r3]
      refine (lt_qv hy.ok.d1 hD).2 ?_
      have := Int.mul_lt_mul_of_pos_right hp2.1 (show 0 < yd by omega)
      grind

/-! ### Rounding -/
theorem pw_three {k : Nat} (h : k ≤ 3) : 1 ≤ pw k ∧ pw k ≤ 1000 := by
  unfold pw
  have : k = 0 ∨ k = 1 ∨ k = 2 ∨ k = 3 := by omega
  rcases this with rfl | rfl | rfl | rfl <;> decide
structure Ne (n d : Int) (k : Nat) (r : R3) : Prop where
  e : r.e = 0
  ok : Ok r.n r.d
  mul : ∃ u, mul r.n r.d (pw k) 1 = ⟨u, 1, 0⟩
  half : okB 1 (2 * pw k) = true
  m : sub 0 1 1 (2 * pw k) = ⟨-1, 2 * pw k, 0⟩
  near : (sub n d r.n r.d).e = 0 → cmp (sub n d r.n r.d).n (sub n d r.n r.d).d 1 (2 * pw k) ≤ 0 ∧ 0 ≤ cmp (sub n d r.n r.d).n (sub n d r.n r.d).d (-1) (2 * pw k)
theorem un_bd {n d : Int} (k : Nat) (hd : 1 ≤ d) : 2 * d * un n d k ≤ 2 * n.natAbs * pw k + d ∧ 2 * n.natAbs * pw k + d < 2 * d * un n d k + 2 * d := by
  unfold un
  generalize 2 * (n.natAbs : Int) * pw k + d = X
  have h1 := Int.mul_ediv_add_emod X (2 * d)
  have h2 := Int.emod_nonneg X (show 2 * d ≠ 0 by omega)
  have h3 := Int.emod_lt_of_pos X (show 0 < 2 * d by omega)
  constructor <;> omega
theorem ud_bd {n d : Int} (k : Nat) (hd : 1 ≤ d) : -d ≤ 2 * n * pw k - 2 * d * ud n d k ∧ 2 * n * pw k - 2 * d * ud n d k ≤ d := by
  obtain ⟨h1, h2⟩ := un_bd (n := n) k hd
  unfold ud
  split
  · have e : (n.natAbs : Int) = -n := by omega
    rw [e, Int.mul_neg, Int.neg_mul] at h1 h2
    rw [Int.mul_neg]
    constructor <;> omega
  · have e : (n.natAbs : Int) = n := by omega
    rw [e] at h1 h2
    constructor <;> omega
theorem rnd_ne {n d : Int} (h : Sm n d) {k : Nat} (hk : k ≤ 3) : Ne n d k (rnd n d k) := by
  have a1 := h.n1; have a2 := h.n2; have a3 := h.d2; have a4 := h.ok.d1
  obtain ⟨p1, p2⟩ := pw_three hk
  have hr : rnd n d k = fit (ud n d k) (pw k) := by
    unfold rnd; rw [okB_iff.2 h.ok]; simp; intro h; omega
  obtain ⟨u1, u2⟩ := ud_bd (n := n) k a4
  have eN := mul_bd (A := 1999) (B := 1000) a1 a2 (show -1000 ≤ pw k by omega) p2
  have ub : -4000000 ≤ ud n d k ∧ ud n d k ≤ 4000000 := by
    have e : (2 * d * ud n d k).natAbs = (2 * d).natAbs * (ud n d k).natAbs := Int.natAbs_mul ..
    have h2 : (ud n d k).natAbs ≤ (2 * d).natAbs * (ud n d k).natAbs := Nat.le_mul_of_pos_left _ (by omega)
    have e2 : 2 * n * pw k = 2 * (n * pw k) := Int.mul_assoc ..
    omega
  have re : (fit (ud n d k) (pw k)).e = 0 := fit_small (by omega) (by omega) (by omega) (by omega) (by omega)
  obtain ⟨r1, r2⟩ := fit_ok (by omega) re
  rw [hr]
  have r3 := (qv_eq r1.ne (by omega)).2 r2
  generalize fit (ud n d k) (pw k) = r at re r1 r2 r3
  have okP : Ok (pw k) 1 := ⟨by omega, by omega, by omega, by omega, by simp⟩
  have okH : Ok 1 (2 * pw k) := ⟨by omega, by omega, by omega, by omega, by simp⟩
  have okM : Ok (-1) (2 * pw k) := ⟨by omega, by omega, by omega, by omega, by simp⟩
  refine ⟨re, r1, ⟨ud n d k, ?_⟩, okB_iff.2 okH, ?_, fun se => ?_⟩
  · refine mul_is r1 okP ⟨by omega, by omega, by omega, by omega, by simp⟩ ?_
    rw [r3]; unfold qv; rw [Rat.divInt_mul_divInt]
    exact (Rat.divInt_eq_divInt_iff (by omega) (by omega)).2 (by grind)
  · refine sub_is ok_zero okH okM ?_
    unfold qv; rw [Rat.divInt_sub_divInt _ _ (by omega) (by omega)]
    exact (Rat.divInt_eq_divInt_iff (by omega) (by omega)).2 (by grind)
  · obtain ⟨s1, s2⟩ := sub_qv h.ok r1 se
    rw [r3] at s2
    have s4 : qv (sub n d r.n r.d).n (sub n d r.n r.d).d = qv (n * pw k - ud n d k * d) (d * pw k) := s2.trans (Rat.divInt_sub_divInt _ _ (by omega) (by omega))
    generalize sub n d r.n r.d = s at s1 s4
    have hdp : 1 ≤ d * pw k := by have := Int.mul_pos (show 0 < d by omega) (show 0 < pw k by omega); omega
    have l1 : qv s.n s.d ≤ qv 1 (2 * pw k) := by
      rw [s4]; refine (le_qv hdp (by omega)).2 ?_
      have := Int.mul_le_mul_of_nonneg_right u2 (show 0 ≤ pw k by omega)
      grind
    have l2 : qv (-1) (2 * pw k) ≤ qv s.n s.d := by
      rw [s4]; refine (le_qv (by omega) hdp).2 ?_
      have := Int.mul_le_mul_of_nonneg_right u1 (show 0 ≤ pw k by omega)
      grind
    have m1 := (le_qv s1.d1 okH.d1).1 l1
    have m2 := (le_qv okM.d1 s1.d1).1 l2
    have n1 : ¬ 0 < cmp s.n s.d 1 (2 * pw k) := fun h6 => by have := (cmp_gt s1 okH).1 h6; omega
    have n2 : ¬ cmp s.n s.d (-1) (2 * pw k) < 0 := fun h6 => by have := (cmp_lt s1 okM).1 h6; omega
    omega
end Go.Proofs.YtfocokjihbenmaaDoor.Nu
