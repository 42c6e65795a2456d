/-
  Plain facts on fractions in their valid form.
-/
import Derived.WalkKit
namespace Go.Proofs.YtfocokjihbenmaaDoor.Nu

def gc (a b : Int) : Int := (Int.gcd a b : Int)
def sn (n d : Int) : Int := if d < 0 then -n else n
def sd (d : Int) : Int := if d < 0 then -d else d
def fn (n d : Int) : Int := sn n d / gc n d
def fd (n d : Int) : Int := sd d / gc n d
/-- A numerator, a denominator and the number of an error. -/
structure R3 where
  n : Int
  d : Int
  e : Int
def okB (n d : Int) : Bool := decide (1 ≤ d ∧ d ≤ 1000000000 ∧ -1000000000 ≤ n ∧ n ≤ 1000000000 ∧ Int.gcd n d = 1)
def fitB (n d : Int) : Bool := decide (-1000000000 ≤ fn n d ∧ fn n d ≤ 1000000000 ∧ fd n d ≤ 1000000000)
def fit (n d : Int) : R3 := if fitB n d then ⟨fn n d, fd n d, 0⟩ else ⟨0, 0, 15⟩

structure Ok (n d : Int) : Prop where
  d1 : 1 ≤ d
  d2 : d ≤ 1000000000
  n1 : -1000000000 ≤ n
  n2 : n ≤ 1000000000
  g : Int.gcd n d = 1
theorem okB_iff {n d : Int} : okB n d = true ↔ Ok n d := by
  unfold okB; rw [decide_eq_true_iff]
  exact ⟨fun ⟨a, b, c, e, f⟩ => ⟨a, b, c, e, f⟩, fun ⟨a, b, c, e, f⟩ => ⟨a, b, c, e, f⟩⟩
theorem okB_no {n d : Int} : okB n d = false ↔ ¬ Ok n d := by
  rw [← okB_iff]; cases okB n d <;> simp

theorem gc_pos (n : Int) {d : Int} (h : d ≠ 0) : 1 ≤ gc n d := by
  have := Int.gcd_pos_of_ne_zero_right n h; unfold gc; omega
theorem sd_pos {d : Int} (h : d ≠ 0) : 1 ≤ sd d := by unfold sd; split <;> omega
theorem gc_sn (n d : Int) : gc n d ∣ sn n d := by
  unfold gc sn; split
  · exact Int.dvd_neg.2 (Int.gcd_dvd_left ..)
  · exact Int.gcd_dvd_left ..
theorem gc_sd (n d : Int) : gc n d ∣ sd d := by
  unfold gc sd; split
  · exact Int.dvd_neg.2 (Int.gcd_dvd_right ..)
  · exact Int.gcd_dvd_right ..
theorem fn_mul (n d : Int) : fn n d * gc n d = sn n d := Int.ediv_mul_cancel (gc_sn n d)
theorem fd_mul (n d : Int) : fd n d * gc n d = sd d := Int.ediv_mul_cancel (gc_sd n d)
theorem gcd_sn (n d : Int) : Int.gcd (sn n d) (sd d) = Int.gcd n d := by
  unfold sn sd; split <;> simp
theorem fd_pos (n : Int) {d : Int} (h : d ≠ 0) : 1 ≤ fd n d := by
  have h1 := fd_mul n d; have h2 := sd_pos h; have h3 := gc_pos n h
  rcases (show fd n d < 1 ∨ 1 ≤ fd n d by omega) with h4 | h4
  · have : fd n d * gc n d ≤ 0 := Int.mul_nonpos_of_nonpos_of_nonneg (by omega) (by omega)
    omega
  · exact h4
theorem fg (n : Int) {d : Int} (h : d ≠ 0) : Int.gcd (fn n d) (fd n d) = 1 := by
  have h1 : 0 < Int.gcd (sn n d) (sd d) := by rw [gcd_sn]; have := gc_pos n h; unfold gc at this; omega
  have := Int.gcd_ediv_gcd_ediv_gcd h1
  rw [gcd_sn] at this
  exact this
theorem sn_sd (n d : Int) : sn n d * d = n * sd d := by
  unfold sn sd; split
  · rw [Int.neg_mul, Int.mul_neg]
  · rfl
theorem fcross (n : Int) {d : Int} (h : d ≠ 0) : fn n d * d = n * fd n d := by
  have h1 := fn_mul n d; have h2 := fd_mul n d; have h3 := sn_sd n d; have h4 := gc_pos n h
  have : (fn n d * d) * gc n d = (n * fd n d) * gc n d := by
    rw [Int.mul_right_comm, h1, h3, Int.mul_assoc, h2]
  exact Int.eq_of_mul_eq_mul_right (by omega) this
theorem dvd_of {a b c : Int} (h : Int.gcd a b = 1) (hd : b ∣ a * c) : b ∣ c := by
  have h1 : (b : Int) ∣ (Int.gcd b a : Int) * c := Int.dvd_gcd_mul_iff_dvd_mul.2 hd
  rw [Int.gcd_comm, h] at h1
  simpa using h1
/-- A fraction in its lowest terms is one alone. -/
theorem lone {a b c e : Int} (h1 : Int.gcd a b = 1) (h2 : Int.gcd c e = 1) (hb : 1 ≤ b) (he : 1 ≤ e) (h : a * e = c * b) : a = c ∧ b = e := by
  have d1 : b ∣ e := dvd_of h1 ⟨c, by rw [h, Int.mul_comm]⟩
  have d2 : e ∣ b := dvd_of h2 ⟨a, by rw [← h, Int.mul_comm]⟩
  have hbe : b = e := Int.le_antisymm (Int.le_of_dvd (by omega) d1) (Int.le_of_dvd (by omega) d2)
  subst hbe
  exact ⟨Int.eq_of_mul_eq_mul_right (by omega) h, rfl⟩
theorem Ok.lone {a b c e : Int} (h1 : Ok a b) (h2 : Ok c e) (h : a * e = c * b) : a = c ∧ b = e := Nu.lone h1.g h2.g h1.d1 h2.d1 h
theorem fit_of {n d a b : Int} (hd : d ≠ 0) (h : Ok a b) (hc : a * d = n * b) : fit n d = ⟨a, b, 0⟩ := by
  have h1 := fcross n hd
  have h2 : fn n d * b = a * fd n d := by
    have : (fn n d * b) * d = (a * fd n d) * d := by
      rw [Int.mul_right_comm, h1, Int.mul_right_comm a, hc]; exact Int.mul_right_comm ..
    exact Int.eq_of_mul_eq_mul_right hd this
  obtain ⟨e1, e2⟩ := Nu.lone (fg n hd) h.g (fd_pos n hd) h.d1 h2
  have hB : fitB n d = true := by
    unfold fitB; rw [decide_eq_true_iff, e1, e2]; exact ⟨h.n1, h.n2, h.d2⟩
  unfold fit; rw [if_pos hB, e1, e2]
theorem fit_cases (n : Int) {d : Int} (hd : d ≠ 0) : ((fit n d).e = 0 ∧ Ok (fit n d).n (fit n d).d ∧ (fit n d).n * d = n * (fit n d).d) ∨ (fit n d = ⟨0, 0, 15⟩ ∧ ∀ a b, Ok a b → a * d ≠ n * b) := by
  cases hB : fitB n d
  · right
    have h0 : fit n d = ⟨0, 0, 15⟩ := by unfold fit; rw [if_neg (by rw [hB]; simp)]
    refine ⟨h0, fun a b hab hc => ?_⟩
    have := fit_of hd hab hc
    rw [h0] at this
    simp at this
  · left
    have h0 : fit n d = ⟨fn n d, fd n d, 0⟩ := by unfold fit; rw [if_pos hB]
    unfold fitB at hB; rw [decide_eq_true_iff] at hB
    rw [h0]
    exact ⟨rfl, ⟨fd_pos n hd, hB.2.2, hB.1, hB.2.1, fg n hd⟩, fcross n hd⟩
theorem fit_ok {n d : Int} (hd : d ≠ 0) (h : (fit n d).e = 0) : Ok (fit n d).n (fit n d).d ∧ (fit n d).n * d = n * (fit n d).d := by
  rcases fit_cases n hd with ⟨_, h1, h2⟩ | ⟨h1, _⟩
  · exact ⟨h1, h2⟩
  · rw [h1] at h; simp at h
theorem fit_err {n d : Int} (h : (fit n d).e ≠ 0) : fit n d = ⟨0, 0, 15⟩ := by
  unfold fit at h ⊢; split
  · rename_i hB; rw [if_pos hB] at h; exact absurd rfl h
  · rfl
/-- A fraction of small terms fits. -/
theorem fit_small {n d : Int} (hd : d ≠ 0) (h1 : -1000000000 ≤ n) (h2 : n ≤ 1000000000) (h3 : -1000000000 ≤ d) (h4 : d ≤ 1000000000) : (fit n d).e = 0 := by
  have hg := gc_pos n hd
  have key : ∀ x y : Int, 1 ≤ y → (x / y).natAbs ≤ x.natAbs + 0 ∨ True := fun _ _ _ => Or.inr trivial
  have hx : ∀ x g : Int, 1 ≤ g → g ∣ x → -1000000000 ≤ x → x ≤ 1000000000 → -1000000000 ≤ x / g ∧ x / g ≤ 1000000000 := by
    intro x g hg ⟨k, hk⟩ ha hb
    subst hk
    rw [Int.mul_ediv_cancel_left _ (by omega)]
    rcases Int.le_total 0 k with hk | hk
    · have : k ≤ g * k := by have := Int.mul_le_mul_of_nonneg_right hg hk; omega
      omega
    · have : g * k ≤ k := by have := Int.mul_le_mul_of_nonpos_right hg hk; omega
      omega
  have e1 := hx _ _ hg (gc_sn n d) (by unfold sn; split <;> omega) (by unfold sn; split <;> omega)
  have e2 := hx _ _ hg (gc_sd n d) (by unfold sd; split <;> omega) (by unfold sd; split <;> omega)
  have hB : fitB n d = true := by
    unfold fitB; rw [decide_eq_true_iff]; exact ⟨e1.1, e1.2, e2.2⟩
  unfold fit; rw [if_pos hB]
theorem fit_same {n d n' d' : Int} (hd : d ≠ 0) (hd' : d' ≠ 0) (h : n * d' = n' * d) : fit n d = fit n' d' := by
  rcases fit_cases n' hd' with ⟨h0, h1, h2⟩ | ⟨h1, h2⟩
  · have : fit n d = ⟨(fit n' d').n, (fit n' d').d, 0⟩ := by
      refine fit_of hd h1 ?_
      have : ((fit n' d').n * d) * d' = (n * (fit n' d').d) * d' := by
        rw [Int.mul_right_comm, h2, Int.mul_right_comm n, h]; exact Int.mul_right_comm ..
      exact Int.eq_of_mul_eq_mul_right hd' this
    rw [this, ← h0]
  · rcases fit_cases n hd with ⟨h3, h4, h5⟩ | ⟨h3, _⟩
    · exfalso
      refine h2 _ _ h4 ?_
      have : ((fit n d).n * d') * d = (n' * (fit n d).d) * d := by
        rw [Int.mul_right_comm, h5, Int.mul_right_comm n', ← h]; exact Int.mul_right_comm ..
      exact Int.eq_of_mul_eq_mul_right hd this
    · rw [h1, h3]
end Go.Proofs.YtfocokjihbenmaaDoor.Nu
