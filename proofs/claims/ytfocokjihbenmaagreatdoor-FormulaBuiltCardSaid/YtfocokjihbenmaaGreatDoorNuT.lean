/-
  Plain facts on fractions in their valid form.
  The operations on fractions as plain functions, and what they are as rational numbers.
  Order, remainders and rounding of fractions, as plain facts.
  Decimal notations as plain functions: how they are written and read.
-/
import Derived.WalkKit
import Derived.Lib.ItoaNum
namespace Go.Proofs.YtfocokjihbenmaaGreatDoor.Nu

def gc (a b : Int) : Int := (Int.gcd a b : Int)
def sn (n d : Int) : Int := if d < 0 then -n else n
def sd (d : Int) : Int := if d < 0 then -d else d
def fn (n d : Int) : Int := sn n d / gc n d
def fd (n d : Int) : Int := sd d / gc n d
/-- A numerator, a denominator and the number of an error. -/
structure R3 where
  n : Int
  d : Int
  e : Int
def okB (n d : Int) : Bool := decide (1 ≤ d ∧ d ≤ 1000000000 ∧ -1000000000 ≤ n ∧ n ≤ 1000000000 ∧ Int.gcd n d = 1)
def fitB (n d : Int) : Bool := decide (-1000000000 ≤ fn n d ∧ fn n d ≤ 1000000000 ∧ fd n d ≤ 1000000000)
def fit (n d : Int) : R3 := if fitB n d then ⟨fn n d, fd n d, 0⟩ else ⟨0, 0, 15⟩

structure Ok (n d : Int) : Prop where
  d1 : 1 ≤ d
  d2 : d ≤ 1000000000
  n1 : -1000000000 ≤ n
  n2 : n ≤ 1000000000
  g : Int.gcd n d = 1
theorem okB_iff {n d : Int} : okB n d = true ↔ Ok n d := by
  unfold okB; rw [decide_eq_true_iff]
  exact ⟨fun ⟨a, b, c, e, f⟩ => ⟨a, b, c, e, f⟩, fun ⟨a, b, c, e, f⟩ => ⟨a, b, c, e, f⟩⟩
theorem okB_no {n d : Int} : okB n d = false ↔ ¬ Ok n d := by
  rw [← okB_iff]; cases okB n d <;> simp

theorem gc_pos (n : Int) {d : Int} (h : d ≠ 0) : 1 ≤ gc n d := by
  have := Int.gcd_pos_of_ne_zero_right n h; unfold gc; omega
theorem sd_pos {d : Int} (h : d ≠ 0) : 1 ≤ sd d := by unfold sd; split <;> omega
theorem gc_sn (n d : Int) : gc n d ∣ sn n d := by
  unfold gc sn; split
  · exact Int.dvd_neg.2 (Int.gcd_dvd_left ..)
  · exact Int.gcd_dvd_left ..
theorem gc_sd (n d : Int) : gc n d ∣ sd d := by
  unfold gc sd; split
  · exact Int.dvd_neg.2 (Int.gcd_dvd_right ..)
  · exact Int.gcd_dvd_right ..
theorem fn_mul (n d : Int) : fn n d * gc n d = sn n d := Int.ediv_mul_cancel (gc_sn n d)
theorem fd_mul (n d : Int) : fd n d * gc n d = sd d := Int.ediv_mul_cancel (gc_sd n d)
theorem gcd_sn (n d : Int) : Int.gcd (sn n d) (sd d) = Int.gcd n d := by
  unfold sn sd; split <;> simp
theorem fd_pos (n : Int) {d : Int} (h : d ≠ 0) : 1 ≤ fd n d := by
  have h1 := fd_mul n d; have h2 := sd_pos h; have h3 := gc_pos n h
  rcases (show fd n d < 1 ∨ 1 ≤ fd n d by omega) with h4 | h4
  · have : fd n d * gc n d ≤ 0 := Int.mul_nonpos_of_nonpos_of_nonneg (by omega) (by omega)
    omega
  · exact h4
theorem fg (n : Int) {d : Int} (h : d ≠ 0) : Int.gcd (fn n d) (fd n d) = 1 := by
  have h1 : 0 < Int.gcd (sn n d) (sd d) := by rw [gcd_sn]; have := gc_pos n h; unfold gc at this; omega
  have := Int.gcd_ediv_gcd_ediv_gcd h1
  rw [gcd_sn] at this
  exact this
theorem sn_sd (n d : Int) : sn n d * d = n * sd d := by
  unfold sn sd; split
  · rw [Int.neg_mul, Int.mul_neg]
  · rfl
theorem fcross (n : Int) {d : Int} (h : d ≠ 0) : fn n d * d = n * fd n d := by
  have h1 := fn_mul n d; have h2 := fd_mul n d; have h3 := sn_sd n d; have h4 := gc_pos n h
  have : (fn n d * d) * gc n d = (n * fd n d) * gc n d := by
    rw [Int.mul_right_comm, h1, h3, Int.mul_assoc, h2]
  exact Int.eq_of_mul_eq_mul_right (by omega) this
theorem dvd_of {a b c : Int} (h : Int.gcd a b = 1) (hd : b ∣ a * c) : b ∣ c := by
  have h1 : (b : Int) ∣ (Int.gcd b a : Int) * c := Int.dvd_gcd_mul_iff_dvd_mul.2 hd
  rw [Int.gcd_comm, h] at h1
  simpa using h1
/-- A fraction in its lowest terms is one alone. -/
theorem lone {a b c e : Int} (h1 : Int.gcd a b = 1) (h2 : Int.gcd c e = 1) (hb : 1 ≤ b) (he : 1 ≤ e) (h : a * e = c * b) : a = c ∧ b = e := by
  have d1 : b ∣ e := dvd_of h1 ⟨c, by rw [h, Int.mul_comm]⟩
  have d2 : e ∣ b := dvd_of h2 ⟨a, by rw [← h, Int.mul_comm]⟩
  have hbe : b = e := Int.le_antisymm (Int.le_of_dvd (by omega) d1) (Int.le_of_dvd (by omega) d2)
  subst hbe
  exact ⟨Int.eq_of_mul_eq_mul_right (by omega) h, rfl⟩
theorem Ok.lone {a b c e : Int} (h1 : Ok a b) (h2 : Ok c e) (h : a * e = c * b) : a = c ∧ b = e := Nu.lone h1.g h2.g h1.d1 h2.d1 h
theorem fit_of {n d a b : Int} (hd : d ≠ 0) (h : Ok a b) (hc : a * d = n * b) : fit n d = ⟨a, b, 0⟩ := by
  have h1 := fcross n hd
  have h2 : fn n d * b = a * fd n d := by
    have : (fn n d * b) * d = (a * fd n d) * d := by
      rw [Int.mul_right_comm, h1, Int.mul_right_comm a, hc]; exact Int.mul_right_comm ..
    exact Int.eq_of_mul_eq_mul_right hd this
  obtain ⟨e1, e2⟩ := Nu.lone (fg n hd) h.g (fd_pos n hd) h.d1 h2
  have hB : fitB n d = true := by
    unfold fitB; rw [decide_eq_true_iff, e1, e2]; exact ⟨h.n1, h.n2, h.d2⟩
  unfold fit; rw [if_pos hB, e1, e2]
theorem fit_cases (n : Int) {d : Int} (hd : d ≠ 0) : ((fit n d).e = 0 ∧ Ok (fit n d).n (fit n d).d ∧ (fit n d).n * d = n * (fit n d).d) ∨ (fit n d = ⟨0, 0, 15⟩ ∧ ∀ a b, Ok a b → a * d ≠ n * b) := by
  cases hB : fitB n d
  · right
    have h0 : fit n d = ⟨0, 0, 15⟩ := by unfold fit; rw [if_neg (by rw [hB]; simp)]
    refine ⟨h0, fun a b hab hc => ?_⟩
    have := fit_of hd hab hc
    rw [h0] at this
    simp at this
  · left
    have h0 : fit n d = ⟨fn n d, fd n d, 0⟩ := by unfold fit; rw [if_pos hB]
    unfold fitB at hB; rw [decide_eq_true_iff] at hB
    rw [h0]
    exact ⟨rfl, ⟨fd_pos n hd, hB.2.2, hB.1, hB.2.1, fg n hd⟩, fcross n hd⟩
theorem fit_ok {n d : Int} (hd : d ≠ 0) (h : (fit n d).e = 0) : Ok (fit n d).n (fit n d).d ∧ (fit n d).n * d = n * (fit n d).d := by
  rcases fit_cases n hd with ⟨_, h1, h2⟩ | ⟨h1, _⟩
  · exact ⟨h1, h2⟩
  · rw [h1] at h; simp at h
theorem fit_err {n d : Int} (h : (fit n d).e ≠ 0) : fit n d = ⟨0, 0, 15⟩ := by
  unfold fit at h ⊢; split
  · rename_i hB; rw [if_pos hB] at h; exact absurd rfl h
  · rfl
/-- A fraction of small terms fits. -/
theorem fit_small {n d : Int} (hd : d ≠ 0) (h1 : -1000000000 ≤ n) (h2 : n ≤ 1000000000) (h3 : -1000000000 ≤ d) (h4 : d ≤ 1000000000) : (fit n d).e = 0 := by
  have hg := gc_pos n hd
  have key : ∀ x y : Int, 1 ≤ y → (x / y).natAbs ≤ x.natAbs + 0 ∨ True := fun _ _ _ => Or.inr trivial
  have hx : ∀ x g : Int, 1 ≤ g → g ∣ x → -1000000000 ≤ x → x ≤ 1000000000 → -1000000000 ≤ x / g ∧ x / g ≤ 1000000000 := by
    intro x g hg ⟨k, hk⟩ ha hb
    subst hk
    rw [Int.mul_ediv_cancel_left _ (by omega)]
    rcases Int.le_total 0 k with hk | hk
    · have : k ≤ g * k := by have := Int.mul_le_mul_of_nonneg_right hg hk; omega
      omega
    · have : g * k ≤ k := by have := Int.mul_le_mul_of_nonpos_right hg hk; omega
      omega
  have e1 := hx _ _ hg (gc_sn n d) (by unfold sn; split <;> omega) (by unfold sn; split <;> omega)
  have e2 := hx _ _ hg (gc_sd n d) (by unfold sd; split <;> omega) (by unfold sd; split <;> omega)
  have hB : fitB n d = true := by
    unfold fitB; rw [decide_eq_true_iff]; exact ⟨e1.1, e1.2, e2.2⟩
  unfold fit; rw [if_pos hB]
theorem fit_same {n d n' d' : Int} (hd : d ≠ 0) (hd' : d' ≠ 0) (h : n * d' = n' * d) : fit n d = fit n' d' := by
  rcases fit_cases n' hd' with ⟨h0, h1, h2⟩ | ⟨h1, h2⟩
  · have : fit n d = ⟨(fit n' d').n, (fit n' d').d, 0⟩ := by
      refine fit_of hd h1 ?_
      have : ((fit n' d').n * d) * d' = (n * (fit n' d').d) * d' := by
        rw [Int.mul_right_comm, h2, Int.mul_right_comm n, h]; exact Int.mul_right_comm ..
      exact Int.eq_of_mul_eq_mul_right hd' this
    rw [this, ← h0]
  · rcases fit_cases n hd with ⟨h3, h4, h5⟩ | ⟨h3, _⟩
    · exfalso
      refine h2 _ _ h4 ?_
      have : ((fit n d).n * d') * d = (n' * (fit n d).d) * d := by
        rw [Int.mul_right_comm, h5, Int.mul_right_comm n', ← h]; exact Int.mul_right_comm ..
      exact Int.eq_of_mul_eq_mul_right hd this
    · rw [h1, h3]
end Go.Proofs.YtfocokjihbenmaaGreatDoor.Nu

namespace Go.Proofs.YtfocokjihbenmaaGreatDoor.Nu

def add (a p b q : Int) : R3 := if okB a p && okB b q then fit (a * q + b * p) (p * q) else ⟨0, 0, 7⟩
def sub (a p b q : Int) : R3 := if okB a p && okB b q then fit (a * q - b * p) (p * q) else ⟨0, 0, 7⟩
def mul (a p b q : Int) : R3 := if okB a p && okB b q then fit (a * b) (p * q) else ⟨0, 0, 7⟩
def div (a p b q : Int) : R3 := if okB a p && okB b q then (if b = 0 then ⟨0, 0, 16⟩ else fit (a * q) (p * b)) else ⟨0, 0, 7⟩
def mod (a p b q : Int) : R3 := if okB a p && okB b q then (if b = 0 then ⟨0, 0, 16⟩ else fit (Int.fmod (a * q) (b * p)) (p * q)) else ⟨0, 0, 7⟩
def cmp (a p b q : Int) : Int := if okB a p && okB b q then (if a * q < b * p then -1 else if b * p < a * q then 1 else 0) else 0
def inB (i : Int) : Bool := decide (-1000000000 ≤ i ∧ i ≤ 1000000000)
def make (n d : Int) : R3 := if inB n && inB d then (if d = 0 then ⟨0, 0, 16⟩ else fit n d) else ⟨0, 0, 2⟩
def pw (k : Nat) : Int := 10 ^ k
def un (n d : Int) (k : Nat) : Int := (2 * n.natAbs * pw k + d) / (2 * d)
def ud (n d : Int) (k : Nat) : Int := if n < 0 then - un n d k else un n d k
def rnd (n d k : Int) : R3 := if okB n d then (if 0 ≤ k ∧ k ≤ 9 then fit (ud n d k.toNat) (pw k.toNat) else ⟨0, 0, 2⟩) else ⟨0, 0, 7⟩

/-- The rational number. -/
def qv (n d : Int) : Rat := Rat.divInt n d
theorem qv_eq {a b c e : Int} (hb : b ≠ 0) (he : e ≠ 0) : qv a b = qv c e ↔ a * e = c * b := Rat.divInt_eq_divInt_iff hb he
theorem Ok.ne {n d : Int} (h : Ok n d) : d ≠ 0 := by have := h.d1; omega
theorem Ok.lone_qv {a b c e : Int} (h1 : Ok a b) (h2 : Ok c e) (h : qv a b = qv c e) : a = c ∧ b = e := h1.lone h2 ((qv_eq h1.ne h2.ne).1 h)
theorem fit_qv {n d : Int} (hd : d ≠ 0) (h : (fit n d).e = 0) : Ok (fit n d).n (fit n d).d ∧ qv (fit n d).n (fit n d).d = qv n d := by
  obtain ⟨h1, h2⟩ := fit_ok hd h
  exact ⟨h1, (qv_eq h1.ne hd).2 h2⟩
theorem fit_of_qv {n d a b : Int} (hd : d ≠ 0) (h : Ok a b) (hq : qv a b = qv n d) : fit n d = ⟨a, b, 0⟩ := fit_of hd h ((qv_eq h.ne hd).1 hq)

theorem add_ok {a p b q : Int} (h1 : Ok a p) (h2 : Ok b q) : add a p b q = fit (a * q + b * p) (p * q) := by
  unfold add; rw [okB_iff.2 h1, okB_iff.2 h2]; rfl
theorem sub_ok {a p b q : Int} (h1 : Ok a p) (h2 : Ok b q) : sub a p b q = fit (a * q - b * p) (p * q) := by
  unfold sub; rw [okB_iff.2 h1, okB_iff.2 h2]; rfl
theorem mul_ok {a p b q : Int} (h1 : Ok a p) (h2 : Ok b q) : mul a p b q = fit (a * b) (p * q) := by
  unfold mul; rw [okB_iff.2 h1, okB_iff.2 h2]; rfl
theorem div_ok {a p b q : Int} (h1 : Ok a p) (h2 : Ok b q) (hb : b ≠ 0) : div a p b q = fit (a * q) (p * b) := by
  unfold div; rw [okB_iff.2 h1, okB_iff.2 h2]; simp [hb]
theorem mod_ok {a p b q : Int} (h1 : Ok a p) (h2 : Ok b q) (hb : b ≠ 0) : mod a p b q = fit (Int.fmod (a * q) (b * p)) (p * q) := by
  unfold mod; rw [okB_iff.2 h1, okB_iff.2 h2]; simp [hb]
theorem ne_mul {p q : Int} (h1 : p ≠ 0) (h2 : q ≠ 0) : p * q ≠ 0 := Int.mul_ne_zero h1 h2
theorem add_qv {a p b q : Int} (h1 : Ok a p) (h2 : Ok b q) (h : (add a p b q).e = 0) : Ok (add a p b q).n (add a p b q).d ∧ qv (add a p b q).n (add a p b q).d = qv a p + qv b q := by
  rw [add_ok h1 h2] at h ⊢
  obtain ⟨h3, h4⟩ := fit_qv (ne_mul h1.ne h2.ne) h
  exact ⟨h3, h4.trans (Rat.divInt_add_divInt _ _ h1.ne h2.ne).symm⟩
theorem sub_qv {a p b q : Int} (h1 : Ok a p) (h2 : Ok b q) (h : (sub a p b q).e = 0) : Ok (sub a p b q).n (sub a p b q).d ∧ qv (sub a p b q).n (sub a p b q).d = qv a p - qv b q := by
  rw [sub_ok h1 h2] at h ⊢
  obtain ⟨h3, h4⟩ := fit_qv (ne_mul h1.ne h2.ne) h
  exact ⟨h3, h4.trans (Rat.divInt_sub_divInt _ _ h1.ne h2.ne).symm⟩
theorem mul_qv {a p b q : Int} (h1 : Ok a p) (h2 : Ok b q) (h : (mul a p b q).e = 0) : Ok (mul a p b q).n (mul a p b q).d ∧ qv (mul a p b q).n (mul a p b q).d = qv a p * qv b q := by
  rw [mul_ok h1 h2] at h ⊢
  obtain ⟨h3, h4⟩ := fit_qv (ne_mul h1.ne h2.ne) h
  exact ⟨h3, h4.trans (Rat.divInt_mul_divInt _ _).symm⟩
theorem qv_zero {d : Int} : qv 0 d = 0 := Rat.zero_divInt _
theorem qv_ne {b q : Int} (hq : q ≠ 0) (hb : b ≠ 0) : qv b q ≠ 0 := by
  intro h
  have : qv b q = qv 0 1 := by rw [h, qv_zero]
  have := (qv_eq hq (by omega)).1 this
  omega
theorem div_qv' {a p b q : Int} (hp : p ≠ 0) (hq : q ≠ 0) (hb : b ≠ 0) : qv (a * q) (p * b) * qv b q = qv a p := by
  unfold qv
  rw [Rat.divInt_mul_divInt]
  exact (Rat.divInt_eq_divInt_iff (ne_mul (ne_mul hp hb) hq) hp).2 (by grind)
theorem div_qv {a p b q : Int} (h1 : Ok a p) (h2 : Ok b q) (hb : b ≠ 0) (h : (div a p b q).e = 0) : Ok (div a p b q).n (div a p b q).d ∧ qv (div a p b q).n (div a p b q).d * qv b q = qv a p := by
  rw [div_ok h1 h2 hb] at h ⊢
  obtain ⟨h3, h4⟩ := fit_qv (ne_mul h1.ne hb) h
  exact ⟨h3, by rw [h4]; exact div_qv' h1.ne h2.ne hb⟩
theorem rat_cancel {x y c : Rat} (hc : c ≠ 0) (h : x * c = y * c) : x = y := by
  have := congrArg (· * c⁻¹) h
  simpa [Rat.mul_assoc, Rat.mul_inv_cancel _ hc] using this
/-- Where a number in its valid form has the value, the operation hands it back. -/
theorem add_is {a p b q c r : Int} (h1 : Ok a p) (h2 : Ok b q) (h3 : Ok c r) (h : qv c r = qv a p + qv b q) : add a p b q = ⟨c, r, 0⟩ := by
  rw [add_ok h1 h2]
  exact fit_of_qv (ne_mul h1.ne h2.ne) h3 (h.trans (Rat.divInt_add_divInt _ _ h1.ne h2.ne))
theorem sub_is {a p b q c r : Int} (h1 : Ok a p) (h2 : Ok b q) (h3 : Ok c r) (h : qv c r = qv a p - qv b q) : sub a p b q = ⟨c, r, 0⟩ := by
  rw [sub_ok h1 h2]
  exact fit_of_qv (ne_mul h1.ne h2.ne) h3 (h.trans (Rat.divInt_sub_divInt _ _ h1.ne h2.ne))
theorem mul_is {a p b q c r : Int} (h1 : Ok a p) (h2 : Ok b q) (h3 : Ok c r) (h : qv c r = qv a p * qv b q) : mul a p b q = ⟨c, r, 0⟩ := by
  rw [mul_ok h1 h2]
  exact fit_of_qv (ne_mul h1.ne h2.ne) h3 (h.trans (Rat.divInt_mul_divInt _ _))
theorem div_is {a p b q c r : Int} (h1 : Ok a p) (h2 : Ok b q) (hb : b ≠ 0) (h3 : Ok c r) (h : qv c r * qv b q = qv a p) : div a p b q = ⟨c, r, 0⟩ := by
  rw [div_ok h1 h2 hb]
  refine fit_of_qv (ne_mul h1.ne hb) h3 ?_
  have h5 : qv c r * qv b q = qv (a * q) (p * b) * qv b q := h.trans (div_qv' h1.ne h2.ne hb).symm
  exact rat_cancel (qv_ne h2.ne hb) h5
theorem ok_zero : Ok 0 1 := ⟨by omega, by omega, by omega, by omega, by decide⟩

/-! ### Small fractions -/
structure Sm (n d : Int) : Prop where
  ok : Ok n d
  n1 : -1999 ≤ n
  n2 : n ≤ 1999
  d2 : d ≤ 1024
theorem mul_bd {a b A B : Int} (h1 : -A ≤ a) (h2 : a ≤ A) (h3 : -B ≤ b) (h4 : b ≤ B) : -(A * B) ≤ a * b ∧ a * b ≤ A * B := by
  have e : (a * b).natAbs ≤ A.natAbs * B.natAbs := by rw [Int.natAbs_mul]; exact Nat.mul_le_mul (by omega) (by omega)
  have e2 : ((A.natAbs * B.natAbs : Nat) : Int) = A * B := by
    rw [Int.natCast_mul, Int.natAbs_of_nonneg (by omega), Int.natAbs_of_nonneg (by omega)]
  omega
theorem add_sm {a p b q : Int} (h1 : Sm a p) (h2 : Sm b q) : (add a p b q).e = 0 := by
  rw [add_ok h1.ok h2.ok]
  have a1 := h1.n1; have a2 := h1.n2; have a3 := h1.d2; have a4 := h1.ok.d1
  have b1 := h2.n1; have b2 := h2.n2; have b3 := h2.d2; have b4 := h2.ok.d1
  have e1 := mul_bd (A := 1999) (B := 1024) a1 a2 (show -1024 ≤ q by omega) b3
  have e2 := mul_bd (A := 1999) (B := 1024) b1 b2 (show -1024 ≤ p by omega) a3
  have e3 := mul_bd (A := 1024) (B := 1024) (show -1024 ≤ p by omega) a3 (show -1024 ≤ q by omega) b3
  exact fit_small (ne_mul h1.ok.ne h2.ok.ne) (by omega) (by omega) (by omega) (by omega)
theorem mul_sm {a p b q : Int} (h1 : Sm a p) (h2 : Sm b q) : (mul a p b q).e = 0 := by
  rw [mul_ok h1.ok h2.ok]
  have a1 := h1.n1; have a2 := h1.n2; have a3 := h1.d2; have a4 := h1.ok.d1
  have b1 := h2.n1; have b2 := h2.n2; have b3 := h2.d2; have b4 := h2.ok.d1
  have e1 := mul_bd (A := 1999) (B := 1999) a1 a2 b1 b2
  have e3 := mul_bd (A := 1024) (B := 1024) (show -1024 ≤ p by omega) a3 (show -1024 ≤ q by omega) b3
  exact fit_small (ne_mul h1.ok.ne h2.ok.ne) (by omega) (by omega) (by omega) (by omega)

/-! ### The laws -/
theorem add_comm' (a p b q : Int) : add a p b q = add b q a p := by
  unfold add; rw [Bool.and_comm, Int.add_comm (a * q), Int.mul_comm p q]
theorem mul_comm' (a p b q : Int) : mul a p b q = mul b q a p := by
  unfold mul; rw [Bool.and_comm, Int.mul_comm a b, Int.mul_comm p q]
/-- The sum of the products, less the product of the sum, is 0. -/
theorem ring_zero {xn xd yn yd zn zd : Int} (hx : Sm xn xd) (hy : Sm yn yd) (hz : Sm zn zd) {s u v w k : R3} (es : s = add xn xd yn yd) (eu : u = mul s.n s.d zn zd)
    (ev : v = mul xn xd zn zd) (ew : w = mul yn yd zn zd) (ek : k = add v.n v.d w.n w.d) (hu : u.e = 0) (hk : k.e = 0) : sub k.n k.d u.n u.d = ⟨0, 1, 0⟩ := by
  have hs0 := add_sm hx hy
  have hv0 := mul_sm hx hz
  have hw0 := mul_sm hy hz
  obtain ⟨s1, s2⟩ := add_qv hx.ok hy.ok hs0
  obtain ⟨v1, v2⟩ := mul_qv hx.ok hz.ok hv0
  obtain ⟨w1, w2⟩ := mul_qv hy.ok hz.ok hw0
  rw [← es] at s1 s2; rw [← ev] at v1 v2; rw [← ew] at w1 w2
  rw [eu] at hu; rw [ek] at hk
  obtain ⟨u1, u2⟩ := mul_qv s1 hz.ok hu
  obtain ⟨k1, k2⟩ := add_qv v1 w1 hk
  rw [← eu] at u1 u2; rw [← ek] at k1 k2
  refine sub_is k1 u1 ok_zero ?_
  rw [k2, u2, s2, v2, w2, qv_zero, Rat.add_mul]
  grind
/-- Subtraction undoes addition. -/
theorem inv_sub {xn xd yn yd : Int} (hx : Sm xn xd) (hy : Sm yn yd) : sub (add xn xd yn yd).n (add xn xd yn yd).d yn yd = ⟨xn, xd, 0⟩ := by
  obtain ⟨s1, s2⟩ := add_qv hx.ok hy.ok (add_sm hx hy)
  refine sub_is s1 hy.ok hx.ok ?_
  rw [s2]; exact Rat.add_sub_cancel.symm
theorem inv_div {xn xd yn yd : Int} (hx : Sm xn xd) (hy : Sm yn yd) (h : yn ≠ 0) : div (mul xn xd yn yd).n (mul xn xd yn yd).d yn yd = ⟨xn, xd, 0⟩ := by
  obtain ⟨s1, s2⟩ := mul_qv hx.ok hy.ok (mul_sm hx hy)
  exact div_is s1 hy.ok h hx.ok s2.symm
end Go.Proofs.YtfocokjihbenmaaGreatDoor.Nu

namespace Go.Proofs.YtfocokjihbenmaaGreatDoor.Nu

theorem le_qv {a p b q : Int} (hp : 1 ≤ p) (hq : 1 ≤ q) : qv a p ≤ qv b q ↔ a * q ≤ b * p := by
  unfold qv
  rw [Rat.le_iff_sub_nonneg, Rat.divInt_sub_divInt _ _ (by omega) (by omega), Rat.divInt_nonneg_iff_of_pos_right (Int.mul_pos (by omega) (by omega))]
  omega
theorem lt_qv {a p b q : Int} (hp : 1 ≤ p) (hq : 1 ≤ q) : qv a p < qv b q ↔ a * q < b * p := by
  rw [← Rat.not_le, le_qv hq hp]; omega
theorem cmp_ok {a p b q : Int} (h1 : Ok a p) (h2 : Ok b q) : cmp a p b q = if qv a p < qv b q then -1 else if qv b q < qv a p then 1 else 0 := by
  unfold cmp
  rw [okB_iff.2 h1, okB_iff.2 h2]
  simp only [lt_qv h1.d1 h2.d1, lt_qv h2.d1 h1.d1]; simp
theorem cmp_lt {a p b q : Int} (h1 : Ok a p) (h2 : Ok b q) : cmp a p b q < 0 ↔ a * q < b * p := by
  unfold cmp; rw [okB_iff.2 h1, okB_iff.2 h2]; simp; split <;> (try split) <;> omega
theorem cmp_gt {a p b q : Int} (h1 : Ok a p) (h2 : Ok b q) : 0 < cmp a p b q ↔ b * p < a * q := by
  unfold cmp; rw [okB_iff.2 h1, okB_iff.2 h2]; simp; split <;> (try split) <;> omega
theorem cmp_neg (a p b q : Int) : cmp b q a p = - cmp a p b q := by
  unfold cmp
  rw [Bool.and_comm]
  split
  · split <;> split <;> (try split) <;> omega
  · rfl
theorem cmp_zero {a p b q : Int} (h1 : Ok a p) (h2 : Ok b q) : cmp a p b q = 0 ↔ a = b ∧ p = q := by
  constructor
  · intro h
    refine h1.lone h2 ?_
    have e1 := cmp_lt h1 h2; have e2 := cmp_gt h1 h2
    rw [h] at e1 e2
    have n1 : ¬ a * q < b * p := fun x => absurd (e1.2 x) (by decide)
    have n2 : ¬ b * p < a * q := fun x => absurd (e2.2 x) (by decide)
    omega
  · rintro ⟨rfl, rfl⟩
    unfold cmp; simp
theorem cmp_trans {a p b q c r : Int} (h1 : Ok a p) (h2 : Ok b q) (h3 : Ok c r) (x : cmp a p b q ≤ 0) (y : cmp b q c r ≤ 0) : cmp a p c r ≤ 0 := by
  have x' : ¬ b * p < a * q := fun h => absurd ((cmp_gt h1 h2).2 h) (by omega)
  have y' : ¬ c * q < b * r := fun h => absurd ((cmp_gt h2 h3).2 h) (by omega)
  have hx := (le_qv h1.d1 h2.d1).2 (by omega : a * q ≤ b * p)
  have hy := (le_qv h2.d1 h3.d1).2 (by omega : b * r ≤ c * q)
  have hz := (le_qv h1.d1 h3.d1).1 (Rat.le_trans hx hy)
  have : ¬ 0 < cmp a p c r := fun h => by have := (cmp_gt h1 h3).1 h; omega
  omega
/-- Sums keep the order. -/
theorem cmp_add {xn xd yn yd zn zd : Int} (hx : Sm xn xd) (hy : Sm yn yd) (hz : Sm zn zd) {s t : R3} (es : s = add xn xd zn zd) (et : t = add yn yd zn zd) : cmp s.n s.d t.n t.d = cmp xn xd yn yd := by
  obtain ⟨s1, s2⟩ := add_qv hx.ok hz.ok (add_sm hx hz)
  obtain ⟨t1, t2⟩ := add_qv hy.ok hz.ok (add_sm hy hz)
  rw [← es] at s1 s2; rw [← et] at t1 t2
  rw [cmp_ok s1 t1, cmp_ok hx.ok hy.ok, s2, t2]
  simp only [Rat.add_lt_add_right]

/-! ### Remainders -/
structure Mo (xn xd yn yd : Int) (r : R3) : Prop where
  e : r.e = 0
  ok : Ok r.n r.d
  sub : ∃ s : R3, sub xn xd r.n r.d = s ∧ s.e = 0 ∧ Ok s.n s.d ∧ ∃ k, div s.n s.d yn yd = ⟨k, 1, 0⟩
  pos : 0 < yn → 0 ≤ cmp r.n r.d 0 1 ∧ cmp r.n r.d yn yd < 0
  neg : yn < 0 → cmp r.n r.d 0 1 ≤ 0 ∧ 0 < cmp r.n r.d yn yd
theorem fmod_lt_neg {a b : Int} (h : b < 0) : b < Int.fmod a b ∧ Int.fmod a b ≤ 0 := by
  have e : Int.fmod a b = - Int.fmod (-a) (-b) := by rw [Int.neg_fmod_neg, Int.neg_neg]
  have h1 := Int.fmod_nonneg_of_pos (-a) (show 0 < -b by omega)
  have h2 := Int.fmod_lt_of_pos (-a) (show 0 < -b by omega)
  omega
theorem mod_mo {xn xd yn yd : Int} (hx : Sm xn xd) (hy : Sm yn yd) (h : yn ≠ 0) : Mo xn xd yn yd (mod xn xd yn yd) := by
  have a1 := hx.n1; have a2 := hx.n2; have a3 := hx.d2; have a4 := hx.ok.d1
  have b1 := hy.n1; have b2 := hy.n2; have b3 := hy.d2; have b4 := hy.ok.d1
  have eA := mul_bd (A := 1999) (B := 1024) a1 a2 (show -1024 ≤ yd by omega) b3
  have eB := mul_bd (A := 1999) (B := 1024) b1 b2 (show -1024 ≤ xd by omega) a3
  have eD := mul_bd (A := 1024) (B := 1024) (show -1024 ≤ xd by omega) a3 (show -1024 ≤ yd by omega) b3
  have hD : 1 ≤ xd * yd := by have := Int.mul_pos (show 0 < xd by omega) (show 0 < yd by omega); omega
  have hB0 : yn * xd ≠ 0 := ne_mul h (by omega)
  rw [mod_ok hx.ok hy.ok h]
  generalize hF : Int.fmod (xn * yd) (yn * xd) = F
  generalize hQ : Int.fdiv (xn * yd) (yn * xd) = Q
  have hFQ : F + (yn * xd) * Q = xn * yd := by rw [← hF, ← hQ]; exact Int.fmod_add_mul_fdiv ..
  have hFp : 0 < yn → 0 ≤ F ∧ F < yn * xd := fun hp => by
    have : 0 < yn * xd := Int.mul_pos hp (by omega)
    rw [← hF]; exact ⟨Int.fmod_nonneg_of_pos _ this, Int.fmod_lt_of_pos _ this⟩
  have hFn : yn < 0 → yn * xd < F ∧ F ≤ 0 := fun hp => by
    have : yn * xd < 0 := Int.mul_neg_of_neg_of_pos hp (by omega)
    rw [← hF]; exact fmod_lt_neg this
  have hFb : -2046976 ≤ F ∧ F ≤ 2046976 := by
    rcases Int.lt_or_gt_of_ne h with hp | hp
    · have := hFn hp; omega
    · have := hFp hp; omega
  have re : (fit F (xd * yd)).e = 0 := fit_small (by omega) (by omega) (by omega) (by omega) (by omega)
  obtain ⟨r1, r2⟩ := fit_ok (by omega) re
  have r3 : qv (fit F (xd * yd)).n (fit F (xd * yd)).d = qv F (xd * yd) := (qv_eq r1.ne (by omega)).2 r2
  generalize fit F (xd * yd) = r at re r1 r2 r3
  have hs : sub xn xd r.n r.d = fit (yn * xd * Q) (xd * yd) := by
    rw [sub_ok hx.ok r1]
    refine fit_same (ne_mul hx.ok.ne r1.ne) (by omega) ?_
    have : xn * yd = F + yn * xd * Q := hFQ.symm
    grind
  have hQb : -4093952 ≤ yn * xd * Q ∧ yn * xd * Q ≤ 4093952 := by omega
  have se : (fit (yn * xd * Q) (xd * yd)).e = 0 := fit_small (by omega) (by omega) (by omega) (by omega) (by omega)
  obtain ⟨s1, s2⟩ := fit_ok (by omega) se
  have s3 := (qv_eq s1.ne (by omega)).2 s2
  have hQ1 : -4093952 ≤ Q ∧ Q ≤ 4093952 := by
    have e : (yn * xd * Q).natAbs = (yn * xd).natAbs * Q.natAbs := Int.natAbs_mul ..
    have : Q.natAbs ≤ (yn * xd).natAbs * Q.natAbs := Nat.le_mul_of_pos_left _ (by omega)
    omega
  refine ⟨re, r1, ⟨_, hs, se, s1, Q, ?_⟩, fun hp => ?_, fun hp => ?_⟩
  · refine div_is s1 hy.ok h ⟨by omega, by omega, by omega, by omega, by simp⟩ ?_
    rw [s3]; unfold qv
    rw [Rat.divInt_mul_divInt]
    exact (Rat.divInt_eq_divInt_iff (by simpa using hy.ok.ne) (by omega)).2 (by grind)
  · have hp2 := hFp hp
    have h0 : 0 ≤ r.n := by
      rcases (show r.n < 0 ∨ 0 ≤ r.n by omega) with h5 | h5
      · have := Int.mul_neg_of_neg_of_pos h5 (show 0 < xd * yd by omega)
        have := Int.mul_nonneg hp2.1 (show 0 ≤ r.d by have := r1.d1; omega)
        omega
      · exact h5
    refine ⟨?_, (cmp_lt r1 hy.ok).2 ?_⟩
    · have : ¬ cmp r.n r.d 0 1 < 0 := fun h6 => by have := (cmp_lt r1 ok_zero).1 h6; omega
      omega
    · refine (lt_qv r1.d1 hy.ok.d1).1 ?_
      rw [r3]
      refine (lt_qv hD hy.ok.d1).2 ?_
      have := Int.mul_lt_mul_of_pos_right hp2.2 (show 0 < yd by omega)
      grind
  · have hp2 := hFn hp
    have h0 : r.n ≤ 0 := by
      rcases (show 0 < r.n ∨ r.n ≤ 0 by omega) with h5 | h5
      · have := Int.mul_pos h5 (show 0 < xd * yd by omega)
        have := Int.mul_nonpos_of_nonpos_of_nonneg hp2.2 (show 0 ≤ r.d by have := r1.d1; omega)
        omega
      · exact h5
    refine ⟨?_, (cmp_gt r1 hy.ok).2 ?_⟩
    · have : ¬ 0 < cmp r.n r.d 0 1 := fun h6 => by have := (cmp_gt r1 ok_zero).1 h6; omega
      omega
    · refine (lt_qv hy.ok.d1 r1.d1).1 ?_
      rw [r3]
      refine (lt_qv hy.ok.d1 hD).2 ?_
      have := Int.mul_lt_mul_of_pos_right hp2.1 (show 0 < yd by omega)
      grind

/-! ### Rounding -/
theorem pw_three {k : Nat} (h : k ≤ 3) : 1 ≤ pw k ∧ pw k ≤ 1000 := by
  unfold pw
  have : k = 0 ∨ k = 1 ∨ k = 2 ∨ k = 3 := by omega
  rcases this with rfl | rfl | rfl | rfl <;> decide
structure Ne (n d : Int) (k : Nat) (r : R3) : Prop where
  e : r.e = 0
  ok : Ok r.n r.d
  mul : ∃ u, mul r.n r.d (pw k) 1 = ⟨u, 1, 0⟩
  half : okB 1 (2 * pw k) = true
  m : sub 0 1 1 (2 * pw k) = ⟨-1, 2 * pw k, 0⟩
  near : (sub n d r.n r.d).e = 0 → cmp (sub n d r.n r.d).n (sub n d r.n r.d).d 1 (2 * pw k) ≤ 0 ∧ 0 ≤ cmp (sub n d r.n r.d).n (sub n d r.n r.d).d (-1) (2 * pw k)
theorem un_bd {n d : Int} (k : Nat) (hd : 1 ≤ d) : 2 * d * un n d k ≤ 2 * n.natAbs * pw k + d ∧ 2 * n.natAbs * pw k + d < 2 * d * un n d k + 2 * d := by
  unfold un
  generalize 2 * (n.natAbs : Int) * pw k + d = X
  have h1 := Int.mul_ediv_add_emod X (2 * d)
  have h2 := Int.emod_nonneg X (show 2 * d ≠ 0 by omega)
  have h3 := Int.emod_lt_of_pos X (show 0 < 2 * d by omega)
  constructor <;> omega
theorem ud_bd {n d : Int} (k : Nat) (hd : 1 ≤ d) : -d ≤ 2 * n * pw k - 2 * d * ud n d k ∧ 2 * n * pw k - 2 * d * ud n d k ≤ d := by
  obtain ⟨h1, h2⟩ := un_bd (n := n) k hd
  unfold ud
  split
  · have e : (n.natAbs : Int) = -n := by omega
    rw [e, Int.mul_neg, Int.neg_mul] at h1 h2
    rw [Int.mul_neg]
    constructor <;> omega
  · have e : (n.natAbs : Int) = n := by omega
    rw [e] at h1 h2
    constructor <;> omega
theorem rnd_ne {n d : Int} (h : Sm n d) {k : Nat} (hk : k ≤ 3) : Ne n d k (rnd n d k) := by
  have a1 := h.n1; have a2 := h.n2; have a3 := h.d2; have a4 := h.ok.d1
  obtain ⟨p1, p2⟩ := pw_three hk
  have hr : rnd n d k = fit (ud n d k) (pw k) := by
    unfold rnd; rw [okB_iff.2 h.ok]; simp; intro h; omega
  obtain ⟨u1, u2⟩ := ud_bd (n := n) k a4
  have eN := mul_bd (A := 1999) (B := 1000) a1 a2 (show -1000 ≤ pw k by omega) p2
  have ub : -4000000 ≤ ud n d k ∧ ud n d k ≤ 4000000 := by
    have e : (2 * d * ud n d k).natAbs = (2 * d).natAbs * (ud n d k).natAbs := Int.natAbs_mul ..
    have h2 : (ud n d k).natAbs ≤ (2 * d).natAbs * (ud n d k).natAbs := Nat.le_mul_of_pos_left _ (by omega)
    have e2 : 2 * n * pw k = 2 * (n * pw k) := Int.mul_assoc ..
    omega
  have re : (fit (ud n d k) (pw k)).e = 0 := fit_small (by omega) (by omega) (by omega) (by omega) (by omega)
  obtain ⟨r1, r2⟩ := fit_ok (by omega) re
  rw [hr]
  have r3 := (qv_eq r1.ne (by omega)).2 r2
  generalize fit (ud n d k) (pw k) = r at re r1 r2 r3
  have okP : Ok (pw k) 1 := ⟨by omega, by omega, by omega, by omega, by simp⟩
  have okH : Ok 1 (2 * pw k) := ⟨by omega, by omega, by omega, by omega, by simp⟩
  have okM : Ok (-1) (2 * pw k) := ⟨by omega, by omega, by omega, by omega, by simp⟩
  refine ⟨re, r1, ⟨ud n d k, ?_⟩, okB_iff.2 okH, ?_, fun se => ?_⟩
  · refine mul_is r1 okP ⟨by omega, by omega, by omega, by omega, by simp⟩ ?_
    rw [r3]; unfold qv; rw [Rat.divInt_mul_divInt]
    exact (Rat.divInt_eq_divInt_iff (by omega) (by omega)).2 (by grind)
  · refine sub_is ok_zero okH okM ?_
    unfold qv; rw [Rat.divInt_sub_divInt _ _ (by omega) (by omega)]
    exact (Rat.divInt_eq_divInt_iff (by omega) (by omega)).2 (by grind)
  · obtain ⟨s1, s2⟩ := sub_qv h.ok r1 se
    rw [r3] at s2
    have s4 : qv (sub n d r.n r.d).n (sub n d r.n r.d).d = qv (n * pw k - ud n d k * d) (d * pw k) := s2.trans (Rat.divInt_sub_divInt _ _ (by omega) (by omega))
    generalize sub n d r.n r.d = s at s1 s4
    have hdp : 1 ≤ d * pw k := by have := Int.mul_pos (show 0 < d by omega) (show 0 < pw k by omega); omega
    have l1 : qv s.n s.d ≤ qv 1 (2 * pw k) := by
      rw [s4]; refine (le_qv hdp (by omega)).2 ?_
      have := Int.mul_le_mul_of_nonneg_right u2 (show 0 ≤ pw k by omega)
      grind
    have l2 : qv (-1) (2 * pw k) ≤ qv s.n s.d := by
      rw [s4]; refine (le_qv (by omega) hdp).2 ?_
      have := Int.mul_le_mul_of_nonneg_right u1 (show 0 ≤ pw k by omega)
      grind
    have m1 := (le_qv s1.d1 okH.d1).1 l1
    have m2 := (le_qv okM.d1 s1.d1).1 l2
    have n1 : ¬ 0 < cmp s.n s.d 1 (2 * pw k) := fun h6 => by have := (cmp_gt s1 okH).1 h6; omega
    have n2 : ¬ cmp s.n s.d (-1) (2 * pw k) < 0 := fun h6 => by have := (cmp_lt s1 okM).1 h6; omega
    omega
end Go.Proofs.YtfocokjihbenmaaGreatDoor.Nu

namespace Go.Proofs.YtfocokjihbenmaaGreatDoor.Nu

/-- The last k decimal digits of x. -/
def digs : Nat → Nat → List UInt8
  | 0, _ => []
  | k + 1, x => digs k (x / 10) ++ [UInt8.ofNat (48 + x % 10)]
theorem dec_small {x : Nat} (h : x < 10) : Lib.decDigits x = [UInt8.ofNat (48 + x)] := Lib.decDigits_one h
theorem dec_big {x : Nat} (h : 10 ≤ x) : Lib.decDigits x = Lib.decDigits (x / 10) ++ [UInt8.ofNat (48 + x % 10)] := by
  conv => lhs; rw [Lib.decDigits, dif_neg (by omega)]
theorem digs_len : ∀ k x, (digs k x).length = k
  | 0, _ => rfl
  | k + 1, x => by simp [digs, digs_len k]
theorem dec_one : ∀ (k x : Nat), x < 10 ^ k → Lib.decDigits (10 ^ k + x) = 49 :: digs k x
  | 0, x, h => by
    have : x = 0 := by simpa using h
    subst this
    rw [dec_small (by decide)]; rfl
  | k + 1, x, h => by
    rw [Nat.pow_succ] at h
    have e : 10 ^ (k + 1) + x = 10 * 10 ^ k + x := by rw [Nat.pow_succ, Nat.mul_comm]
    have hp : 1 ≤ 10 ^ k := Nat.one_le_pow _ _ (by decide)
    rw [e, dec_big (by omega), show (10 * 10 ^ k + x) / 10 = 10 ^ k + x / 10 by omega, show (10 * 10 ^ k + x) % 10 = x % 10 by omega, dec_one k (x / 10) (by omega)]
    rfl
theorem digs_zero : ∀ k, digs k 0 = List.replicate k 48
  | 0 => rfl
  | k + 1 => by rw [digs, Nat.zero_div, digs_zero k, List.replicate_succ']; rfl
theorem dec_len_pos (x : Nat) : 1 ≤ (Lib.decDigits x).length := by rw [Lib.decDigits_length]; exact Lib.nDigits_pos x
theorem pad : ∀ (k x : Nat), 1 ≤ k → x < 10 ^ k → (Lib.decDigits x).length ≤ k ∧ digs k x = List.replicate (k - (Lib.decDigits x).length) 48 ++ Lib.decDigits x
  | 0, _, h, _ => by omega
  | 1, x, _, h => by
    have hx : x < 10 := by simpa using h
    rw [dec_small hx]
    refine ⟨by simp, ?_⟩
    simp [digs, Nat.mod_eq_of_lt hx]
  | k + 2, x, _, h => by
    by_cases hx : x < 10
    · rw [dec_small hx]
      refine ⟨by simp, ?_⟩
      rw [digs, show x / 10 = 0 by omega, digs_zero, Nat.mod_eq_of_lt hx]; rfl
    · have h2 : x < 10 * 10 ^ (k + 1) := by rw [Nat.pow_succ] at h; omega
      obtain ⟨a, b⟩ := pad (k + 1) (x / 10) (by omega) (by omega)
      rw [dec_big (by omega), List.length_append, List.length_singleton]
      refine ⟨by omega, ?_⟩
      rw [digs, b, show k + 2 - ((Lib.decDigits (x / 10)).length + 1) = k + 1 - (Lib.decDigits (x / 10)).length by omega, List.append_assoc]

/-- The text of v / 10^k with k digits behind the point. -/
def body (v k : Nat) : List UInt8 := Lib.decDigits (v / 10 ^ k) ++ (if k = 0 then [] else 46 :: digs k (v % 10 ^ k))
def nota (n : Int) (d : Int) (k : Nat) : List UInt8 := (if n < 0 then [45] else []) ++ body (n.natAbs * (10 ^ k / d.toNat)) k

/-! ### Reading -/
def isD (c : UInt8) : Bool := decide (48 ≤ c.toNat ∧ c.toNat ≤ 57)
def valFrom (a : Nat) (l : List UInt8) : Nat := l.foldl (fun a c => 10 * a + (c.toNat - 48)) a
def val (l : List UInt8) : Nat := valFrom 0 l
def adB (l : List UInt8) : Bool := decide (1 ≤ l.length ∧ l.length ≤ 9) && l.all isD
def idB (w p : List UInt8) (pt : Bool) : Bool := if pt then (w.isEmpty || adB w) && adB p else adB w
def cut : List UInt8 → List UInt8 × List UInt8 × Bool
  | [] => ([], [], false)
  | c :: r => if c = 46 then ([], r, true) else (c :: (cut r).1, (cut r).2.1, (cut r).2.2)
def pbody (neg : Bool) (l : List UInt8) : R3 :=
  if idB (cut l).1 (cut l).2.1 (cut l).2.2 then fit (if neg then -(val ((cut l).1 ++ (cut l).2.1) : Int) else (val ((cut l).1 ++ (cut l).2.1) : Int)) (pw (cut l).2.1.length) else ⟨0, 0, 1⟩
def parse (l : List UInt8) : R3 := if l.head? = some 45 then pbody true (l.drop 1) else if l.head? = some 43 then pbody false (l.drop 1) else pbody false l

theorem valFrom_append (a : Nat) (l m : List UInt8) : valFrom a (l ++ m) = valFrom (valFrom a l) m := by unfold valFrom; rw [List.foldl_append]
theorem ofNat_dig {x : Nat} (h : x < 10) : (UInt8.ofNat (48 + x)).toNat = 48 + x := by simp; omega
theorem val_digs : ∀ (k a x : Nat), x < 10 ^ k → valFrom a (digs k x) = a * 10 ^ k + x
  | 0, a, x, h => by
    have : x = 0 := by simpa using h
    subst this; simp [digs, valFrom]
  | k + 1, a, x, h => by
    rw [Nat.pow_succ] at h
    rw [digs, valFrom_append, val_digs k a (x / 10) (by omega)]
    have : valFrom (a * 10 ^ k + x / 10) [UInt8.ofNat (48 + x % 10)] = 10 * (a * 10 ^ k + x / 10) + ((UInt8.ofNat (48 + x % 10)).toNat - 48) := rfl
    rw [this, ofNat_dig (Nat.mod_lt _ (by decide)), Nat.pow_succ]
    have e : a * (10 ^ k * 10) = 10 * (a * 10 ^ k) := by rw [← Nat.mul_assoc, Nat.mul_comm]
    omega
theorem val_dec : ∀ x : Nat, val (Lib.decDigits x) = x := by
  intro x
  induction x using Nat.strongRecOn with
  | _ x ih =>
    by_cases h : x < 10
    · rw [dec_small h]
      have : val [UInt8.ofNat (48 + x)] = 10 * 0 + ((UInt8.ofNat (48 + x)).toNat - 48) := rfl
      rw [this, ofNat_dig h]; omega
    · rw [dec_big (by omega)]
      unfold val
      rw [valFrom_append]
      have e := ih (x / 10) (by omega)
      unfold val at e
      rw [e]
      have : valFrom (x / 10) [UInt8.ofNat (48 + x % 10)] = 10 * (x / 10) + ((UInt8.ofNat (48 + x % 10)).toNat - 48) := rfl
      rw [this, ofNat_dig (Nat.mod_lt _ (by decide))]
      omega
theorem isD_dig (x : Nat) : isD (UInt8.ofNat (48 + x % 10)) = true := by
  unfold isD; rw [ofNat_dig (Nat.mod_lt _ (by decide)), decide_eq_true_iff]; have := Nat.mod_lt x (show 0 < 10 by decide); omega
theorem all_digs : ∀ k x, (digs k x).all isD = true
  | 0, _ => rfl
  | k + 1, x => by rw [digs, List.all_append, all_digs k, List.all_cons, isD_dig]; rfl
theorem all_dec : ∀ x : Nat, (Lib.decDigits x).all isD = true := by
  intro x
  induction x using Nat.strongRecOn with
  | _ x ih =>
    by_cases h : x < 10
    · rw [dec_small h]
      have := isD_dig x
      rw [Nat.mod_eq_of_lt h] at this
      rw [List.all_cons, this]; rfl
    · rw [dec_big (by omega), List.all_append, ih (x / 10) (by omega), List.all_cons, isD_dig]; rfl
theorem isD_46 : isD 46 = false := by decide
theorem cut_point : ∀ (a b : List UInt8), a.all isD = true → cut (a ++ 46 :: b) = (a, b, true)
  | [], b, _ => by simp [cut]
  | c :: a, b, h => by
    rw [List.all_cons, Bool.and_eq_true] at h
    have hc : c ≠ 46 := fun e => by rw [e, isD_46] at h; exact absurd h.1 (by decide)
    rw [List.cons_append, cut, if_neg hc, cut_point a b h.2]
theorem cut_none : ∀ (a : List UInt8), a.all isD = true → cut a = (a, [], false)
  | [], _ => rfl
  | c :: a, h => by
    rw [List.all_cons, Bool.and_eq_true] at h
    have hc : c ≠ 46 := fun e => by rw [e, isD_46] at h; exact absurd h.1 (by decide)
    rw [cut, if_neg hc, cut_none a h.2]
theorem dec_len9 {x : Nat} (h : x < 1000000000) : (Lib.decDigits x).length ≤ 9 := (pad 9 x (by omega) (by simpa using h)).1
theorem adB_dec {x : Nat} (h : x < 1000000000) : adB (Lib.decDigits x) = true := by
  unfold adB
  rw [all_dec, Bool.and_true, decide_eq_true_iff]
  exact ⟨dec_len_pos x, dec_len9 h⟩
theorem adB_digs {k x : Nat} (h1 : 1 ≤ k) (h2 : k ≤ 9) : adB (digs k x) = true := by
  unfold adB
  rw [all_digs, Bool.and_true, decide_eq_true_iff, digs_len]
  exact ⟨h1, h2⟩
theorem pbody_body {v k : Nat} (hk : k ≤ 9) (hv : v / 10 ^ k < 1000000000) (neg : Bool) : pbody neg (body v k) = fit (if neg then -(v : Int) else (v : Int)) (pw k) := by
  by_cases h0 : k = 0
  · subst h0
    have e : body v 0 = Lib.decDigits v := by simp [body]
    rw [e]
    unfold pbody
    rw [cut_none _ (all_dec v)]
    simp only
    rw [show idB (Lib.decDigits v) [] false = adB (Lib.decDigits v) from rfl, adB_dec (by simpa using hv)]
    simp only [List.append_nil, val_dec]
    simp
  · have e : body v k = Lib.decDigits (v / 10 ^ k) ++ 46 :: digs k (v % 10 ^ k) := by simp [body, h0]
    rw [e]
    unfold pbody
    rw [cut_point _ _ (all_dec _)]
    simp only
    have e2 : idB (Lib.decDigits (v / 10 ^ k)) (digs k (v % 10 ^ k)) true = true := by
      unfold idB
      rw [adB_dec hv, adB_digs (by omega) hk]; simp
    have e3 : val (Lib.decDigits (v / 10 ^ k) ++ digs k (v % 10 ^ k)) = v := by
      unfold val
      rw [valFrom_append]
      have := val_dec (v / 10 ^ k)
      unfold val at this
      rw [this, val_digs k _ _ (Nat.mod_lt _ (Nat.pow_pos (by decide))), Nat.mul_comm]
      exact Nat.div_add_mod v (10 ^ k)
    rw [e2, e3, digs_len]
    simp
theorem body_head (v k : Nat) : (body v k).head? ≠ some 45 ∧ (body v k).head? ≠ some 43 := by
  have h : ∀ c, (Lib.decDigits (v / 10 ^ k)).head? = some c → isD c = true := fun c hc => by
    have := all_dec (v / 10 ^ k)
    rw [List.all_eq_true] at this
    exact this c (List.mem_of_mem_head? hc)
  have hl := dec_len_pos (v / 10 ^ k)
  unfold body
  cases hq : Lib.decDigits (v / 10 ^ k) with
  | nil => rw [hq] at hl; simp at hl
  | cons c r =>
    have := h c (by rw [hq]; rfl)
    rw [List.cons_append, List.head?_cons]
    refine ⟨fun e => ?_, fun e => ?_⟩ <;>
    · obtain rfl := Option.some.inj e
      exact absurd this (by decide)
theorem parse_nota (n d : Int) {k : Nat} (hk : k ≤ 9) (hv : n.natAbs * (10 ^ k / d.toNat) / 10 ^ k < 1000000000) :
    parse (nota n d k) = fit (if n < 0 then -((n.natAbs * (10 ^ k / d.toNat) : Nat) : Int) else ((n.natAbs * (10 ^ k / d.toNat) : Nat) : Int)) (pw k) := by
  have hb := body_head (n.natAbs * (10 ^ k / d.toNat)) k
  unfold nota parse
  by_cases h : n < 0
  · rw [if_pos h, if_pos h]
    simp only [List.singleton_append, List.head?_cons, List.drop_succ_cons, List.drop_zero, if_true]
    exact pbody_body hk hv true
  · rw [if_neg h, if_neg h, List.nil_append, if_neg hb.1, if_neg hb.2]
    exact pbody_body hk hv false
theorem pw_nat (k : Nat) : pw k = ((10 ^ k : Nat) : Int) := by unfold pw; rw [Int.natCast_pow]; rfl
/-- A notation of enough digits is read as what it was written from. -/
theorem parse_back {n d : Int} (h : Ok n d) {k : Nat} (hk : k ≤ 9) (hd : pw k % d = 0) (hv : n.natAbs / d.toNat < 1000000000) : parse (nota n d k) = ⟨n, d, 0⟩ := by
  have hd1 := h.d1
  obtain ⟨c, hc⟩ := Int.dvd_of_emod_eq_zero hd
  have hpp : 0 < (10 : Nat) ^ k := Nat.pow_pos (by decide)
  have hcp : 0 < c := by
    rcases (show 0 < c ∨ c ≤ 0 by omega) with h1 | h1
    · exact h1
    · have := Int.mul_nonpos_of_nonneg_of_nonpos (show 0 ≤ d by omega) h1
      rw [← hc, pw_nat] at this; omega
  obtain ⟨D, rfl⟩ : ∃ D : Nat, d = D := ⟨d.toNat, by omega⟩
  obtain ⟨C, rfl⟩ : ∃ C : Nat, c = C := ⟨c.toNat, by omega⟩
  have hn : 10 ^ k = D * C := by rw [pw_nat] at hc; exact_mod_cast hc
  have hq : 10 ^ k / (D : Int).toNat = C := by rw [hn]; simp; exact Nat.mul_div_cancel_left _ (by omega)
  have hv2 : n.natAbs * (10 ^ k / (D : Int).toNat) / 10 ^ k < 1000000000 := by
    rw [hq, hn, Nat.mul_div_mul_right _ _ (by omega)]; simpa using hv
  rw [parse_nota n D hk hv2, hq]
  refine fit_of (by rw [pw_nat]; omega) h ?_
  rw [hc]
  split
  · have : (n.natAbs : Int) = -n := by omega
    rw [Int.natCast_mul, this]; grind
  · have : (n.natAbs : Int) = n := by omega
    rw [Int.natCast_mul, this]; grind

/-- How a number is written. -/
def fmt (n d : Int) : List UInt8 :=
  if okB n d then (match (List.range 10).find? (fun k => pw k % d == 0) with | some k => nota n d k | none => Lib.itoa n ++ 47 :: Lib.itoa d) else []
theorem find_first {d : Int} {k : Nat} (hk : k ≤ 9) (h : pw k % d = 0) (hj : ∀ j, j < k → pw j % d ≠ 0) : (List.range 10).find? (fun k => pw k % d == 0) = some k := by
  rw [List.find?_range_eq_some]
  refine ⟨by simp [h], by simp; omega, fun j hj' => by simp [hj j hj']⟩
theorem find_none {d : Int} (hj : ∀ j, j < 10 → pw j % d ≠ 0) : (List.range 10).find? (fun k => pw k % d == 0) = none := by
  rw [List.find?_eq_none]
  intro j hj'
  simp at hj' ⊢
  exact hj j hj'
theorem fmt_at {n d : Int} (h : Ok n d) {k : Nat} (hk : k ≤ 9) (h0 : pw k % d = 0) (hj : ∀ j, j < k → pw j % d ≠ 0) : fmt n d = nota n d k := by
  unfold fmt; rw [okB_iff.2 h, find_first hk h0 hj]; rfl
theorem fmt_frac {n d : Int} (h : Ok n d) (hj : ∀ j, j < 10 → pw j % d ≠ 0) : fmt n d = Lib.itoa n ++ 47 :: Lib.itoa d := by
  unfold fmt; rw [okB_iff.2 h, find_none hj]; rfl
theorem fmt_back {n d : Int} (h : Ok n d) {p : Nat} (hp : p ≤ 9) (h0 : pw p % d = 0) (hv : n.natAbs / d.toNat < 1000000000) : parse (fmt n d) = ⟨n, d, 0⟩ := by
  unfold fmt
  rw [okB_iff.2 h, if_pos rfl]
  cases hf : (List.range 10).find? (fun k => pw k % d == 0) with
  | none =>
    rw [List.find?_eq_none] at hf
    have := hf p (by simp; omega)
    simp [h0] at this
  | some k =>
    have h1 := List.find?_some hf
    have h2 := List.mem_of_find?_eq_some hf
    simp at h1 h2
    exact parse_back h (by omega) h1 hv
/-- A number that has so many digits is rounded to itself. -/
theorem rnd_same {n d : Int} (h : Ok n d) {p : Nat} (hp : p ≤ 9) (h0 : pw p % d = 0) : rnd n d p = ⟨n, d, 0⟩ := by
  have hd1 := h.d1
  obtain ⟨c, hc⟩ := Int.dvd_of_emod_eq_zero h0
  have hpp : 0 < pw p := by rw [pw_nat]; have : 0 < (10 : Nat) ^ p := Nat.pow_pos (by decide); omega
  have e : un n d p = n.natAbs * c := by
    unfold un
    rw [hc, show 2 * (n.natAbs : Int) * (d * c) + d = d + (2 * d) * (n.natAbs * c) by grind, Int.add_mul_ediv_left _ _ (by omega), Int.ediv_eq_zero_of_lt (by omega) (by omega)]
    omega
  have hr : rnd n d p = fit (ud n d p) (pw p) := by
    unfold rnd; rw [okB_iff.2 h]; simp; intro h; omega
  rw [hr]
  refine fit_of (by omega) h ?_
  unfold ud
  rw [e, hc]
  split
  · have : (n.natAbs : Int) = -n := by omega
    rw [this]; grind
  · have : (n.natAbs : Int) = n := by omega
    rw [this]; grind
end Go.Proofs.YtfocokjihbenmaaGreatDoor.Nu
