/-
  The operations on fractions as plain functions, and what they are as rational numbers.
-/
import Derived.Test.YtfocokjihbenmaaDoorNuPure
namespace Go.Proofs.YtfocokjihbenmaaDoor.Nu

def add (a p b q : Int) : R3 := if okB a p && okB b q then fit (a * q + b * p) (p * q) else ⟨0, 0, 7⟩
def sub (a p b q : Int) : R3 := if okB a p && okB b q then fit (a * q - b * p) (p * q) else ⟨0, 0, 7⟩
def mul (a p b q : Int) : R3 := if okB a p && okB b q then fit (a * b) (p * q) else ⟨0, 0, 7⟩
def div (a p b q : Int) : R3 := if okB a p && okB b q then (if b = 0 then ⟨0, 0, 16⟩ else fit (a * q) (p * b)) else ⟨0, 0, 7⟩
def mod (a p b q : Int) : R3 := if okB a p && okB b q then (if b = 0 then ⟨0, 0, 16⟩ else fit (Int.fmod (a * q) (b * p)) (p * q)) else ⟨0, 0, 7⟩
def cmp (a p b q : Int) : Int := if okB a p && okB b q then (if a * q < b * p then -1 else if b * p < a * q then 1 else 0) else 0
def inB (i : Int) : Bool := decide (-1000000000 ≤ i ∧ i ≤ 1000000000)
def make (n d : Int) : R3 := if inB n && inB d then (if d = 0 then ⟨0, 0, 16⟩ else fit n d) else ⟨0, 0, 2⟩
def pw (k : Nat) : Int := 10 ^ k
def un (n d : Int) (k : Nat) : Int := (2 * n.natAbs * pw k + d) / (2 * d)
def ud (n d : Int) (k : Nat) : Int := if n < 0 then - un n d k else un n d k
def rnd (n d k : Int) : R3 := if okB n d then (if 0 ≤ k ∧ k ≤ 9 then fit (ud n d k.toNat) (pw k.toNat) else ⟨0, 0, 2⟩) else ⟨0, 0, 7⟩

/-- The rational number. -/
def qv (n d : Int) : Rat := Rat.divInt n d
theorem qv_eq {a b c e : Int} (hb : b ≠ 0) (he : e ≠ 0) : qv a b = qv c e ↔ a * e = c * b := Rat.divInt_eq_divInt_iff hb he
theorem Ok.ne {n d : Int} (h : Ok n d) : d ≠ 0 := by have := h.d1; omega
theorem Ok.lone_qv {a b c e : Int} (h1 : Ok a b) (h2 : Ok c e) (h : qv a b = qv c e) : a = c ∧ b = e := h1.lone h2 ((qv_eq h1.ne h2.ne).1 h)
theorem fit_qv {n d : Int} (hd : d ≠ 0) (h : (fit n d).e = 0) : Ok (fit n d).n (fit n d).d ∧ qv (fit n d).n (fit n d).d = qv n d := by
  obtain ⟨h1, h2⟩ := fit_ok hd h
  exact ⟨h1, (qv_eq h1.ne hd).2 h2⟩
theorem fit_of_qv {n d a b : Int} (hd : d ≠ 0) (h : Ok a b) (hq : qv a b = qv n d) : fit n d = ⟨a, b, 0⟩ := fit_of hd h ((qv_eq h.ne hd).1 hq)

theorem add_ok {a p b q : Int} (h1 : Ok a p) (h2 : Ok b q) : add a p b q = fit (a * q + b * p) (p * q) := by
  unfold add; rw [okB_iff.2 h1, okB_iff.2 h2]; rfl
theorem sub_ok {a p b q : Int} (h1 : Ok a p) (h2 : Ok b q) : sub a p b q = fit (a * q - b * p) (p * q) := by
  unfold sub; rw [okB_iff.2 h1, okB_iff.2 h2]; rfl
theorem mul_ok {a p b q : Int} (h1 : Ok a p) (h2 : Ok b q) : mul a p b q = fit (a * b) (p * q) := by
  unfold mul; rw [okB_iff.2 h1, okB_iff.2 h2]; rfl
theorem div_ok {a p b q : Int} (h1 : Ok a p) (h2 : Ok b q) (hb : b ≠ 0) : div a p b q = fit (a * q) (p * b) := by
  unfold div; rw [okB_iff.2 h1, okB_iff.2 h2]; simp [hb]
theorem mod_ok {a p b q : Int} (h1 : Ok a p) (h2 : Ok b q) (hb : b ≠ 0) : mod a p b q = fit (Int.fmod (a * q) (b * p)) (p * q) := by
  unfold mod; rw [okB_iff.2 h1, okB_iff.2 h2]; simp [hb]
theorem ne_mul {p q : Int} (h1 : p ≠ 0) (h2 : q ≠ 0) : p * q ≠ 0 := Int.mul_ne_zero h1 h2
theorem add_qv {a p b q : Int} (h1 : Ok a p) (h2 : Ok b q) (h : (add a p b q).e = 0) : Ok (add a p b q).n (add a p b q).d ∧ qv (add a p b q).n (add a p b q).d = qv a p + qv b q := by
  rw [add_ok h1 h2] at h ⊢
  obtain ⟨h3, h4⟩ := fit_qv (ne_mul h1.ne h2.ne) h
  exact ⟨h3, h4.trans (Rat.divInt_add_divInt _ _ h1.ne h2.ne).symm⟩
theorem sub_qv {a p b q : Int} (h1 : Ok a p) (h2 : Ok b q) (h : (sub a p b q).e = 0) : Ok (sub a p b q).n (sub a p b q).d ∧ qv (sub a p b q).n (sub a p b q).d = qv a p - qv b q := by
  rw [sub_ok h1 h2] at h ⊢
  obtain ⟨h3, h4⟩ := fit_qv (ne_mul h1.ne h2.ne) h
  exact ⟨h3, h4.trans (Rat.divInt_sub_divInt _ _ h1.ne h2.ne).symm⟩
theorem mul_qv {a p b q : Int} (h1 : Ok a p) (h2 : Ok b q) (h : (mul a p b q).e = 0) : Ok (mul a p b q).n (mul a p b q).d ∧ qv (mul a p b q).n (mul a p b q).d = qv a p * qv b q := by
  rw [mul_ok h1 h2] at h ⊢
  obtain ⟨h3, h4⟩ := fit_qv (ne_mul h1.ne h2.ne) h
  exact ⟨h3, h4.trans (Rat.divInt_mul_divInt _ _).symm⟩
theorem qv_zero {d : Int} : qv 0 d = 0 := Rat.zero_divInt _
theorem qv_ne {b q : Int} (hq : q ≠ 0) (hb : b ≠ 0) : qv b q ≠ 0 := by
  intro h
  have : qv b q = qv 0 1 := by rw [h, qv_zero]
  have := (qv_eq hq (by omega)).1 this
  omega
theorem div_qv' {a p b q : Int} (hp : p ≠ 0) (hq : q ≠ 0) (hb : b ≠ 0) : qv (a * q) (p * b) * qv b q = qv a p := by
  unfold qv
  rw [Rat.divInt_mul_divInt]
  exact (Rat.divInt_eq_divInt_iff (ne_mul (ne_mul hp hb) hq) hp).2 (by grind)
theorem div_qv {a p b q : Int} (h1 : Ok a p) (h2 : Ok b q) (hb : b ≠ 0) (h : (div a p b q).e = 0) : Ok (div a p b q).n (div a p b q).d ∧ qv (div a p b q).n (div a p b q).d * qv b q = qv a p := by
  rw [div_ok h1 h2 hb] at h ⊢
  obtain ⟨h3, h4⟩ := fit_qv (ne_mul h1.ne hb) h
  exact ⟨h3, by rw [h4]; exact div_qv' h1.ne h2.ne hb⟩
theorem rat_cancel {x y c : Rat} (hc : c ≠ 0) (h : x * c = y * c) : x = y := by
  have := congrArg (· * c⁻¹) h
  simpa [Rat.mul_assoc, Rat.mul_inv_cancel _ hc] using this
/-- Where a number in its valid form has the value, the operation hands it back. -/
theorem add_is {a p b q c r : Int} (h1 : Ok a p) (h2 : Ok b q) (h3 : Ok c r) (h : qv c r = qv a p + qv b q) : add a p b q = ⟨c, r, 0⟩ := by
  rw [add_ok h1 h2]
  exact fit_of_qv (ne_mul h1.ne h2.ne) h3 (h.trans (Rat.divInt_add_divInt _ _ h1.ne h2.ne))
theorem sub_is {a p b q c r : Int} (h1 : Ok a p) (h2 : Ok b q) (h3 : Ok c r) (h : qv c r = qv a p - qv b q) : sub a p b q = ⟨c, r, 0⟩ := by
  rw [sub_ok h1 h2]
  exact fit_of_qv (ne_mul h1.ne h2.ne) h3 (h.trans (Rat.divInt_sub_divInt _ _ h1.ne h2.ne))
theorem mul_is {a p b q c r : Int} (h1 : Ok a p) (h2 : Ok b q) (h3 : Ok c r) (h : qv c r = qv a p * qv b q) : mul a p b q = ⟨c, r, 0⟩ := by
  rw [mul_ok h1 h2]
  exact fit_of_qv (ne_mul h1.ne h2.ne) h3 (h.trans (Rat.divInt_mul_divInt _ _))
theorem div_is {a p b q c r : Int} (h1 : Ok a p) (h2 : Ok b q) (hb : b ≠ 0) (h3 : Ok c r) (h : qv c r * qv b q = qv a p) : div a p b q = ⟨c, r, 0⟩ := by
  rw [div_ok h1 h2 hb]
  refine fit_of_qv (ne_mul h1.ne hb) h3 ?_
  have h5 : qv c r * qv b q = qv (a * q) (p * b) * qv b q := h.trans (div_qv' h1.ne h2.ne hb).symm
  exact rat_cancel (qv_ne h2.ne hb) h5
theorem ok_zero : Ok 0 1 := ⟨by omega, by omega, by omega, by omega, by decide⟩

/-! ### Small fractions -/
structure Sm (n d : Int) : Prop where
  ok : Ok n d
  n1 : -1999 ≤ n
  n2 : n ≤ 1999
  d2 : d ≤ 1024
theorem mul_bd {a b A B : Int} (h1 : -A ≤ a) (h2 : a ≤ A) (h3 : -B ≤ b) (h4 : b ≤ B) : -(A * B) ≤ a * b ∧ a * b ≤ A * B := by
  have e : (a * b).natAbs ≤ A.natAbs * B.natAbs := by rw [Int.natAbs_mul]; exact Nat.mul_le_mul (by omega) (by omega)
  have e2 : ((A.natAbs * B.natAbs : Nat) : Int) = A * B := by
    rw [Int.natCast_mul, Int.natAbs_of_nonneg (by omega), Int.natAbs_of_nonneg (by omega)]
  omega
theorem add_sm {a p b q : Int} (h1 : Sm a p) (h2 : Sm b q) : (add a p b q).e = 0 := by
  rw [add_ok h1.ok h2.ok]
  have a1 := h1.n1; have a2 := h1.n2; have a3 := h1.d2; have a4 := h1.ok.d1
  have b1 := h2.n1; have b2 := h2.n2; have b3 := h2.d2; have b4 := h2.ok.d1
  have e1 := mul_bd (A := 1999) (B := 1024) a1 a2 (show -1024 ≤ q by omega) b3
  have e2 := mul_bd (A := 1999) (B := 1024) b1 b2 (show -1024 ≤ p by omega) a3
  have e3 := mul_bd (A := 1024) (B := 1024) (show -1024 ≤ p by omega) a3 (show -1024 ≤ q by omega) b3
  exact fit_small (ne_mul h1.ok.ne h2.ok.ne) (by omega) (by omega) (by omega) (by omega)
theorem mul_sm {a p b q : Int} (h1 : Sm a p) (h2 : Sm b q) : (mul a p b q).e = 0 := by
  rw [mul_ok h1.ok h2.ok]
  have a1 := h1.n1; have a2 := h1.n2; have a3 := h1.d2; have a4 := h1.ok.d1
  have b1 := h2.n1; have b2 := h2.n2; have b3 := h2.d2; have b4 := h2.ok.d1
  have e1 := mul_bd (A := 1999) (B := 1999) a1 a2 b1 b2
  have e3 := mul_bd (A := 1024) (B := 1024) (show -1024 ≤ p by omega) a3 (show -1024 ≤ q by omega) b3
  exact fit_small (ne_mul h1.ok.ne h2.ok.ne) (by omega) (by omega) (by omega) (by omega)

/-! ### The laws -/
theorem add_comm' (a p b q : Int) : add a p b q = add b q a p := by
  unfold add; rw [Bool.and_comm, Int.add_comm (a * q), Int.mul_comm p q]
theorem mul_comm' (a p b q : Int) : mul a p b q = mul b q a p := by
  unfold mul; rw [Bool.and_comm, Int.mul_comm a b, Int.mul_comm p q]
/-- The sum of the products, less the product of the sum, is 0. -/
theorem ring_zero {xn xd yn yd zn zd : Int} (hx : Sm xn xd) (hy : Sm yn yd) (hz : Sm zn zd) {s u v w k : R3} (es : s = add xn xd yn yd) (eu : u = mul s.n s.d zn zd)
    (ev : v = mul xn xd zn zd) (ew : w = mul yn yd zn zd) (ek : k = add v.n v.d w.n w.d) (hu : u.e = 0) (hk : k.e = 0) : sub k.n k.d u.n u.d = ⟨0, 1, 0⟩ := by
  have hs0 := add_sm hx hy
  have hv0 := mul_sm hx hz
  have hw0 := mul_sm hy hz
  obtain ⟨s1, s2⟩ := add_qv hx.ok hy.ok hs0
  obtain ⟨v1, v2⟩ := mul_qv hx.ok hz.ok hv0
  obtain ⟨w1, w2⟩ := mul_qv hy.ok hz.ok hw0
  rw [← es] at s1 s2; rw [← ev] at v1 v2; rw [← ew] at w1 w2
  rw [eu] at hu; rw [ek] at hk
  obtain ⟨u1, u2⟩ := mul_qv s1 hz.ok hu
  obtain ⟨k1, k2⟩ := add_qv v1 w1 hk
  rw [← eu] at u1 u2; rw [← ek] at k1 k2
  refine sub_is k1 u1 ok_zero ?_
  rw [k2, u2, s2, v2, w2, qv_zero, Rat.add_mul]
  grind
/-- Subtraction undoes addition. -/
theorem inv_sub {xn xd yn yd : Int} (hx : Sm xn xd) (hy : Sm yn yd) : sub (add xn xd yn yd).n (add xn xd yn yd).d yn yd = ⟨xn, xd, 0⟩ := by
  obtain ⟨s1, s2⟩ := add_qv hx.ok hy.ok (add_sm hx hy)
  refine sub_is s1 hy.ok hx.ok ?_
  rw [s2]; exact Rat.add_sub_cancel.symm
theorem inv_div {xn xd yn yd : Int} (hx : Sm xn xd) (hy : Sm yn yd) (h : yn ≠ 0) : div (mul xn xd yn yd).n (mul xn xd yn yd).d yn yd = ⟨xn, xd, 0⟩ := by
  obtain ⟨s1, s2⟩ := mul_qv hx.ok hy.ok (mul_sm hx hy)
  exact div_is s1 hy.ok h hx.ok s2.symm
end Go.Proofs.YtfocokjihbenmaaDoor.Nu
