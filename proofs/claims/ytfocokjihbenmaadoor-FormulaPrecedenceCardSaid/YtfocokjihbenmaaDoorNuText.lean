/-
  Decimal notations as plain functions: how they are written and read.
-/
import Derived.Test.YtfocokjihbenmaaDoorNuLaws
import Derived.Lib.ItoaNum
namespace Go.Proofs.YtfocokjihbenmaaDoor.Nu

/-- The last k decimal digits of x. -/
def digs : Nat → Nat → List UInt8
  | 0, _ => []
  | k + 1, x => digs k (x / 10) ++ [UInt8.ofNat (48 + x % 10)]
theorem dec_small {x : Nat} (h : x < 10) : Lib.decDigits x = [UInt8.ofNat (48 + x)] := Lib.decDigits_one h
theorem dec_big {x : Nat} (h : 10 ≤ x) : Lib.decDigits x = Lib.decDigits (x / 10) ++ [UInt8.ofNat (48 + x % 10)] := by
  conv => lhs; rw [Lib.decDigits, dif_neg (by omega)]
theorem digs_len : ∀ k x, (digs k x).length = k
  | 0, _ => rfl
  | k + 1, x => by simp [digs, digs_len k]
theorem dec_one : ∀ (k x : Nat), x < 10 ^ k → Lib.decDigits (10 ^ k + x) = 49 :: digs k x
  | 0, x, h => by
    have : x = 0 := by simpa using h
    subst this
    rw [dec_small (by decide)]; rfl
  | k + 1, x, h => by
    rw [Nat.pow_succ] at h
    have e : 10 ^ (k + 1) + x = 10 * 10 ^ k + x := by rw [Nat.pow_succ, Nat.mul_comm]
    have hp : 1 ≤ 10 ^ k := Nat.one_le_pow _ _ (by decide)
    rw [e, dec_big (by omega), show (10 * 10 ^ k + x) / 10 = 10 ^ k + x / 10 by omega, show (10 * 10 ^ k + x) % 10 = x % 10 by omega, dec_one k (x / 10) (by omega)]
    rfl
theorem digs_zero : ∀ k, digs k 0 = List.replicate k 48
  | 0 => rfl
  | k + 1 => by rw [digs, Nat.zero_div, digs_zero k, List.replicate_succ']; rfl
theorem dec_len_pos (x : Nat) : 1 ≤ (Lib.decDigits x).length := by rw [Lib.decDigits_length]; exact Lib.nDigits_pos x
theorem pad : ∀ (k x : Nat), 1 ≤ k → x < 10 ^ k → (Lib.decDigits x).length ≤ k ∧ digs k x = List.replicate (k - (Lib.decDigits x).length) 48 ++ Lib.decDigits x
  | 0, _, h, _ => by omega
  | 1, x, _, h => by
    have hx : x < 10 := by simpa using h
    rw [dec_small hx]
    refine ⟨by simp, ?_⟩
    simp [digs, Nat.mod_eq_of_lt hx]
  | k + 2, x, _, h => by
    by_cases hx : x < 10
    · rw [dec_small hx]
      refine ⟨by simp, ?_⟩
      rw [digs, show x / 10 = 0 by omega, digs_zero, Nat.mod_eq_of_lt hx]; rfl
    · have h2 : x < 10 * 10 ^ (k + 1) := by rw [Nat.pow_succ] at h; omega
      obtain ⟨a, b⟩ := pad (k + 1) (x / 10) (by omega) (by omega)
      rw [dec_big (by omega), List.length_append, List.length_singleton]
      refine ⟨by omega, ?_⟩
      rw [digs, b, show k + 2 - ((Lib.decDigits (x / 10)).length + 1) = k + 1 - (Lib.decDigits (x / 10)).length by omega, List.append_assoc]

/-- The text of v / 10^k with k digits behind the point. -/
def body (v k : Nat) : List UInt8 := Lib.decDigits (v / 10 ^ k) ++ (if k = 0 then [] else 46 :: digs k (v % 10 ^ k))
def nota (n : Int) (d : Int) (k : Nat) : List UInt8 := (if n < 0 then [45] else []) ++ body (n.natAbs * (10 ^ k / d.toNat)) k

/-! ### Reading -/
def isD (c : UInt8) : Bool := decide (48 ≤ c.toNat ∧ c.toNat ≤ 57)
def valFrom (a : Nat) (l : List UInt8) : Nat := l.foldl (fun a c => 10 * a + (c.toNat - 48)) a
def val (l : List UInt8) : Nat := valFrom 0 l
def adB (l : List UInt8) : Bool := decide (1 ≤ l.length ∧ l.length ≤ 9) && l.all isD
def idB (w p : List UInt8) (pt : Bool) : Bool := if pt then (w.isEmpty || adB w) && adB p else adB w
def cut : List UInt8 → List UInt8 × List UInt8 × Bool
  | [] => ([], [], false)
  | c :: r => if c = 46 then ([], r, true) else (c :: (cut r).1, (cut r).2.1, (cut r).2.2)
def pbody (neg : Bool) (l : List UInt8) : R3 :=
  if idB (cut l).1 (cut l).2.1 (cut l).2.2 then fit (if neg then -(val ((cut l).1 ++ (cut l).2.1) : Int) else (val ((cut l).1 ++ (cut l).2.1) : Int)) (pw (cut l).2.1.length) else ⟨0, 0, 1⟩
def parse (l : List UInt8) : R3 := if l.head? = some 45 then pbody true (l.drop 1) else if l.head? = some 43 then pbody false (l.drop 1) else pbody false l

theorem valFrom_append (a : Nat) (l m : List UInt8) : valFrom a (l ++ m) = valFrom (valFrom a l) m := by unfold valFrom; rw [List.foldl_append]
theorem ofNat_dig {x : Nat} (h : x < 10) : (UInt8.ofNat (48 + x)).toNat = 48 + x := by simp; omega
theorem val_digs : ∀ (k a x : Nat), x < 10 ^ k → valFrom a (digs k x) = a * 10 ^ k + x
  | 0, a, x, h => by
    have : x = 0 := by simpa using h
    subst this; simp [digs, valFrom]
  | k + 1, a, x, h => by
    rw [Nat.pow_succ] at h
    rw [digs, valFrom_append, val_digs k a (x / 10) (by omega)]
    have : valFrom (a * 10 ^ k + x / 10) [UInt8.ofNat (48 + x % 10)] = 10 * (a * 10 ^ k + x / 10) + ((UInt8.ofNat (48 + x % 10)).toNat - 48) := rfl
    rw [this, ofNat_dig (Nat.mod_lt _ (by decide)), Nat.pow_succ]
    have e : a * (10 ^ k * 10) = 10 * (a * 10 ^ k) := by rw [← Nat.mul_assoc, Nat.mul_comm]
    omega
theorem val_dec : ∀ x : Nat, val (Lib.decDigits x) = x := by
  intro x
  induction x using Nat.strongRecOn with
  | _ x ih =>
    by_cases h : x < 10
    · rw [dec_small h]
      have : val [UInt8.ofNat (48 + x)] = 10 * 0 + ((UInt8.ofNat (48 + x)).toNat - 48) := rfl
      rw [this, ofNat_dig h]; omega
    · rw [dec_big (by omega)]
      unfold val
      rw [valFrom_append]
      have e := ih (x / 10) (by omega)
      unfold val at e
      rw [e]
      have : valFrom (x / 10) [UInt8.ofNat (48 + x % 10)] = 10 * (x / 10) + ((UInt8.ofNat (48 + x % 10)).toNat - 48) := rfl
      rw [this, ofNat_dig (Nat.mod_lt _ (by decide))]
      omega
theorem isD_dig (x : Nat) : isD (UInt8.ofNat (48 + x % 10)) = true := by
  unfold isD; rw [ofNat_dig (Nat.mod_lt _ (by decide)), decide_eq_true_iff]; have := Nat.mod_lt x (show 0 < 10 by decide); omega
theorem all_digs : ∀ k x, (digs k x).all isD = true
  | 0, _ => rfl
  | k + 1, x => by rw [digs, List.all_append, all_digs k, List.all_cons, isD_dig]; rfl
theorem all_dec : ∀ x : Nat, (Lib.decDigits x).all isD = true := by
  intro x
  induction x using Nat.strongRecOn with
  | _ x ih =>
    by_cases h : x < 10
    · rw [dec_small h]
      have := isD_dig x
      rw [Nat.mod_eq_of_lt h] at this
      rw [List.all_cons, this]; rfl
    · rw [dec_big (by omega), List.all_append, ih (x / 10) (by omega), List.all_cons, isD_dig]; rfl
theorem isD_46 : isD 46 = false := by decide
theorem cut_point : ∀ (a b : List UInt8), a.all isD = true → cut (a ++ 46 :: b) = (a, b, true)
  | [], b, _ => by simp [cut]
  | c :: a, b, h => by
    rw [List.all_cons, Bool.and_eq_true] at h
    have hc : c ≠ 46 := fun e => by rw [e, isD_46] at h; exact absurd h.1 (by decide)
    rw [List.cons_append, cut, if_neg hc, cut_point a b h.2]
theorem cut_none : ∀ (a : List UInt8), a.all isD = true → cut a = (a, [], false)
  | [], _ => rfl
  | c :: a, h => by
    rw [List.all_cons, Bool.and_eq_true] at h
    have hc : c ≠ 46 := fun e => by rw [e, isD_46] at h; exact absurd h.1 (by decide)
    rw [cut, if_neg hc, cut_none a h.2]
theorem dec_len9 {x : Nat} (h : x < 1000000000) : (Lib.decDigits x).length ≤ 9 := (pad 9 x (by omega) (by simpa using h)).1
theorem adB_dec {x : Nat} (h : x < 1000000000) : adB (Lib.decDigits x) = true := by
  unfold adB
  rw [all_dec, Bool.and_true, decide_eq_true_iff]
  exact ⟨dec_len_pos x, dec_len9 h⟩
theorem adB_digs {k x : Nat} (h1 : 1 ≤ k) (h2 : k ≤ 9) : adB (digs k x) = true := by
  unfold adB
  rw [all_digs, Bool.and_true, decide_eq_true_iff, digs_len]
  exact ⟨h1, h2⟩
theorem pbody_body {v k : Nat} (hk : k ≤ 9) (hv : v / 10 ^ k < 1000000000) (neg : Bool) : pbody neg (body v k) = fit (if neg then -(v : Int) else (v : Int)) (pw k) := by
  by_cases h0 : k = 0
  · subst h0
    have e : body v 0 = Lib.decDigits v := by simp [body]
    rw [e]
    unfold pbody
    rw [cut_none _ (all_dec v)]
    simp only
    rw [show idB (Lib.decDigits v) [] false = adB (Lib.decDigits v) from rfl, adB_dec (by simpa using hv)]
    simp only [List.append_nil, val_dec]
    simp
  · have e : body v k = Lib.decDigits (v / 10 ^ k) ++ 46 :: digs k (v % 10 ^ k) := by simp [body, h0]
    rw [e]
    unfold pbody
    rw [cut_point _ _ (all_dec _)]
    simp only
    have e2 : idB (Lib.decDigits (v / 10 ^ k)) (digs k (v % 10 ^ k)) true = true := by
      unfold idB
      rw [adB_dec hv, adB_digs (by omega) hk]; simp
    have e3 : val (Lib.decDigits (v / 10 ^ k) ++ digs k (v % 10 ^ k)) = v := by
      unfold val
      rw [valFrom_append]
      have := val_dec (v / 10 ^ k)
      unfold val at this
      rw [this, val_digs k _ _ (Nat.mod_lt _ (Nat.pow_pos (by decide))), Nat.mul_comm]
      exact Nat.div_add_mod v (10 ^ k)
    rw [e2, e3, digs_len]
    simp
theorem body_head (v k : Nat) : (body v k).head? ≠ some 45 ∧ (body v k).head? ≠ some 43 := by
  have h : ∀ c, (Lib.decDigits (v / 10 ^ k)).head? = some c → isD c = true := fun c hc => by
    have := all_dec (v / 10 ^ k)
    rw [List.all_eq_true] at this
    exact this c (List.mem_of_mem_head? hc)
  have hl := dec_len_pos (v / 10 ^ k)
  unfold body
  cases hq : Lib.decDigits (v / 10 ^ k) with
  | nil => rw [hq] at hl; simp at hl
  | cons c r =>
    have := h c (by rw [hq]; rfl)
    rw [List.cons_append, List.head?_cons]
    refine ⟨fun e => ?_, fun e => ?_⟩ <;>
    · obtain rfl := Option.some.inj e
      exact absurd this (by decide)
theorem parse_nota (n d : Int) {k : Nat} (hk : k ≤ 9) (hv : n.natAbs * (10 ^ k / d.toNat) / 10 ^ k < 1000000000) :
    parse (nota n d k) = fit (if n < 0 then -((n.natAbs * (10 ^ k / d.toNat) : Nat) : Int) else ((n.natAbs * (10 ^ k / d.toNat) : Nat) : Int)) (pw k) := by
  have hb := body_head (n.natAbs * (10 ^ k / d.toNat)) k
  unfold nota parse
  by_cases h : n < 0
  · rw [if_pos h, if_pos h]
    simp only [List.singleton_append, List.head?_cons, List.drop_succ_cons, List.drop_zero, if_true]
    exact pbody_body hk hv true
  · rw [if_neg h, if_neg h, List.nil_append, if_neg hb.1, if_neg hb.2]
    exact pbody_body hk hv false
theorem pw_nat (k : Nat) : pw k = ((10 ^ k : Nat) : Int) := by unfold pw; rw [Int.natCast_pow]; rfl
/-- A notation of enough digits is read as what it was written from. -/
theorem parse_back {n d : Int} (h : Ok n d) {k : Nat} (hk : k ≤ 9) (hd : pw k % d = 0) (hv : n.natAbs / d.toNat < 1000000000) : parse (nota n d k) = ⟨n, d, 0⟩ := by
  have hd1 := h.d1
  obtain ⟨c, hc⟩ := Int.dvd_of_emod_eq_zero hd
  have hpp : 0 < (10 : Nat) ^ k := Nat.pow_pos (by decide)
  have hcp : 0 < c := by
    rcases (show 0 < c ∨ c ≤ 0 by omega) with h1 | h1
    · exact h1
    · have := Int.mul_nonpos_of_nonneg_of_nonpos (show 0 ≤ d by omega) h1
      rw [← hc, pw_nat] at this; omega
  obtain ⟨D, rfl⟩ : ∃ D : Nat, d = D := ⟨d.toNat, by omega⟩
  obtain ⟨C, rfl⟩ : ∃ C : Nat, c = C := ⟨c.toNat, by omega⟩
  have hn : 10 ^ k = D * C := by rw [pw_nat] at hc; exact_mod_cast hc
  have hq : 10 ^ k / (D : Int).toNat = C := by rw [hn]; simp; exact Nat.mul_div_cancel_left _ (by omega)
  have hv2 : n.natAbs * (10 ^ k / (D : Int).toNat) / 10 ^ k < 1000000000 := by
    rw [hq, hn, Nat.mul_div_mul_right _ _ (by omega)]; simpa using hv
  rw [parse_nota n D hk hv2, hq]
  refine fit_of (by rw [pw_nat]; omega) h ?_
  rw [hc]
  split
  · have : (n.natAbs : Int) = -n := by omega
    rw [Int.natCast_mul, this]; grind
  · have : (n.natAbs : Int) = n := by omega
    rw [Int.natCast_mul, this]; grind

/-- How a number is written. -/
def fmt (n d : Int) : List UInt8 :=
  if okB n d then (match (List.range 10).find? (fun k => pw k % d == 0) with | some k => nota n d k | none => Lib.itoa n ++ 47 :: Lib.itoa d) else []
theorem find_first {d : Int} {k : Nat} (hk : k ≤ 9) (h : pw k % d = 0) (hj : ∀ j, j < k → pw j % d ≠ 0) : (List.range 10).find? (fun k => pw k % d == 0) = some k := by
  rw [List.find?_range_eq_some]
  refine ⟨by simp [h], by simp; omega, fun j hj' => by simp [hj j hj']⟩
theorem find_none {d : Int} (hj : ∀ j, j < 10 → pw j % d ≠ 0) : (List.range 10).find? (fun k => pw k % d == 0) = none := by
  rw [List.find?_eq_none]
  intro j hj'
  simp at hj' ⊢
  exact hj j hj'
theorem fmt_at {n d : Int} (h : Ok n d) {k : Nat} (hk : k ≤ 9) (h0 : pw k % d = 0) (hj : ∀ j, j < k → pw j % d ≠ 0) : fmt n d = nota n d k := by
  unfold fmt; rw [okB_iff.2 h, find_first hk h0 hj]; rfl
theorem fmt_frac {n d : Int} (h : Ok n d) (hj : ∀ j, j < 10 → pw j % d ≠ 0) : fmt n d = Lib.itoa n ++ 47 :: Lib.itoa d := by
  unfold fmt; rw [okB_iff.2 h, find_none hj]; rfl
theorem fmt_back {n d : Int} (h : Ok n d) {p : Nat} (hp : p ≤ 9) (h0 : pw p % d = 0) (hv : n.natAbs / d.toNat < 1000000000) : parse (fmt n d) = ⟨n, d, 0⟩ := by
  unfold fmt
  rw [okB_iff.2 h, if_pos rfl]
  cases hf : (List.range 10).find? (fun k => pw k % d == 0) with
  | none =>
    rw [List.find?_eq_none] at hf
    have := hf p (by simp; omega)
    simp [h0] at this
  | some k =>
    have h1 := List.find?_some hf
    have h2 := List.mem_of_find?_eq_some hf
    simp at h1 h2
    exact parse_back h (by omega) h1 hv
/-- A number that has so many digits is rounded to itself. -/
theorem rnd_same {n d : Int} (h : Ok n d) {p : Nat} (hp : p ≤ 9) (h0 : pw p % d = 0) : rnd n d p = ⟨n, d, 0⟩ := by
  have hd1 := h.d1
  obtain ⟨c, hc⟩ := Int.dvd_of_emod_eq_zero h0
  have hpp : 0 < pw p := by rw [pw_nat]; have : 0 < (10 : Nat) ^ p := Nat.pow_pos (by decide); omega
  have e : un n d p = n.natAbs * c := by
    unfold un
    rw [hc, show 2 * (n.natAbs : Int) * (d * c) + d = d + (2 * d) * (n.natAbs * c) by grind, Int.add_mul_ediv_left _ _ (by omega), Int.ediv_eq_zero_of_lt (by omega) (by omega)]
    omega
  have hr : rnd n d p = fit (ud n d p) (pw p) := by
    unfold rnd; rw [okB_iff.2 h]; simp; intro h; omega
  rw [hr]
  refine fit_of (by omega) h ?_
  unfold ud
  rw [e, hc]
  split
  · have : (n.natAbs : Int) = -n := by omega
    rw [this]; grind
  · have : (n.natAbs : Int) = n := by omega
    rw [this]; grind
end Go.Proofs.YtfocokjihbenmaaDoor.Nu
