/-
  Patterns and texts of instants as plain functions: what a pattern says, its unit, that the unit decides the text, how a text is read, and that an instant is read from its text.
-/
import Derived.Test.YtlkbdnjpcagopaaDoorCaPure
import Derived.Lib.ItoaNum
namespace Go.Proofs.YtlkbdnjpcagopaaDoor.Ca

/-- The bytes of a pattern without those that only escape, each with whether it is escaped. -/
def syms : List UInt8 → List (UInt8 × Bool)
  | [] => []
  | [c] => [(c, false)]
  | c :: x :: r => if c = 92 then (x, true) :: syms r else (c, false) :: syms (x :: r)
def mname (m : Int) : List UInt8 :=
  if m = 1 then [74, 97, 110, 117, 97, 114, 121] else if m = 2 then [70, 101, 98, 114, 117, 97, 114, 121] else if m = 3 then [77, 97, 114, 99, 104]
  else if m = 4 then [65, 112, 114, 105, 108] else if m = 5 then [77, 97, 121] else if m = 6 then [74, 117, 110, 101] else if m = 7 then [74, 117, 108, 121]
  else if m = 8 then [65, 117, 103, 117, 115, 116] else if m = 9 then [83, 101, 112, 116, 101, 109, 98, 101, 114] else if m = 10 then [79, 99, 116, 111, 98, 101, 114]
  else if m = 11 then [78, 111, 118, 101, 109, 98, 101, 114] else [68, 101, 99, 101, 109, 98, 101, 114]
def wname (w : Int) : List UInt8 :=
  if w = 1 then [77, 111, 110, 100, 97, 121] else if w = 2 then [84, 117, 101, 115, 100, 97, 121] else if w = 3 then [87, 101, 100, 110, 101, 115, 100, 97, 121]
  else if w = 4 then [84, 104, 117, 114, 115, 100, 97, 121] else if w = 5 then [70, 114, 105, 100, 97, 121] else if w = 6 then [83, 97, 116, 117, 114, 100, 97, 121]
  else [83, 117, 110, 100, 97, 121]
/-- The weekday of a day. -/
def wd (D : Int) : Int := (D + 5) % 7 + 1
def two (n : Int) : List UInt8 := if n < 10 then 48 :: Lib.itoa n else Lib.itoa n
def isCode (b : UInt8) : Bool := decide (b = 89 ∨ b = 109 ∨ b = 110 ∨ b = 70 ∨ b = 77 ∨ b = 100 ∨ b = 106 ∨ b = 122 ∨ b = 78 ∨ b = 108 ∨ b = 68 ∨ b = 72 ∨ b = 71 ∨ b = 105)
/-- What a code stands for; nothing if the byte is no code. -/
def tx (y m d c : Int) (b : UInt8) : List UInt8 :=
  if b = 89 then Lib.itoa y else if b = 109 then two m else if b = 110 then Lib.itoa m else if b = 70 then mname m else if b = 77 then (mname m).take 3
  else if b = 100 then two d else if b = 106 then Lib.itoa d else if b = 122 then Lib.itoa (cum y m + d - 1) else if b = 78 then Lib.itoa (wd (dn y m d))
  else if b = 108 then wname (wd (dn y m d)) else if b = 68 then (wname (wd (dn y m d))).take 3 else if b = 72 then two (c / 60) else if b = 71 then Lib.itoa (c / 60)
  else if b = 105 then two (c % 60) else []
def out (y m d c : Int) (x : UInt8 × Bool) : List UInt8 := if x.2 || !isCode x.1 then [x.1] else tx y m d c x.1
def fmt (y m d c : Int) (l : List UInt8) : List UInt8 := (syms l).flatMap (out y m d c)
/-- The coarsest unit that decides the value of a code. -/
def cu (b : UInt8) : Int := if b = 105 then 1 else if b = 72 ∨ b = 71 then 2 else if b = 100 ∨ b = 106 ∨ b = 122 ∨ b = 78 ∨ b = 108 ∨ b = 68 then 3 else if b = 109 ∨ b = 110 ∨ b = 70 ∨ b = 77 then 4 else 5
def ustep (u : Int) (x : UInt8 × Bool) : Int := if x.2 then u else min u (cu x.1)
def unit (l : List UInt8) : Int := (syms l).foldl ustep 5

theorem cu_bd (b : UInt8) : 1 ≤ cu b ∧ cu b ≤ 5 := by unfold cu; repeat' split <;> omega
theorem ustep_bd {u : Int} (x : UInt8 × Bool) (h1 : 1 ≤ u) (h2 : u ≤ 5) : 1 ≤ ustep u x ∧ ustep u x ≤ u := by
  unfold ustep; have := cu_bd x.1; split <;> omega
theorem fold_bd : ∀ (l : List (UInt8 × Bool)) (u : Int), 1 ≤ u → u ≤ 5 → 1 ≤ l.foldl ustep u ∧ l.foldl ustep u ≤ u
  | [], u, h1, h2 => by simp; omega
  | x :: l, u, h1, h2 => by
    have a := ustep_bd x h1 h2
    have b := fold_bd l (ustep u x) a.1 (by omega)
    rw [List.foldl_cons]; omega
theorem unit_bd (l : List UInt8) : 1 ≤ unit l ∧ unit l ≤ 5 := fold_bd _ 5 (by omega) (by omega)
theorem fold_le : ∀ (l : List (UInt8 × Bool)) (u : Int), 1 ≤ u → u ≤ 5 → ∀ x ∈ l, x.2 = false → l.foldl ustep u ≤ cu x.1
  | [], u, h1, h2, x, hx, _ => by cases hx
  | z :: l, u, h1, h2, x, hx, hf => by
    have a := ustep_bd z h1 h2
    rw [List.foldl_cons]
    rcases List.mem_cons.1 hx with rfl | hx
    · have b := fold_bd l (ustep u x) a.1 (by omega)
      have : ustep u x ≤ cu x.1 := by unfold ustep; rw [hf]; simp; omega
      omega
    · exact fold_le l _ a.1 (by omega) x hx hf

/-- The parts of the beginning of a unit. -/
def sm (u m : Int) : Int := if 5 ≤ u then 1 else m
def sd (u d : Int) : Int := if 4 ≤ u then 1 else d
def sc (u c : Int) : Int := if 3 ≤ u then 0 else if 2 ≤ u then c - c % 60 else c
theorem start_ok {y m d : Int} (u : Int) (h : Ok y m d) : Ok y (sm u m) (sd u d) := by
  obtain ⟨a, b, c, e, f, g⟩ := h
  by_cases h5 : 5 ≤ u
  · have e1 : sm u m = 1 := by unfold sm; rw [if_pos h5]
    have e2 : sd u d = 1 := by unfold sd; rw [if_pos (by omega)]
    have := ml_ge y 1
    rw [e1, e2]
    exact ⟨a, b, by omega, by omega, by omega, by omega⟩
  · have e1 : sm u m = m := by unfold sm; rw [if_neg h5]
    rw [e1]
    by_cases h4 : 4 ≤ u
    · have e2 : sd u d = 1 := by unfold sd; rw [if_pos h4]
      have := ml_ge y m
      rw [e2]
      exact ⟨a, b, c, e, by omega, by omega⟩
    · have e2 : sd u d = d := by unfold sd; rw [if_neg h4]
      rw [e2]
      exact ⟨a, b, c, e, f, g⟩
theorem start_clock {c : Int} (u : Int) (h1 : 0 ≤ c) (h2 : c < 1440) : 0 ≤ sc u c ∧ sc u c < 1440 := by
  unfold sc; repeat' split <;> omega
theorem tx_start (y m d c u : Int) (b : UInt8) (h : u ≤ cu b) : tx y (sm u m) (sd u d) (sc u c) b = tx y m d c b := by
  have e3 : u ≤ 3 → sm u m = m ∧ sd u d = d := fun h => by unfold sm sd; rw [if_neg (by omega), if_neg (by omega)]; exact ⟨rfl, rfl⟩
  have e4 : u ≤ 4 → sm u m = m := fun h => by unfold sm; rw [if_neg (by omega)]
  have e2 : u ≤ 2 → sc u c / 60 = c / 60 := fun h => by unfold sc; rw [if_neg (by omega)]; split <;> omega
  have e1 : u ≤ 1 → sc u c = c := fun h => by unfold sc; rw [if_neg (by omega), if_neg (by omega)]
  unfold cu at h
  split at h
  · subst_vars; simp [tx, e1 h]
  · split at h
    · rename_i hb; rcases hb with rfl | rfl <;> simp [tx, e2 h]
    · split at h
      · rename_i hb; obtain ⟨a, b⟩ := e3 h; rcases hb with rfl | rfl | rfl | rfl | rfl | rfl <;> simp [tx, a, b]
      · split at h
        · rename_i hb; rcases hb with rfl | rfl | rfl | rfl <;> simp [tx, e4 h]
        · rename_i h1 h2 h3 h4
          unfold tx
          simp only [not_or] at h2 h3 h4
          simp [h1, h2, h3, h4]
theorem fmt_start (y m d c : Int) (l : List UInt8) : fmt y (sm (unit l) m) (sd (unit l) d) (sc (unit l) c) l = fmt y m d c l := by
  unfold fmt
  have : ∀ x ∈ syms l, out y (sm (unit l) m) (sd (unit l) d) (sc (unit l) c) x = out y m d c x := by
    intro x hx
    unfold out
    by_cases h : (x.2 || !isCode x.1) = true
    · rw [if_pos h, if_pos h]
    · rw [if_neg h, if_neg h]
      have hf : x.2 = false := by cases hx2 : x.2 <;> simp_all
      exact tx_start y m d c _ x.1 (fold_le _ 5 (by omega) (by omega) x hx hf)
  rw [List.flatMap_def, List.flatMap_def, List.map_congr_left this]

/-! ### Digits -/
theorem dec_small {x : Nat} (h : x < 10) : Lib.decDigits x = [UInt8.ofNat (48 + x)] := Lib.decDigits_one h
theorem dec_big {x : Nat} (h : 10 ≤ x) : Lib.decDigits x = Lib.decDigits (x / 10) ++ [UInt8.ofNat (48 + x % 10)] := by
  conv => lhs; rw [Lib.decDigits, dif_neg (by omega)]
theorem itoa_nat {n : Int} (h : 0 ≤ n) : Lib.itoa n = Lib.decDigits n.toNat := by unfold Lib.itoa; rw [if_neg (by omega)]
theorem itoa_small {n : Int} (h1 : 0 ≤ n) (h2 : n < 10) : Lib.itoa n = [UInt8.ofNat (48 + n.toNat)] := by rw [itoa_nat h1, dec_small (by omega)]
theorem itoa_big {n : Int} (h : 10 ≤ n) : Lib.itoa n = Lib.itoa (n / 10) ++ [UInt8.ofNat (48 + (n % 10).toNat)] := by
  rw [itoa_nat (by omega), dec_big (by omega), itoa_nat (by omega), show (n / 10).toNat = n.toNat / 10 by omega, show (n % 10).toNat = n.toNat % 10 by omega]
theorem itoa_two {n : Int} (h1 : 10 ≤ n) (h2 : n < 100) : Lib.itoa n = [UInt8.ofNat (48 + (n / 10).toNat), UInt8.ofNat (48 + (n % 10).toNat)] := by
  rw [itoa_big h1, itoa_small (by omega) (by omega)]; rfl
theorem itoa_three {n : Int} (h1 : 100 ≤ n) (h2 : n < 1000) : Lib.itoa n = [UInt8.ofNat (48 + (n / 100).toNat), UInt8.ofNat (48 + (n / 10 % 10).toNat), UInt8.ofNat (48 + (n % 10).toNat)] := by
  rw [itoa_big (by omega), itoa_two (by omega) (by omega), show n / 10 / 10 = n / 100 by omega]; rfl
theorem itoa_four {n : Int} (h1 : 1000 ≤ n) (h2 : n < 10000) : Lib.itoa n = [UInt8.ofNat (48 + (n / 1000).toNat), UInt8.ofNat (48 + (n / 100 % 10).toNat), UInt8.ofNat (48 + (n / 10 % 10).toNat), UInt8.ofNat (48 + (n % 10).toNat)] := by
  rw [itoa_big (by omega), itoa_three (by omega) (by omega), show n / 10 / 100 = n / 1000 by omega, show n / 10 / 10 = n / 100 by omega]; rfl
theorem two_is {n : Int} (h1 : 0 ≤ n) (h2 : n < 100) : two n = [UInt8.ofNat (48 + (n / 10).toNat), UInt8.ofNat (48 + (n % 10).toNat)] := by
  unfold two
  split
  · rw [itoa_small h1 (by omega), show n / 10 = 0 by omega, show n % 10 = n by omega]; rfl
  · rw [itoa_two (by omega) h2]
theorem two_hund {n : Int} (h1 : 0 ≤ n) (h2 : n < 100) : (Lib.itoa (100 + n)).drop 1 = two n := by
  rw [itoa_three (by omega) (by omega), two_is h1 h2, show (100 + n) / 10 % 10 = n / 10 by omega, show (100 + n) % 10 = n % 10 by omega]; rfl

/-- The number that some digits denote. -/
def dvf (a : Int) (l : List UInt8) : Int := l.foldl (fun a c => 10 * a + ((c.toNat : Int) - 48)) a
def dv (l : List UInt8) : Int := dvf 0 l
def isD (c : UInt8) : Bool := decide (48 ≤ c.toNat ∧ c.toNat ≤ 57)
theorem dig_toNat {x : Nat} (h : x < 10) : (UInt8.ofNat (48 + x)).toNat = 48 + x := by simp; omega
theorem dig_isD {x : Nat} (h : x < 10) : isD (UInt8.ofNat (48 + x)) = true := by unfold isD; rw [dig_toNat h]; simp; omega
theorem dv_two {a b : Nat} (ha : a < 10) (hb : b < 10) : dv [UInt8.ofNat (48 + a), UInt8.ofNat (48 + b)] = 10 * a + b := by
  simp only [dv, dvf, List.foldl_cons, List.foldl_nil, dig_toNat ha, dig_toNat hb]; omega
theorem dv_four {a b c d : Nat} (ha : a < 10) (hb : b < 10) (hc : c < 10) (hd : d < 10) : dv [UInt8.ofNat (48 + a), UInt8.ofNat (48 + b), UInt8.ofNat (48 + c), UInt8.ofNat (48 + d)] = 1000 * a + 100 * b + 10 * c + d := by
  simp only [dv, dvf, List.foldl_cons, List.foldl_nil, dig_toNat ha, dig_toNat hb, dig_toNat hc, dig_toNat hd]; omega

/-! ### Reading -/
def layB : List UInt8 := [48, 48, 48, 48, 45, 48, 48, 45, 48, 48, 32, 48, 48, 58, 48, 48]
def fits (a b : UInt8) : Bool := if a = 48 then isD b else decide (b = a)
def allFit : List UInt8 → List UInt8 → Bool
  | a :: l, b :: r => fits a b && allFit l r
  | _, _ => true
def form (l : List UInt8) : Bool := (l.length == 10 || l.length == 16) && allFit layB l
def okB (y m d : Int) : Bool := decide (2000 ≤ y ∧ y ≤ 2099 ∧ 1 ≤ m ∧ m ≤ 12 ∧ 1 ≤ d ∧ d ≤ ml y m)
theorem okB_iff {y m d : Int} : okB y m d = true ↔ Ok y m d := by
  unfold okB; rw [decide_eq_true_iff]
  exact ⟨fun ⟨a, b, c, d, e, f⟩ => ⟨a, b, c, d, e, f⟩, fun ⟨a, b, c, d, e, f⟩ => ⟨a, b, c, d, e, f⟩⟩
/-- A result: a number and an error. -/
structure R2 where
  n : Int
  e : Int
def minu (y m d c : Int) : R2 := if okB y m d = true ∧ 0 ≤ c ∧ c < 1440 then ⟨inst y m d c, 0⟩ else ⟨0, 2⟩
def hh (l : List UInt8) : Int := dv ((l.drop 11).take 2)
def mm (l : List UInt8) : Int := dv ((l.drop 14).take 2)
def parse (l : List UInt8) : R2 :=
  if form l = true then (if 23 < hh l ∨ 59 < mm l then ⟨0, 2⟩ else minu (dv (l.take 4)) (dv ((l.drop 5).take 2)) (dv ((l.drop 8).take 2)) (hh l * 60 + mm l)) else ⟨0, 1⟩
theorem minu_ok {y m d c : Int} (h : Ok y m d) (h1 : 0 ≤ c) (h2 : c < 1440) : minu y m d c = ⟨inst y m d c, 0⟩ := by unfold minu; rw [if_pos ⟨okB_iff.2 h, h1, h2⟩]

def ymd (y m d : Int) : List UInt8 := Lib.itoa y ++ 45 :: two m ++ 45 :: two d
def hi (c : Int) : List UInt8 := two (c / 60) ++ 58 :: two (c % 60)
theorem fmt_ymdhi (y m d c : Int) : fmt y m d c [89, 45, 109, 45, 100, 32, 72, 58, 105] = ymd y m d ++ 32 :: hi c := by
  simp [fmt, syms, out, isCode, tx, ymd, hi]
theorem fmt_esc (y m d c : Int) : fmt y m d c [92, 89, 92, 109, 32, 89, 45, 109, 45, 100] = 89 :: 109 :: 32 :: ymd y m d := by
  simp [fmt, syms, out, isCode, tx, ymd]
theorem ymd_is {y m d : Int} (h : Ok y m d) : ymd y m d = [UInt8.ofNat (48 + (y / 1000).toNat), UInt8.ofNat (48 + (y / 100 % 10).toNat), UInt8.ofNat (48 + (y / 10 % 10).toNat), UInt8.ofNat (48 + (y % 10).toNat), 45, UInt8.ofNat (48 + (m / 10).toNat), UInt8.ofNat (48 + (m % 10).toNat), 45, UInt8.ofNat (48 + (d / 10).toNat), UInt8.ofNat (48 + (d % 10).toNat)] := by
  have := ml_ge y m
  obtain ⟨a, b, c, e, f, g⟩ := h
  unfold ymd
  rw [itoa_four (by omega) (by omega), two_is (by omega) (by omega), two_is (by omega) (by omega)]; rfl
theorem hi_is {c : Int} (h1 : 0 ≤ c) (h2 : c < 1440) : hi c = [UInt8.ofNat (48 + (c / 60 / 10).toNat), UInt8.ofNat (48 + (c / 60 % 10).toNat), 58, UInt8.ofNat (48 + (c % 60 / 10).toNat), UInt8.ofNat (48 + (c % 60 % 10).toNat)] := by
  unfold hi
  rw [two_is (by omega) (by omega), two_is (by omega) (by omega)]; rfl
theorem read_date {y m d : Int} (h : Ok y m d) : parse (ymd y m d) = ⟨inst y m d 0, 0⟩ := by
  have hk := h
  have hm := ml_ge y m
  obtain ⟨a, b, c, e, f, g⟩ := h
  rw [ymd_is hk]
  have hf : form [UInt8.ofNat (48 + (y / 1000).toNat), UInt8.ofNat (48 + (y / 100 % 10).toNat), UInt8.ofNat (48 + (y / 10 % 10).toNat), UInt8.ofNat (48 + (y % 10).toNat), 45, UInt8.ofNat (48 + (m / 10).toNat), UInt8.ofNat (48 + (m % 10).toNat), 45, UInt8.ofNat (48 + (d / 10).toNat), UInt8.ofNat (48 + (d % 10).toNat)] = true := by
    unfold form
    simp only [layB, allFit, fits, if_true, dig_isD (x := (y / 1000).toNat) (by omega), dig_isD (x := (y / 100 % 10).toNat) (by omega), dig_isD (x := (y / 10 % 10).toNat) (by omega), dig_isD (x := (y % 10).toNat) (by omega), dig_isD (x := (m / 10).toNat) (by omega), dig_isD (x := (m % 10).toNat) (by omega), dig_isD (x := (d / 10).toNat) (by omega), dig_isD (x := (d % 10).toNat) (by omega)]
    rfl
  unfold parse
  rw [if_pos hf]
  have e0 : hh [UInt8.ofNat (48 + (y / 1000).toNat), UInt8.ofNat (48 + (y / 100 % 10).toNat), UInt8.ofNat (48 + (y / 10 % 10).toNat), UInt8.ofNat (48 + (y % 10).toNat), 45, UInt8.ofNat (48 + (m / 10).toNat), UInt8.ofNat (48 + (m % 10).toNat), 45, UInt8.ofNat (48 + (d / 10).toNat), UInt8.ofNat (48 + (d % 10).toNat)] = 0 := rfl
  have e1 : mm [UInt8.ofNat (48 + (y / 1000).toNat), UInt8.ofNat (48 + (y / 100 % 10).toNat), UInt8.ofNat (48 + (y / 10 % 10).toNat), UInt8.ofNat (48 + (y % 10).toNat), 45, UInt8.ofNat (48 + (m / 10).toNat), UInt8.ofNat (48 + (m % 10).toNat), 45, UInt8.ofNat (48 + (d / 10).toNat), UInt8.ofNat (48 + (d % 10).toNat)] = 0 := rfl
  rw [e0, e1, if_neg (by omega)]
  simp only [List.take_succ_cons, List.take_zero, List.drop_succ_cons, List.drop_zero]
  rw [dv_four (by omega) (by omega) (by omega) (by omega), dv_two (by omega) (by omega), dv_two (by omega) (by omega), ← minu_ok hk (by omega) (by omega)]
  congr 1 <;> omega
theorem read_full {y m d k : Int} (h : Ok y m d) (k1 : 0 ≤ k) (k2 : k < 1440) : parse (ymd y m d ++ 32 :: hi k) = ⟨inst y m d k, 0⟩ := by
  have hk := h
  have hm := ml_ge y m
  obtain ⟨a, b, c, e, f, g⟩ := h
  rw [ymd_is hk, hi_is k1 k2]
  simp only [List.cons_append, List.nil_append]
  unfold parse
  rw [if_pos]
  · unfold hh mm
    simp only [List.take_succ_cons, List.take_zero, List.drop_succ_cons, List.drop_zero]
    rw [dv_two (a := (k / 60 / 10).toNat) (by omega) (by omega), dv_two (a := (k % 60 / 10).toNat) (by omega) (by omega), if_neg (by omega)]
    rw [dv_four (by omega) (by omega) (by omega) (by omega), dv_two (by omega) (by omega), dv_two (by omega) (by omega), ← minu_ok hk k1 k2]
    congr 1 <;> omega
  · unfold form
    simp only [layB, allFit, fits, if_true, dig_isD (x := (y / 1000).toNat) (by omega), dig_isD (x := (y / 100 % 10).toNat) (by omega), dig_isD (x := (y / 10 % 10).toNat) (by omega), dig_isD (x := (y % 10).toNat) (by omega), dig_isD (x := (m / 10).toNat) (by omega), dig_isD (x := (m % 10).toNat) (by omega), dig_isD (x := (d / 10).toNat) (by omega), dig_isD (x := (d % 10).toNat) (by omega),
      dig_isD (x := (k / 60 / 10).toNat) (by omega), dig_isD (x := (k / 60 % 10).toNat) (by omega), dig_isD (x := (k % 60 / 10).toNat) (by omega), dig_isD (x := (k % 60 % 10).toNat) (by omega)]
    rfl
end Go.Proofs.YtlkbdnjpcagopaaDoor.Ca
