/-
  The values of texts of two or three small numbers with operators between them.
-/
import Derived.Test.YtfocokjihbenmaaDoorFoSb
namespace Go.Proofs.YtfocokjihbenmaaDoor.Fo
set_option linter.unusedVariables false
set_option linter.unusedSimpArgs false
open Go.Proofs.YtfocokjihbenmaaDoor.Nu

abbrev Pc := List (List UInt8)
/-- The pairs of texts whose values are the same. -/
def lhs (p q r : Pc) (x y z : Pc) : Nat → Pc
  | 0 => x ++ p ++ (y ++ q ++ z)
  | 1 => (x ++ q ++ y) ++ p ++ z
  | 2 => (x ++ p ++ y) ++ r ++ z
  | 3 => (x ++ r ++ y) ++ [[32], [97, 110, 100], [32]] ++ z
  | 4 => x ++ [[32], [111, 114], [32]] ++ (y ++ [[32], [97, 110, 100], [32]] ++ z)
  | 5 => (x ++ p ++ y) ++ p ++ z
  | _ => ([[45]] ++ x) ++ q ++ y
def rhs (p q r : Pc) (x y z : Pc) : Nat → Pc
  | 0 => x ++ p ++ ([[40]] ++ (y ++ q ++ z) ++ [[41]])
  | 1 => ([[40]] ++ (x ++ q ++ y) ++ [[41]]) ++ p ++ z
  | 2 => ([[40]] ++ (x ++ p ++ y) ++ [[41]]) ++ r ++ z
  | 3 => ([[40]] ++ (x ++ r ++ y) ++ [[41]]) ++ [[32], [97, 110, 100], [32]] ++ z
  | 4 => x ++ [[32], [111, 114], [32]] ++ ([[40]] ++ (y ++ [[32], [97, 110, 100], [32]] ++ z) ++ [[41]])
  | 5 => ([[40]] ++ (x ++ p ++ y) ++ [[41]]) ++ p ++ z
  | _ => ([[40]] ++ ([[45]] ++ x) ++ [[41]]) ++ q ++ y
def pP : List Pc := [[[32], [43], [32]], [[32], [45], [32]]]
def qP : List Pc := [[[32], [42], [32]], [[32], [109, 111, 100], [32]], [[32], [47], [32]]]
def rP : List Pc := [[[32], [61], [32]], [[32], [60], [32]]]
theorem pP_opr : ∀ p ∈ pP, Opr p := by decide +kernel
theorem qP_opr : ∀ p ∈ qP, Opr p := by decide +kernel
theorem rP_opr : ∀ p ∈ rP, Opr p := by decide +kernel
theorem and_opr : Opr [[32], [97, 110, 100], [32]] := by decide +kernel
theorem or_opr : Opr [[32], [111, 114], [32]] := by decide +kernel
theorem sides_fm {p q r x y z : Pc} (hp : Opr p) (hq : Opr q) (hr : Opr r) (hx : Fm 4 17 x) (hy : Fm 4 17 y) (hz : Fm 4 17 z) : ∀ k, Fm 19 80 (lhs p q r x y z k) ∧ Fm 19 80 (rhs p q r x y z k)
  | 0 => ⟨(hx.opr hp (hy.opr hq hz)).le (by decide) (by decide), (hx.opr hp (hy.opr hq hz).par).le (by decide) (by decide)⟩
  | 1 => ⟨((hx.opr hq hy).opr hp hz).le (by decide) (by decide), ((hx.opr hq hy).par.opr hp hz).le (by decide) (by decide)⟩
  | 2 => ⟨((hx.opr hp hy).opr hr hz).le (by decide) (by decide), ((hx.opr hp hy).par.opr hr hz).le (by decide) (by decide)⟩
  | 3 => ⟨((hx.opr hr hy).opr and_opr hz).le (by decide) (by decide), ((hx.opr hr hy).par.opr and_opr hz).le (by decide) (by decide)⟩
  | 4 => ⟨(hx.opr or_opr (hy.opr and_opr hz)).le (by decide) (by decide), (hx.opr or_opr (hy.opr and_opr hz).par).le (by decide) (by decide)⟩
  | 5 => ⟨((hx.opr hp hy).opr hp hz).le (by decide) (by decide), ((hx.opr hp hy).par.opr hp hz).le (by decide) (by decide)⟩
  | k + 6 => ⟨((hx.pre (p := [[45]]) (by decide)).opr hq hy).le (by decide) (by decide), ((hx.pre (p := [[45]]) (by decide)).par.opr hq hy).le (by decide) (by decide)⟩
/-- The tokens of the texts, with 1, 2 and 3 for the numbers. -/
def sameB (l m : List Tok) : Bool := treeB l (top l).t.strip && treeB m (top l).t.strip
def b2 : List Bool := [false, true]
def allSame (k : Nat) : Bool := pP.all fun p => qP.all fun q => rP.all fun r => b2.all fun s => b2.all fun t => b2.all fun u =>
  sameB (toksOf (lhs p q r (sgP s [49]) (sgP t [50]) (sgP u [51]) k)) (toksOf (rhs p q r (sgP s [49]) (sgP t [50]) (sgP u [51]) k))
theorem same0 : allSame 0 = true := by kernel_rfl
theorem same1 : allSame 1 = true := by kernel_rfl
theorem same2 : allSame 2 = true := by kernel_rfl
theorem same3 : allSame 3 = true := by kernel_rfl
theorem same4 : allSame 4 = true := by kernel_rfl
theorem same5 : allSame 5 = true := by kernel_rfl
theorem same6 : allSame 6 = true := by kernel_rfl
/-- The tokens are those of the text with 1, 2 and 3, with the numbers put in. -/
def Kp (f : Tok → Tok) (p : Pc) : Prop := (toksOf p).map f = toksOf p
theorem kp_of {f : Tok → Tok} (hf : NumF f) {p : Pc} (h : ∀ t ∈ toksOf p, isNum t = false) : Kp f p := by
  unfold Kp
  conv => rhs; rw [← List.map_id (toksOf p)]
  exact List.map_congr_left fun t ht => hf.keep t (h t ht)
theorem pP_num : ∀ p ∈ pP, ∀ t ∈ toksOf p, isNum t = false := by decide +kernel
theorem qP_num : ∀ p ∈ qP, ∀ t ∈ toksOf p, isNum t = false := by decide +kernel
theorem rP_num : ∀ p ∈ rP, ∀ t ∈ toksOf p, isNum t = false := by decide +kernel
theorem sides_map {f : Tok → Tok} (hf : NumF f) {p q r x y z x' y' z' : Pc} (hp : Kp f p) (hq : Kp f q) (hr : Kp f r) (hx : toksOf x' = (toksOf x).map f) (hy : toksOf y' = (toksOf y).map f) (hz : toksOf z' = (toksOf z).map f) :
    ∀ k, toksOf (lhs p q r x' y' z' k) = (toksOf (lhs p q r x y z k)).map f ∧ toksOf (rhs p q r x' y' z' k) = (toksOf (rhs p q r x y z k)).map f := by
  have ha : Kp f [[32], [97, 110, 100], [32]] := kp_of hf (by decide)
  have ho : Kp f [[32], [111, 114], [32]] := kp_of hf (by decide)
  have hl : Kp f [[40]] := kp_of hf (by decide)
  have hc : Kp f [[41]] := kp_of hf (by decide)
  have hm : Kp f [[45]] := kp_of hf (by decide)
  unfold Kp at hp hq hr ha ho hl hc hm
  intro k
  match k with
  | 0 => exact ⟨by simp only [lhs, toksOf_app, List.map_append, hp, hq, hr, hx, hy, hz, ha, ho, hl, hc, hm], by simp only [rhs, toksOf_app, List.map_append, hp, hq, hr, hx, hy, hz, ha, ho, hl, hc, hm]⟩
  | 1 => exact ⟨by simp only [lhs, toksOf_app, List.map_append, hp, hq, hr, hx, hy, hz, ha, ho, hl, hc, hm], by simp only [rhs, toksOf_app, List.map_append, hp, hq, hr, hx, hy, hz, ha, ho, hl, hc, hm]⟩
  | 2 => exact ⟨by simp only [lhs, toksOf_app, List.map_append, hp, hq, hr, hx, hy, hz, ha, ho, hl, hc, hm], by simp only [rhs, toksOf_app, List.map_append, hp, hq, hr, hx, hy, hz, ha, ho, hl, hc, hm]⟩
  | 3 => exact ⟨by simp only [lhs, toksOf_app, List.map_append, hp, hq, hr, hx, hy, hz, ha, ho, hl, hc, hm], by simp only [rhs, toksOf_app, List.map_append, hp, hq, hr, hx, hy, hz, ha, ho, hl, hc, hm]⟩
  | 4 => exact ⟨by simp only [lhs, toksOf_app, List.map_append, hp, hq, hr, hx, hy, hz, ha, ho, hl, hc, hm], by simp only [rhs, toksOf_app, List.map_append, hp, hq, hr, hx, hy, hz, ha, ho, hl, hc, hm]⟩
  | 5 => exact ⟨by simp only [lhs, toksOf_app, List.map_append, hp, hq, hr, hx, hy, hz, ha, ho, hl, hc, hm], by simp only [rhs, toksOf_app, List.map_append, hp, hq, hr, hx, hy, hz, ha, ho, hl, hc, hm]⟩
  | k + 6 => exact ⟨by simp only [lhs, toksOf_app, List.map_append, hp, hq, hr, hx, hy, hz, ha, ho, hl, hc, hm], by simp only [rhs, toksOf_app, List.map_append, hp, hq, hr, hx, hy, hz, ha, ho, hl, hc, hm]⟩
theorem allSame_of (k : Nat) (h : k < 7) : allSame k = true := by
  rcases (by omega : k = 0 ∨ k = 1 ∨ k = 2 ∨ k = 3 ∨ k = 4 ∨ k = 5 ∨ k = 6) with rfl | rfl | rfl | rfl | rfl | rfl | rfl
  · exact same0
  · exact same1
  · exact same2
  · exact same3
  · exact same4
  · exact same5
  · exact same6
theorem b2_mem (b : Bool) : b ∈ b2 := by cases b <;> decide
theorem sg_map {x y z : Tok} (hx : Dgt x) (hy : Dgt y) (hz : Dgt z) (s t u : Bool) :
    toksOf (sgP s x) = (toksOf (sgP s [49])).map (put x y z) ∧ toksOf (sgP t y) = (toksOf (sgP t [50])).map (put x y z) ∧ toksOf (sgP u z) = (toksOf (sgP u [51])).map (put x y z) := by
  rw [(Fm.sg hx s).2, (Fm.sg hy t).2, (Fm.sg hz u).2]
  refine ⟨?_, ?_, ?_⟩
  · cases s <;> rfl
  · cases t <;> rfl
  · cases u <;> rfl
theorem prec_ev {x y z : Tok} (hx : Dgt x) (hy : Dgt y) (hz : Dgt z) (s t u : Bool) {p q r : Pc} (hp : p ∈ pP) (hq : q ∈ qP) (hr : r ∈ rP) {k : Nat} (hk : k < 7) :
    ev (lhs p q r (sgP s x) (sgP t y) (sgP u z) k).flatten = ev (rhs p q r (sgP s x) (sgP t y) (sgP u z) k).flatten := by
  have hf := put_ok hx.num hy.num hz.num
  obtain ⟨f1, f2⟩ := sides_fm (pP_opr p hp) (qP_opr q hq) (rP_opr r hr) (Fm.sg hx s).1 (Fm.sg hy t).1 (Fm.sg hz u).1 k
  obtain ⟨m1, m2, m3⟩ := sg_map hx hy hz s t u
  obtain ⟨t1, t2⟩ := sides_map hf (kp_of hf (pP_num p hp)) (kp_of hf (qP_num q hq)) (kp_of hf (rP_num r hr)) m1 m2 m3 k
  have hs := allSame_of k hk
  unfold allSame at hs
  have hs := List.all_eq_true.1 hs p hp
  have hs := List.all_eq_true.1 hs q hq
  have hs := List.all_eq_true.1 hs r hr
  have hs := List.all_eq_true.1 hs s (b2_mem s)
  have hs := List.all_eq_true.1 hs t (b2_mem t)
  have hs := List.all_eq_true.1 hs u (b2_mem u)
  unfold sameB at hs
  rw [Bool.and_eq_true] at hs
  rw [(f1.txt (by decide) (by decide)).ev, (f2.txt (by decide) (by decide)).ev, t1, t2, evT_tree hf hs.1, evT_tree hf hs.2]
theorem dec_dgt {n : Nat} (h : n < 1000000000) : Dgt (Lib.decDigits n) :=
  ⟨fun e => by have := dec_len_pos n; rw [e] at this; simp at this, all_dec n, dec_len9 h⟩
theorem prec_len {x y z : Tok} (hx : Dgt x) (hy : Dgt y) (hz : Dgt z) (s t u : Bool) {p q r : Pc} (hp : p ∈ pP) (hq : q ∈ qP) (hr : r ∈ rP) (k : Nat) :
    (lhs p q r (sgP s x) (sgP t y) (sgP u z) k).flatten.length ≤ 80 ∧ (rhs p q r (sgP s x) (sgP t y) (sgP u z) k).flatten.length ≤ 80 := by
  obtain ⟨f1, f2⟩ := sides_fm (pP_opr p hp) (qP_opr q hq) (rP_opr r hr) (Fm.sg hx s).1 (Fm.sg hy t).1 (Fm.sg hz u).1 k
  exact ⟨f1.len, f2.len⟩
end Go.Proofs.YtfocokjihbenmaaDoor.Fo
