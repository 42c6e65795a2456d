/-
  The values of texts of two small numbers with an operator between them.
  The text of a small number in a formula, of any integer; what stands at a block, and what calls leave of it.
-/
import Derived.Test.YtfocokjihbenmaaGreatDoorFoSb
import Derived.Test.YtfocokjihbenmaaGreatDoorFoTk
namespace Go.Proofs.YtfocokjihbenmaaGreatDoor.Fo
set_option linter.unusedVariables false
set_option linter.unusedSimpArgs false
open Go.Proofs.YtfocokjihbenmaaGreatDoor.Nu

/-- The operators of the law, with their blanks, and their tokens. -/
def opQ : List (List (List UInt8) × Tok) := [([[43]], [43]), ([[45]], [45]), ([[42]], [42]), ([[47]], [47]), ([[32], [109, 111, 100], [32]], [109, 111, 100]), ([[61]], [61]), ([[60]], [60]), ([[62, 61]], [62, 61])]
theorem opQ_opr : ∀ p ∈ opQ, Opr p.1 ∧ ∀ t ∈ toksOf p.1, isNum t = false := by decide +kernel
def b2' : List Bool := [false, true]
def opsB : Bool := opQ.all fun p => b2'.all fun s => b2'.all fun t => treeB (toksOf (sgP s [49] ++ p.1 ++ sgP t [50])) (.bin p.2 (sgT s [49]) (sgT t [50]))
theorem ops_ok : opsB = true := by kernel_rfl
theorem sgT_map {x y : Tok} (s t : Bool) : (sgT s [49]).map (put x y [51]) = sgT s x ∧ (sgT t [50]).map (put x y [51]) = sgT t y := by
  refine ⟨?_, ?_⟩
  · cases s <;> rfl
  · cases t <;> rfl
theorem dec_dgt' {n : Nat} (h : n < 1000000000) : Dgt (Lib.decDigits n) :=
  ⟨fun e => by have := dec_len_pos n; rw [e] at this; simp at this, all_dec n, dec_len9 h⟩
theorem op_tree {x y : Tok} (hx : Dgt x) (hy : Dgt y) (s t : Bool) {p : List (List UInt8) × Tok} (hp : p ∈ opQ) :
    ev (sgP s x ++ p.1 ++ sgP t y).flatten = val (.bin p.2 (sgT s x) (sgT t y)) ∧ (sgP s x ++ p.1 ++ sgP t y).flatten.length ≤ 41 := by
  have hf : NumF (put x y [51]) := put_ok hx.num hy.num (by decide)
  obtain ⟨o1, o2⟩ := opQ_opr p hp
  have f := ((Fm.sg hx s).1.opr o1 (Fm.sg hy t).1).le (c' := 9) (n' := 41) (by decide) (by decide)
  have hk : (toksOf p.1).map (put x y [51]) = toksOf p.1 := by
    conv => rhs; rw [← List.map_id (toksOf p.1)]
    exact List.map_congr_left fun t ht => hf.keep t (o2 t ht)
  have hm : toksOf (sgP s x ++ p.1 ++ sgP t y) = (toksOf (sgP s [49] ++ p.1 ++ sgP t [50])).map (put x y [51]) := by
    rw [toksOf_app, toksOf_app, toksOf_app, toksOf_app, List.map_append, List.map_append, hk, (Fm.sg hx s).2, (Fm.sg hy t).2]
    congr 1
    · congr 1
      cases s <;> rfl
    · cases t <;> rfl
  have hs := ops_ok
  unfold opsB at hs
  have hs := List.all_eq_true.1 hs p hp
  have hs := List.all_eq_true.1 hs s (by cases s <;> decide)
  have hs := List.all_eq_true.1 hs t (by cases t <;> decide)
  refine ⟨?_, f.len⟩
  rw [(f.txt (by decide) (by decide)).ev, hm, evT_tree hf hs]
  show val (.bin p.2 ((sgT s [49]).map _) ((sgT t [50]).map _)) = _
  rw [(sgT_map s t).1, (sgT_map s t).2]
theorem ok_int {n : Int} (h : n.natAbs ≤ 1000000000) : Ok n 1 := ⟨by decide, by decide, by omega, by omega, by simp⟩
theorem parse_dec {n : Nat} (h : n < 1000000000) : parse (Lib.decDigits n) = ⟨(n : Int), 1, 0⟩ := by
  have h1 := parse_back (n := (n : Int)) (d := 1) (ok_int (by omega)) (k := 0) (by decide) (by decide) (by simpa using h)
  have h2 : nota (n : Int) 1 0 = Lib.decDigits n := by
    unfold nota body
    rw [if_neg (by omega)]
    simp
  rwa [h2] at h1
theorem val_sg {n : Nat} (h : n < 1000000000) (s : Bool) : val (sgT s (Lib.decDigits n)) = ⟨if s then -(n : Int) else (n : Int), 1, 0⟩ := by
  have h1 : val (.num (Lib.decDigits n)) = ⟨(n : Int), 1, 0⟩ := parse_dec h
  cases s
  · exact h1
  · show (if (val (.num (Lib.decDigits n))).e = 0 then ap1 [45] (val (.num (Lib.decDigits n))) else _) = _
    rw [h1]
    show sub 0 1 (n : Int) 1 = _
    rw [Nu.sub_ok (ok_int (by decide)) (ok_int (by omega))]
    exact fit_of (by decide) (ok_int (by simp; omega)) (by simp)
/-- The value of the text of two small integers with an operator between them. -/
theorem op_ev {i j : Int} (hi : i.natAbs ≤ 9999) (hj : j.natAbs ≤ 9999) {p : List (List UInt8) × Tok} (hp : p ∈ opQ) :
    ev (sgP (decide (i < 0)) (Lib.decDigits i.natAbs) ++ p.1 ++ sgP (decide (j < 0)) (Lib.decDigits j.natAbs)).flatten = ap2 p.2 ⟨i, 1, 0⟩ ⟨j, 1, 0⟩ ∧ (sgP (decide (i < 0)) (Lib.decDigits i.natAbs) ++ p.1 ++ sgP (decide (j < 0)) (Lib.decDigits j.natAbs)).flatten.length ≤ 41 := by
  obtain ⟨h1, h2⟩ := op_tree (dec_dgt' (n := i.natAbs) (by omega)) (dec_dgt' (n := j.natAbs) (by omega)) (decide (i < 0)) (decide (j < 0)) hp
  refine ⟨?_, h2⟩
  have e : ∀ k : Int, (if decide (k < 0) = true then -(k.natAbs : Int) else (k.natAbs : Int)) = k := fun k => by
    by_cases h : k < 0
    · rw [decide_eq_true h, if_pos rfl]; omega
    · rw [decide_eq_false h, if_neg (by decide)]; omega
  rw [h1]
  show (if (val (sgT _ _)).e = 0 then (if (val (sgT _ _)).e = 0 then ap2 p.2 (val (sgT _ _)) (val (sgT _ _)) else _) else _) = _
  rw [val_sg (by omega), val_sg (by omega)]
  simp only [if_true, e]
end Go.Proofs.YtfocokjihbenmaaGreatDoor.Fo

namespace Go.Proofs.YtfocokjihbenmaaGreatDoor.Fo
open Go.RowKit Go.Proofs.YtfocokjihbenmaaGreatDoor.Nu
set_option linter.unusedVariables false
set_option linter.unusedSimpArgs false

theorem tmod_bd4 (n : Int) : (n.tmod 10000).natAbs ≤ 9999 := by
  have := Int.natAbs_tmod n 10000
  rw [this]
  have h2 : n.natAbs % (Int.natAbs 10000) < Int.natAbs 10000 := Nat.mod_lt _ (by decide)
  have h3 : Int.natAbs 10000 = 10000 := rfl
  omega
theorem itoa_dec (i : Int) : Lib.itoa i = if i < 0 then 45 :: Lib.decDigits i.natAbs else Lib.decDigits i.natAbs := by
  unfold Lib.itoa
  split
  · rfl
  · rw [show i.toNat = i.natAbs by omega]
theorem dg_sg (i : Int) : dg i = (sgP (decide (i < 0)) (Lib.decDigits i.natAbs)).flatten := by
  unfold dg
  rw [itoa_dec]
  by_cases h : i < 0
  · rw [if_pos h, if_pos h, decide_eq_true h]; simp [sgP]
  · rw [if_neg h, if_neg h, decide_eq_false h]; simp [sgP]
theorem digitsM_any (n : Int) (w : World) : Calls Tryz.prog 11 #[.int .i64 n] w fun e w' => e = .returned (.string ⟨(dg (n.tmod 10000)).toArray⟩) ∧ Below w.heap.size w w' := by
  have hb := tmod_bd4 n
  obtain ⟨m, hm⟩ : ∃ m, n.tmod 10000 = m := ⟨_, rfl⟩
  rw [hm] at hb ⊢
  have HD := Lib.hid (RItoa_any m w (by omega))
  have hl := itoa_len m hb
  by_cases h0 : m < 0
  · have hd : decide (m < 0) = true := decide_eq_true h0
    have HG : Hid (dg m = [40] ++ Lib.itoa m ++ [41]) := Lib.hid (if_pos h0)
    clear h0
    go_enter Tryz.func11, Tryz.ntmps11
    go_wp2_with fail
    refine HD.out.mono ?_
    rintro e w1 ⟨rfl, hb⟩
    go_wp2
    go_ret
    refine ⟨?_, hb⟩
    rw [HG.out]
    show Ending.returned (Value.string ((⟨#[40]⟩ : ByteArray) ++ ⟨(Lib.itoa m).toArray⟩ ++ ⟨#[41]⟩)) = _
    congr 2
  · have hd : decide (m < 0) = false := decide_eq_false h0
    have HG : Hid (dg m = Lib.itoa m) := Lib.hid (if_neg h0)
    clear h0
    go_enter Tryz.func11, Tryz.ntmps11
    go_wp2_with fail
    refine HD.out.mono ?_
    rintro e w1 ⟨rfl, hb⟩
    go_wp2
    go_ret
    exact ⟨by rw [HG.out]; rfl, hb⟩
theorem bsz (l : List UInt8) : (⟨l.toArray⟩ : ByteArray).size = l.length := by simp [ByteArray.size]
/-- The world as the region may find it: grown from the first one. -/
def Up (w W : World) : Prop := Below w.heap.size w W
def At (g : Nat) (o : Obj) (W : World) : Prop := W.heap[g]? = some o
theorem At.alloc {g : Nat} {o : Obj} {W : World} (h : At g o W) (p : Obj) : At g o (W.alloc p) := by
  have := (Array.getElem?_eq_some_iff.1 h).1
  exact (Below.heap_alloc _ _ _ this).trans h
theorem At.call {g : Nat} {o : Obj} {W w' : World} (hb : Below W.heap.size W w') (h : At g o W) : At g o w' := (hb.block g (Array.getElem?_eq_some_iff.1 h).1).trans h
theorem At.set {g : Nat} {o : Obj} {W : World} (h : At g o W) {p : Addr} (hp : p.block ≠ g) (v : Value) : At g o (W.setCell p v) := (Below.heap_setCell W p v g (fun e => hp e.symm)).trans h
/-- The two cells of a number's block, and that it is there. -/
structure N2 (W : World) (g : Nat) (n d : Int) : Prop where
  c0 : W.cell? ⟨g, 0, none⟩ = some (.int .i64 n)
  c1 : W.cell? ⟨g, 1, none⟩ = some (.int .i64 d)
  f0 : W.frozen? ⟨g, 0, none⟩ = false
  f1 : W.frozen? ⟨g, 1, none⟩ = false
  lt : g < W.heap.size
theorem At.n2 {W : World} {g : Nat} {n d : Int} (h : At g (nb1 n d) W) : N2 W g n d := by
  have h1 : W.heap[g]? = some (nb n d) := h
  obtain ⟨a, b, c, e⟩ := c2 h1
  exact ⟨a, b, c, e, (Array.getElem?_eq_some_iff.1 h1).1⟩
end Go.Proofs.YtfocokjihbenmaaGreatDoor.Fo
