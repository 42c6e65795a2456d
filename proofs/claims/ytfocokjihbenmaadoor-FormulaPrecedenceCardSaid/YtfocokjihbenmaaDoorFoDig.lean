/-
  The text of a small number in a formula, of any integer; what stands at a block, and what calls leave of it.
-/
import Derived.Test.YtfocokjihbenmaaDoorFoSb
import Derived.Test.YtfocokjihbenmaaDoorFoLaw
namespace Go.Proofs.YtfocokjihbenmaaDoor.Fo
open Go.RowKit Go.Proofs.YtfocokjihbenmaaDoor.Nu
set_option linter.unusedVariables false
set_option linter.unusedSimpArgs false

theorem tmod_bd4 (n : Int) : (n.tmod 10000).natAbs ≤ 9999 := by
  have := Int.natAbs_tmod n 10000
  rw [this]
  have h2 : n.natAbs % (Int.natAbs 10000) < Int.natAbs 10000 := Nat.mod_lt _ (by decide)
  have h3 : Int.natAbs 10000 = 10000 := rfl
  omega
theorem itoa_dec (i : Int) : Lib.itoa i = if i < 0 then 45 :: Lib.decDigits i.natAbs else Lib.decDigits i.natAbs := by
  unfold Lib.itoa
  split
  · rfl
  · rw [show i.toNat = i.natAbs by omega]
theorem dg_sg (i : Int) : dg i = (sgP (decide (i < 0)) (Lib.decDigits i.natAbs)).flatten := by
  unfold dg
  rw [itoa_dec]
  by_cases h : i < 0
  · rw [if_pos h, if_pos h, decide_eq_true h]; simp [sgP]
  · rw [if_neg h, if_neg h, decide_eq_false h]; simp [sgP]
theorem digitsM_any (n : Int) (w : World) : Calls Tryd.prog 13 #[.int .i64 n] w fun e w' => e = .returned (.string ⟨(dg (n.tmod 10000)).toArray⟩) ∧ Below w.heap.size w w' := by
  have hb := tmod_bd4 n
  obtain ⟨m, hm⟩ : ∃ m, n.tmod 10000 = m := ⟨_, rfl⟩
  rw [hm] at hb ⊢
  have HD := Lib.hid (RItoa_any m w (by omega))
  have hl := itoa_len m hb
  by_cases h0 : m < 0
  · have hd : decide (m < 0) = true := decide_eq_true h0
    have HG : Hid (dg m = [40] ++ Lib.itoa m ++ [41]) := Lib.hid (if_pos h0)
    clear h0
    go_enter Tryd.func13, Tryd.ntmps13
    go_wp2_with fail
    refine HD.out.mono ?_
    rintro e w1 ⟨rfl, hb⟩
    go_wp2
    go_ret
    refine ⟨?_, hb⟩
    rw [HG.out]
    show Ending.returned (Value.string ((⟨#[40]⟩ : ByteArray) ++ ⟨(Lib.itoa m).toArray⟩ ++ ⟨#[41]⟩)) = _
    congr 2
  · have hd : decide (m < 0) = false := decide_eq_false h0
    have HG : Hid (dg m = Lib.itoa m) := Lib.hid (if_neg h0)
    clear h0
    go_enter Tryd.func13, Tryd.ntmps13
    go_wp2_with fail
    refine HD.out.mono ?_
    rintro e w1 ⟨rfl, hb⟩
    go_wp2
    go_ret
    exact ⟨by rw [HG.out]; rfl, hb⟩
theorem bsz (l : List UInt8) : (⟨l.toArray⟩ : ByteArray).size = l.length := by simp [ByteArray.size]
/-- The world as the region may find it: grown from the first one. -/
def Up (w W : World) : Prop := Below w.heap.size w W
def At (g : Nat) (o : Obj) (W : World) : Prop := W.heap[g]? = some o
theorem At.alloc {g : Nat} {o : Obj} {W : World} (h : At g o W) (p : Obj) : At g o (W.alloc p) := by
  have := (Array.getElem?_eq_some_iff.1 h).1
  exact (Below.heap_alloc _ _ _ this).trans h
theorem At.call {g : Nat} {o : Obj} {W w' : World} (hb : Below W.heap.size W w') (h : At g o W) : At g o w' := (hb.block g (Array.getElem?_eq_some_iff.1 h).1).trans h
theorem At.set {g : Nat} {o : Obj} {W : World} (h : At g o W) {p : Addr} (hp : p.block ≠ g) (v : Value) : At g o (W.setCell p v) := (Below.heap_setCell W p v g (fun e => hp e.symm)).trans h
/-- The two cells of a number's block, and that it is there. -/
structure N2 (W : World) (g : Nat) (n d : Int) : Prop where
  c0 : W.cell? ⟨g, 0, none⟩ = some (.int .i64 n)
  c1 : W.cell? ⟨g, 1, none⟩ = some (.int .i64 d)
  f0 : W.frozen? ⟨g, 0, none⟩ = false
  f1 : W.frozen? ⟨g, 1, none⟩ = false
  lt : g < W.heap.size
theorem At.n2 {W : World} {g : Nat} {n d : Int} (h : At g (nb1 n d) W) : N2 W g n d := by
  have h1 : W.heap[g]? = some (nb n d) := h
  obtain ⟨a, b, c, e⟩ := c2 h1
  exact ⟨a, b, c, e, (Array.getElem?_eq_some_iff.1 h1).1⟩
end Go.Proofs.YtfocokjihbenmaaDoor.Fo
