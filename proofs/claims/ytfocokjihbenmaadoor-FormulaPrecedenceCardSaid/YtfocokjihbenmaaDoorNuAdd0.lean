/-
  What the contracts of the operations share.
-/
import Derived.Test.YtfocokjihbenmaaDoorNuValid
namespace Go.Proofs.YtfocokjihbenmaaDoor.Nu
open Go.RowKit

theorem bcell {W w1 : World} (hb : Below W.heap.size W w1) : (∀ b o, b < W.heap.size → w1.cell? ⟨b, o, none⟩ = W.cell? ⟨b, o, none⟩) ∧ (∀ b o, b < W.heap.size → w1.frozen? ⟨b, o, none⟩ = W.frozen? ⟨b, o, none⟩) :=
  ⟨fun b o h => hb.cell (p := ⟨b, o, none⟩) h, fun b o h => hb.frozen (p := ⟨b, o, none⟩) h⟩
theorem Valid_yes {n d : Int} (h : okB n d = true) (w : World) : Calls Tryd.prog 83 #[.agg #[.int .i64 n, .int .i64 d]] w fun e w' => e = .returned (.bool true) ∧ Below w.heap.size w w' :=
  (Valid_any n d w).mono fun _ _ ⟨he, hb⟩ => ⟨by rw [he, h], hb⟩
theorem Valid_no {n d : Int} (h : okB n d = false) (w : World) : Calls Tryd.prog 83 #[.agg #[.int .i64 n, .int .i64 d]] w fun e w' => e = .returned (.bool false) ∧ Below w.heap.size w w' :=
  (Valid_any n d w).mono fun _ _ ⟨he, hb⟩ => ⟨by rw [he, h], hb⟩
/-- The products of the terms of two valid numbers. -/
structure Pr (a p b q : Int) : Prop where
  aq : (a * q).natAbs ≤ 1000000000000000000
  bp : (b * p).natAbs ≤ 1000000000000000000
  pq : (p * q).natAbs ≤ 1000000000000000000
  ab : (a * b).natAbs ≤ 1000000000000000000
  pb : (p * b).natAbs ≤ 1000000000000000000
  pq1 : 1 ≤ p * q
theorem nat_mul {x y : Int} (hx : x.natAbs ≤ 1000000000) (hy : y.natAbs ≤ 1000000000) : (x * y).natAbs ≤ 1000000000000000000 := by
  rw [Int.natAbs_mul]; exact Nat.mul_le_mul hx hy
theorem pr_of {a p b q : Int} (h1 : okB a p = true) (h2 : okB b q = true) : Pr a p b q := by
  rw [okB_iff] at h1 h2
  have a1 := h1.n1; have a2 := h1.n2; have a3 := h1.d1; have a4 := h1.d2
  have b1 := h2.n1; have b2 := h2.n2; have b3 := h2.d1; have b4 := h2.d2
  exact ⟨nat_mul (by omega) (by omega), nat_mul (by omega) (by omega), nat_mul (by omega) (by omega), nat_mul (by omega) (by omega), nat_mul (by omega) (by omega),
    by have := Int.mul_pos (show 0 < p by omega) (show 0 < q by omega); omega⟩

/-- Behind the boxes of two arguments and of a result. -/
theorem below3 {w w1 : World} {A B R : Obj} (hb : Below (((w.alloc A).alloc B).alloc R).heap.size (((w.alloc A).alloc B).alloc R) w1) : Below w.heap.size w w1 :=
  ((((Below.refl _ w).alloc (Nat.le_refl _) A).alloc (by simp) B).alloc (by simp; omega) R).trans (hb.mono (by simp; omega))
theorem size3 {w w1 : World} {A B R : Obj} (hb : Below (((w.alloc A).alloc B).alloc R).heap.size (((w.alloc A).alloc B).alloc R) w1) : w.heap.size < w1.heap.size ∧ w.heap.size + 1 < w1.heap.size ∧ w.heap.size + 1 + 1 < w1.heap.size := by
  have := hb.size; simp at this; omega
theorem size4 {w w1 w2 : World} (h : w.heap.size + 1 + 1 < w1.heap.size) (hb : Below w1.heap.size w1 w2) : w.heap.size < w2.heap.size ∧ w.heap.size + 1 < w2.heap.size ∧ w.heap.size + 1 + 1 < w2.heap.size := by
  have := hb.size; omega
theorem two3 {w W : World} (h : Below w.heap.size w W) (u v : Value) : Below w.heap.size w ((W.setCell ⟨w.heap.size + 1 + 1, 0, none⟩ u).setCell ⟨w.heap.size + 1 + 1, 1, none⟩ v) :=
  (h.setCell (show w.heap.size ≤ w.heap.size + 1 + 1 by omega) _).setCell (show w.heap.size ≤ w.heap.size + 1 + 1 by omega) _
end Go.Proofs.YtfocokjihbenmaaDoor.Nu
