/-
  The contracts of Div and Mod of the reference of chapter 6.
-/
import Derived.Test.YtfocokjihbenmaaDoorNuMod

namespace Go.Proofs.YtfocokjihbenmaaDoor.Nu
open Go.RowKit

theorem cell_new (W : World) (c : Array Value) (t : TypeId) (i : Nat) (v : Value) (hv : c[i]? = some v) : (W.alloc (.cells c t)).cell? ⟨W.heap.size, i, none⟩ = some v := by simp [hv]
theorem set3a (w W : World) (i : Nat) (u v : Value) : ((W.setCell ⟨w.heap.size + 1 + 1, 0, none⟩ u).setCell ⟨w.heap.size + 1 + 1, 1, none⟩ v).cell? ⟨w.heap.size, i, none⟩ = W.cell? ⟨w.heap.size, i, none⟩ :=
  (((Below.refl (w.heap.size + 1 + 1) W).setCell (p := ⟨w.heap.size + 1 + 1, 0, none⟩) (Nat.le_refl _) u).setCell (p := ⟨w.heap.size + 1 + 1, 1, none⟩) (Nat.le_refl _) v).cell (p := ⟨w.heap.size, i, none⟩) (show w.heap.size < w.heap.size + 1 + 1 by omega)
theorem set3b (w W : World) (i : Nat) (u v : Value) : ((W.setCell ⟨w.heap.size + 1 + 1, 0, none⟩ u).setCell ⟨w.heap.size + 1 + 1, 1, none⟩ v).cell? ⟨w.heap.size + 1, i, none⟩ = W.cell? ⟨w.heap.size + 1, i, none⟩ :=
  (((Below.refl (w.heap.size + 1 + 1) W).setCell (p := ⟨w.heap.size + 1 + 1, 0, none⟩) (Nat.le_refl _) u).setCell (p := ⟨w.heap.size + 1 + 1, 1, none⟩) (Nat.le_refl _) v).cell (p := ⟨w.heap.size + 1, i, none⟩) (show w.heap.size + 1 < w.heap.size + 1 + 1 by omega)
theorem held3 {w w1 w2 : World} {A B : Array Value} {s t : TypeId} {R : Obj} (hb : Below (((w.alloc (.cells A s)).alloc (.cells B t)).alloc R).heap.size (((w.alloc (.cells A s)).alloc (.cells B t)).alloc R) w1) (hb2 : Below w1.heap.size w1 w2) :
    (∀ (i : Nat) (v : Value), A[i]? = some v → w2.cell? ⟨w.heap.size, i, none⟩ = some v) ∧ (∀ (i : Nat) (v : Value), B[i]? = some v → w2.cell? ⟨w.heap.size + 1, i, none⟩ = some v) := by
  obtain ⟨z0, z1, z2⟩ := size3 hb
  have sA : ((w.alloc (.cells A s)).heap.size) = w.heap.size + 1 := by simp
  have sB : (((w.alloc (.cells A s)).alloc (.cells B t)).heap.size) = w.heap.size + 1 + 1 := by simp
  have sR : ((((w.alloc (.cells A s)).alloc (.cells B t)).alloc R).heap.size) = w.heap.size + 1 + 1 + 1 := by simp
  refine ⟨fun i v h => ?_, fun i v h => ?_⟩
  · have h0 := cell_new w A s i v h
    have h1 := (((Below.refl (w.alloc (.cells A s)).heap.size (w.alloc (.cells A s))).alloc (Nat.le_refl _) (.cells B t)).cell (p := ⟨w.heap.size, i, none⟩) (show w.heap.size < _ by omega)).trans h0
    have h2 := (((Below.refl ((w.alloc (.cells A s)).alloc (.cells B t)).heap.size ((w.alloc (.cells A s)).alloc (.cells B t))).alloc (Nat.le_refl _) R).cell (p := ⟨w.heap.size, i, none⟩) (show w.heap.size < _ by omega)).trans h1
    exact (hb2.cell (p := ⟨w.heap.size, i, none⟩) z0).trans ((hb.cell (p := ⟨w.heap.size, i, none⟩) (show w.heap.size < _ by omega)).trans h2)
  · have h1 := cell_new (w.alloc (.cells A s)) B t i v h
    rw [sA] at h1
    have h2 := (((Below.refl ((w.alloc (.cells A s)).alloc (.cells B t)).heap.size ((w.alloc (.cells A s)).alloc (.cells B t))).alloc (Nat.le_refl _) R).cell (p := ⟨w.heap.size + 1, i, none⟩) (show w.heap.size + 1 < _ by omega)).trans h1
    exact (hb2.cell (p := ⟨w.heap.size + 1, i, none⟩) z1).trans ((hb.cell (p := ⟨w.heap.size + 1, i, none⟩) (show w.heap.size + 1 < _ by omega)).trans h2)

end Go.Proofs.YtfocokjihbenmaaDoor.Nu
