/-
  The contracts of package tree's Equal and of what it calls.
-/
import Derived.Test.YtdojbnngdlmbgaaGreatDoorTrRSrc2
namespace Go.Proofs.YtdojbnngdlmbgaaGreatDoor.Tr
open Go.RowKit

open Classical in
/-- Equality of two lists, as a Bool. -/
noncomputable def eqB {α : Type} (l m : α) : Bool := decide (l = m)
theorem eqB_true {α : Type} {l m : α} (h : l = m) : eqB l m = true := by unfold eqB; simp [h]
theorem eqB_false {α : Type} {l m : α} (h : l ≠ m) : eqB l m = false := by unfold eqB; simp [h]
theorem eqB_iff {α : Type} {l m : α} : eqB l m = true ↔ l = m := by unfold eqB; simp
theorem eqB_no {α : Type} {l m : α} (h : eqB l m = false) : l ≠ m := fun e => by rw [eqB_true e] at h; cases h
/-- Two blocks more. -/
theorem two_keep {w w1 : World} {o1 o2 : Obj} (hb : Below ((w.alloc o1).alloc o2).heap.size ((w.alloc o1).alloc o2) w1) : w1.heap[w.heap.size]? = some o1 ∧ w1.heap[w.heap.size + 1]? = some o2 := by
  have hs : ((w.alloc o1).alloc o2).heap.size = w.heap.size + 2 := by simp
  exact ⟨(hb.block _ (by omega)).trans (heap_alloc2_old w o1 o2), (hb.block _ (by omega)).trans (heap_alloc2_new w o1 o2)⟩
theorem two_below (w : World) (o1 o2 : Obj) : Below w.heap.size w ((w.alloc o1).alloc o2) := ((Below.refl _ _).alloc (Nat.le_refl _) _).alloc (by simp) _

theorem take_eq_len {α : Type} {l m : List α} (h : l.length = m.length) (e : l.take l.length = m.take l.length) : l = m := by
  rw [List.take_length] at e; rw [e, h, List.take_length]
theorem take_succ_eq {α : Type} {l m : List α} {k : Nat} (h1 : k < l.length) (h2 : k < m.length) (e : l.take k = m.take k) (q : l[k] = m[k]) : l.take (k + 1) = m.take (k + 1) := by
  rw [List.take_succ_eq_append_getElem h1, List.take_succ_eq_append_getElem h2, e, q]

end Go.Proofs.YtdojbnngdlmbgaaGreatDoor.Tr
