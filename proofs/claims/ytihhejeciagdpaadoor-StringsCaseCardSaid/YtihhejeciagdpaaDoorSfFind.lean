/-
  The contracts of Find and Count of package strfunc.
-/
import Derived.Test.YtihhejeciagdpaaDoorSfSlice
import Derived.Test.YtihhejeciagdpaaDoorSfQuiet
namespace Go.Proofs.YtihhejeciagdpaaDoor.Sf
open Go.RowKit Go.Shelf
attribute [local go_sem] Oper.semAt_some
set_option linter.unusedVariables false
attribute [local simp] asked_wide asked_round wide_fn round_fn

theorem four (w : World) (a b c d e : Value) (ta tb tc td te : TypeId) : ∃ W0, ((((w.alloc (.cells #[a] ta)).alloc (.cells #[b] tb)).alloc (.cells #[c] tc)).alloc (.cells #[d] td)).alloc (.cells #[e] te) = W0 ∧ w.heap.size + 4 < W0.heap.size ∧ Below w.heap.size w W0 ∧
    W0.cell? ⟨w.heap.size, 0, none⟩ = some a ∧ W0.cell? ⟨w.heap.size + 1, 0, none⟩ = some b ∧ W0.cell? ⟨w.heap.size + 1 + 1, 0, none⟩ = some c ∧ W0.cell? ⟨w.heap.size + 1 + 1 + 1, 0, none⟩ = some d ∧ W0.frozen? ⟨w.heap.size + 1 + 1 + 1, 0, none⟩ = false ∧ W0.cell? ⟨w.heap.size + 1 + 1 + 1 + 1, 0, none⟩ = some e := by
  have n1 := newCell w a ta
  have n2 := newCell (w.alloc (.cells #[a] ta)) b tb
  have n3 := newCell ((w.alloc (.cells #[a] ta)).alloc (.cells #[b] tb)) c tc
  have n4 := newCell (((w.alloc (.cells #[a] ta)).alloc (.cells #[b] tb)).alloc (.cells #[c] tc)) d td
  have n5 := newCell ((((w.alloc (.cells #[a] ta)).alloc (.cells #[b] tb)).alloc (.cells #[c] tc)).alloc (.cells #[d] td)) e te
  simp only [World.size_alloc] at n2 n3 n4 n5
  exact ⟨_, rfl, by simp, (((((Below.refl _ w).alloc (Nat.le_refl _) _).alloc (by simp) _).alloc (by simp; omega) _).alloc (by simp; omega) _).alloc (by simp; omega) _, oldCell _ (oldCell _ (oldCell _ (oldCell _ n1.1))), oldCell _ (oldCell _ (oldCell _ n2.1)), oldCell _ (oldCell _ n3.1), oldCell _ n4.1, oldFrozen _ n4.1 n4.2, n5.1⟩
theorem posl_get (s : ByteArray) (i : Nat) (h : i ≤ rc s) : (posl s)[i]? = some (ag s i, i) := by
  unfold posl
  rw [List.getElem?_zipIdx, al_get, if_pos h]; simp
theorem posl_none (s : ByteArray) (i : Nat) (h : rc s < i) : (posl s)[i]? = none := List.getElem?_eq_none (by rw [posl_len]; omega)
theorem posl_prefix {s : ByteArray} {pre : List Ps} {x : Ps} (h : pre ++ [x] <+: posl s) : pre.length ≤ rc s ∧ x = (ag s pre.length, pre.length) ∧ ∀ j, j < pre.length → (ag s j, j) ∈ pre := by
  obtain ⟨r, hr⟩ := h
  have hl : pre.length ≤ rc s := by
    have := congrArg List.length hr
    rw [posl_len] at this
    simp at this; omega
  refine ⟨hl, ?_, fun j hj => ?_⟩
  · have := posl_get s pre.length hl
    rw [← hr] at this
    simpa using this
  · have := posl_get s j (by omega)
    rw [← hr, List.append_assoc, List.getElem?_append_left hj] at this
    exact List.mem_of_getElem? this
end Go.Proofs.YtihhejeciagdpaaDoor.Sf
