/-
  A law for a range over a function whose body never leaves the loop: what the iterator promises, and how its caller goes on.
-/
import Derived.RangeFuncNested
import Derived.RangeFuncBound
import Derived.RangeFuncCalls
import Derived.RangeFuncLeaves
import Derived.RangeFuncFrom
namespace Go.Proofs.YtdojbnngdlmbgaaGreatDoor.Rf
open Go.RowKit
variable {P : Program}

/-- What a round keeps: all that lay below n, and all cells but those of block n. -/
structure Kp (n : Nat) (W W' : World) : Prop where
  bl : Below n W W'
  cells : ∀ k cs t fz, k ≠ n → W.heap[k]? = some (.cells cs t fz) → W'.heap[k]? = some (.cells cs t fz)
theorem Kp.refl (n : Nat) (W : World) : Kp n W W := ⟨Below.refl _ _, fun _ _ _ _ _ h => h⟩
theorem Kp.trans {n : Nat} {A B C : World} (h : Kp n A B) (k : Kp n B C) : Kp n A C := ⟨h.bl.trans k.bl, fun i cs t fz hi h1 => k.cells i cs t fz hi (h.cells i cs t fz hi h1)⟩
theorem Kp.of {n : Nat} {A B : World} (h : Below A.heap.size A B) (hn : n ≤ A.heap.size) : Kp n A B := ⟨h.mono hn, fun i _ _ _ _ h1 => (h.block i (Array.getElem?_eq_some_iff.1 h1).1).trans h1⟩
theorem Kp.alloc {n : Nat} {A B : World} (h : Kp n A B) (hn : n ≤ B.heap.size) (o : Obj) : Kp n A (B.alloc o) := h.trans (Kp.of ((Below.refl _ _).alloc (Nat.le_refl _) o) hn)
theorem Kp.set {n : Nat} {A B : World} (h : Kp n A B) (v : Value) : Kp n A (B.setCell ⟨n, 0, none⟩ v) :=
  ⟨h.bl.setCell (p := ⟨n, 0, none⟩) (Nat.le_refl _) v, fun i cs t fz hi h1 => (Below.heap_setCell _ _ _ _ hi).trans (h.cells i cs t fz hi h1)⟩
theorem Kp.cell {n : Nat} {A B : World} (h : Kp n A B) {k : Nat} (hk : k ≠ n) {cs : Array Value} {t : TypeId} (hc : A.heap[k]? = some (.cells cs t)) : B.heap[k]? = some (.cells cs t) := h.cells _ _ _ _ hk hc

/-- What an iterator promises: every round says that it wants more; all of the elements come. -/
def SeqAll {α : Type} (P : Program) (g : Nat) (lb : Array Value) (encs : α → Array Value) (n₀ : Nat) (S : List α → Prop) (w : World) : Prop :=
  ∀ (l : Nat) (J : List α → World → Prop) (W : World), Below w.heap.size w W → (∀ s A o, n₀ ≤ A.heap.size → J s A → J s (A.alloc o)) →
    (∀ pre x W1, J pre W1 → YieldAt Fence.wide 0 P l (encs x) W1 fun e W' => e = .returned (.bool true) ∧ J (pre ++ [x]) W' ∧ Kp n₀ W1 W') →
    J [] W →
    CallsIn Fence.wide 0 P g (#[.func (.yield l) #[] #[]] ++ lb) W fun e W' => (∃ v, e = .returned v) ∧ ∃ xs, S xs ∧ J xs W'

/-- How a round ends. -/
def onPost {α : Type} (n₀ : Nat) (I : List α → World → Prop) (xs : List α) (W : World) : Exit → Act → World → Prop
  | .normal, _, W' => KeepsOthers W W' ∧ Kp n₀ W W' ∧ I xs W'
  | _, _, _ => False

/-- The statement 'for .. := range g' over such an iterator. -/
theorem range2 {α : Type} {g : Operand} {ps : Array Tmp} {assign body : Code} {Q : Exit → Act → World → Prop} {a : Act} {w : World} {gf : Nat} {lb : Array Value}
    (hg : a.eval g = .func (.func gf) #[] lb) (eg : ∀ args w, (callFunc gf args).run P w = .ok (.enter gf args) w)
    {encs : α → Array Value} {n₀ : Nat} {S : List α → Prop} (hseq : SeqAll P gf lb encs n₀ S w) (hps : ∀ x, (encs x).size = ps.size) (hn : n₀ ≤ w.heap.size)
    (I : List α → World → Prop) (hI : OwnFrom w.heap.size I) (h0 : I [] w) (a₁ : α → Act)
    (hassign : ∀ (l : Nat) (x : α) (W : World) (K : Act → World → Prop), K (a₁ x) W →
      assign.wpIn (Fence.wide.inRound l) 0 P (Exit.then K (fun _ _ _ => False)) { tmps := (ps.zip (encs x)).foldl (fun t (p, v) => t.setIfInBounds p v) a.tmps, defers := [] } W)
    (hbody : ∀ (l : Nat) (pre : List α) (x : α) (W : World), I pre W → body.wpIn (Fence.wide.inRound l) 0 P (onPost n₀ I (pre ++ [x]) W) (a₁ x) W)
    (hdone : ∀ (D : Nat) (xs : List α) (W : World), w.heap.size ≤ D → S xs → I xs W → W.heap[D]? = some (.deferred (some [])) → Q .normal { a with defers := { target := .collected D, args := #[] } :: a.defers } W) :
    (Code.rangeFunc g ps assign body).wpIn Fence.wide 0 P Q a w := by
  refine wpIn_rangeFunc fun fn hfn => ?_
  obtain ⟨R, hR⟩ : ∃ R : LoopState → Option Code → Loop, R = fun st pe => { state := st, pending := pe, fn, tmps := a.tmps, params := ps, assign, body, defers := w.heap.size } := ⟨_, rfl⟩
  obtain ⟨V, hV⟩ : ∃ V, (w.alloc (.deferred (some []))).alloc (.loop (R .ready none)) = V := ⟨_, rfl⟩
  let Bk : LoopState → Option Code → World → Prop := fun st pe W => W.heap[w.heap.size + 1]? = some (.loop (R st pe)) ∧ W.heap[w.heap.size]? = some (.deferred (some []))
  have hBk0 : Bk .ready none V := by
    rw [← hV]
    refine ⟨?_, (Below.heap_alloc _ _ _ (by simp)).trans (World.alloc_heap_new w _)⟩
    have := World.alloc_heap_new (w.alloc (.deferred (some []))) (.loop (R .ready none))
    rwa [World.size_alloc] at this
  have hBka : ∀ st pe A o, Bk st pe A → Bk st pe (A.alloc o) := fun st pe A o h =>
    ⟨(Below.heap_alloc _ _ _ (Array.getElem?_eq_some_iff.1 h.1).1).trans h.1, (Below.heap_alloc _ _ _ (Array.getElem?_eq_some_iff.1 h.2).1).trans h.2⟩
  have hI0 : I [] V := by rw [← hV]; exact hI.alloc _ (hI.alloc _ h0)
  have hB0 : Below w.heap.size w V := by rw [← hV]; exact ((Below.refl _ w).alloc (Nat.le_refl _) _).alloc (by simp) _
  have hput : ∀ (A : World) (r r' : Loop), A.heap[w.heap.size + 1]? = some (.loop r) → Kp n₀ A (A.putObj (w.heap.size + 1) (.loop r')) := fun A r r' h =>
    ⟨(Below.refl _ A).grown (grownBy_putObj' A _ _) (by have := (Array.getElem?_eq_some_iff.1 h).1; omega) (fun k e => by cases e; omega),
      fun k cs t fz _ hk => (World.putObj_heap_other (by intro e; subst e; rw [h] at hk; cases hk)).trans hk⟩
  refine ⟨w.heap.size + 1, [{ target := .collected w.heap.size, args := #[] }], V, { target := .fn (.func gf) lb, args := #[.func (.yield (w.heap.size + 1)) #[] #[]] }, V, gf,
    #[.func (.yield (w.heap.size + 1)) #[] #[]] ++ lb, V, ?_, ?_, fun _ _ => trivial, ?_, fun h => ?_, ?_⟩
  · rw [← hV, hR]; exact run_enterLoop_outer _ _ _ _ _
  · simp only [resolve, hg]; simp [go_sem]
  · simp [invoke, go_sem, eg]
  · cases h
  refine (hseq (w.heap.size + 1) (fun pre W => I pre W ∧ Bk .ready none W) V hB0 (fun s A o _ h => ⟨hI.alloc _ h.1, hBka _ _ A o h.2⟩) ?_ ⟨hI0, hBk0⟩).mono ?_
  · -- one round
    rintro pre x W ⟨hi, hl, hk⟩
    have hlt : w.heap.size + 1 < W.heap.size := (Array.getElem?_eq_some_iff.1 hl).1
    have hy := run_yield (P := P) (args := encs x) hl (by rw [hR]; exact hps x)
    rw [hR] at hy
    refine ⟨fn, _, assign, body, hy, roundIn_of_wpIn hfn (hassign _ x W _ ⟨_, run_beginRound hl (by rw [hR]), ?_⟩)⟩
    obtain ⟨X, hX⟩ : ∃ X, W.putObj (w.heap.size + 1) (.loop { R .ready none with state := .busy }) = X := ⟨_, rfl⟩
    rw [hX]
    have hl2 : X.heap[w.heap.size + 1]? = some (.loop { R .ready none with state := .busy }) := by rw [← hX]; exact World.putObj_heap_same hlt
    have hk2 : X.heap[w.heap.size]? = some (.deferred (some [])) := by rw [← hX]; exact (World.putObj_heap_other (by omega)).trans hk
    have hw2 : Kp n₀ W X := by rw [← hX]; exact hput _ _ _ hl
    have hi2 : I pre X := by rw [← hX]; exact hI.putObj _ hi (by omega) hl rfl
    refine wpIn_mono (hbody _ pre x X hi2) ?_
    rintro e a3 Y hp
    cases e with
    | normal =>
      obtain ⟨hY, hB, hi3⟩ := hp
      have hl3 := hY.same _ _ hl2 rfl
      have hk3 := hY.same _ _ hk2 rfl
      have he := run_endRound (P := P) none hl3
      refine ⟨.bool true, Y.putObj (w.heap.size + 1) (.loop (R .ready none)), ?_, rfl, ⟨hI.putObj _ hi3 (by omega) hl3 rfl, World.putObj_heap_same (Array.getElem?_eq_some_iff.1 hl3).1, (World.putObj_heap_other (by omega)).trans hk3⟩, (hw2.trans hB).trans (hput _ _ _ hl3)⟩
      rw [hR] at he ⊢
      exact he
    | ret => exact hp.elim
    | exit id => exact hp.elim
    | goto t => exact hp.elim
    | panic ch => exact hp.elim
    | outgrown => exact hp.elim
  · -- behind the iterator
    rintro e Y ⟨⟨v, rfl⟩, xs, hS, hi, hl, hk⟩
    have he := run_endLoop (P := P) hl (by rw [hR]; simp)
    rw [hR] at he
    exact ⟨none, _, he, hdone _ xs _ (Nat.le_refl _) hS (hI.putObj _ hi (by omega) hl rfl) ((World.putObj_heap_other (by omega)).trans hk)⟩
end Go.Proofs.YtdojbnngdlmbgaaGreatDoor.Rf
