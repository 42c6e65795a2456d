/-
  The builder of package strfunc: what it holds, and what writing leaves alone.
-/
import Derived.Test.YtihhejeciagdpaaSfIter
import Derived.Laws.Rows
namespace Go.Proofs.Ytihhejeciagdpaa.Sf
open Go.RowKit Go.Shelf
set_option linter.unusedVariables false

/-- All blocks of cells stay. -/
def Kc (W W' : World) : Prop := ∀ (k : Nat) cs t fz, W.heap[k]? = some (Obj.cells cs t fz) → W'.heap[k]? = some (Obj.cells cs t fz)
theorem Kc.of {W W' : World} (h : Below W.heap.size W W') : Kc W W' := fun k _ _ _ hk => (h.block k (Array.getElem?_eq_some_iff.1 hk).1).trans hk
theorem Kc.grown {W W' : World} {row : Option Nat} (hg : W.grownBy W' row) (hr : ∀ r, row = some r → ∃ o : Obj, W.heap[r]? = some o ∧ o.isCells = false) : Kc W W' := fun k cs t fz hk => by
  refine (hg.block k (Array.getElem?_eq_some_iff.1 hk).1 ?_).trans hk
  intro e
  obtain ⟨o, ho, hc⟩ := hr k e.symm
  rw [hk] at ho; cases ho; cases hc
theorem ownF_kc {w w' : World} {base : Nat} {e : TypeId} {size : Nat} {v : Value} {n : Nat} {xs : List Value} (h : w.ownsRowF base e size v n xs) (hk : Kc w w') : w'.ownsRowF base e size v n xs := by
  refine ⟨h.1, h.2.imp id ?_⟩
  rintro ⟨g, cap, cur, fz, h3, h4, h5, h6⟩
  exact ⟨g, cap, cur, fz, h3, h4, hk _ _ _ _ h5, h6⟩
theorem batF_kc {w w' : World} {B b : Nat} {p : Value} {bs : List Value} {T e : TypeId} (h : Lib.BuilderAtF T e B b p bs w) (hk : Kc w w') : Lib.BuilderAtF T e B b p bs w' := by
  obtain ⟨h1, v, h2, h3, h4⟩ := h
  exact ⟨h1, v, hk _ _ _ _ h2, ownF_kc h3 hk, h4⟩
/-- The builder in block b, one of those from B on, holds the bytes x. -/
def Bd (w : World) (B b : Nat) (x : List UInt8) : Prop := Lib.IsBuilderF 53 5 B b (Lib.byteCells x) w
theorem Bd.kc {w w' : World} {B b : Nat} {x : List UInt8} (h : Bd w B b x) (hk : Kc w w') : Bd w' B b x := h.imp (fun h => batF_kc h hk) (fun h => batF_kc h hk)
theorem Bd.block {w : World} {B b : Nat} {x : List UInt8} (h : Bd w B b x) : ∃ cs t fz, w.heap[b]? = some (.cells cs t fz) := by
  rcases h with ⟨_, v, h2, _⟩ | ⟨_, v, h2, _⟩ <;> exact ⟨_, _, _, h2⟩
/-- What writing to the builder in block b leaves alone. -/
structure Fr (B b : Nat) (w w' : World) : Prop where
  below : Below B w w'
  kept : Lib.OthersKept 5 (some b) w w'
theorem Fr.keeps {B b : Nat} {W W' : World} (h : Fr B b W W') (hb : ∃ cs t fz, W.heap[b]? = some (.cells cs t fz)) : KeepsOthers W W' := ⟨h.below.size, fun k o hk ho => by
  refine h.kept _ _ hk (fun e => ?_) (fun c fz e => by rw [e] at ho; cases ho)
  obtain ⟨cs, t, fz, hc⟩ := hb
  have := Option.some.inj e
  subst this
  rw [hk] at hc; cases hc; cases ho⟩
theorem Fr.cells {B b : Nat} {W W' : World} (h : Fr B b W W') {k : Nat} {cs : Array Value} {t : TypeId} (hk : W.heap[k]? = some (.cells cs t)) (hne : k ≠ b) (ht : t ≠ 5) : W'.heap[k]? = some (.cells cs t) :=
  h.kept _ _ hk (fun e => hne (by have := Option.some.inj e; omega)) (fun c fz e => ht (by injection e))
theorem cell_heap {w : World} {g : Nat} {cs : Array Value} {t : TypeId} {i : Nat} {v : Value} (h : w.heap[g]? = some (.cells cs t)) (hv : cs[i]? = some v) : w.cell? ⟨g, i, none⟩ = some v := by
  simp [World.cell?, h, hv]
theorem WStr (B b : Nat) (x : List UInt8) (s : ByteArray) (w : World) (h : Bd w B b x) (hl : x.length + s.size ≤ 140737488355328) (hB : B ≤ w.heap.size) :
    Calls Try.prog 40 #[.pointer (some ⟨b, 0, none⟩), .string s] w fun e w' => e = .returned (.tuple #[.int .i64 s.size, .nilIface]) ∧ Bd w' B b (x ++ s.data.toList) ∧ Fr B b w w' :=
  (Try.Builder_WriteStringk B b _ s w h (by rw [Lib.byteCells_length]; exact hl) hB).mono fun e w' ⟨h1, h2, h3, h4⟩ => ⟨h1, .inr (by rw [Lib.byteCells_append, ← Lib.strCells_eq]; exact h2), h3, h4⟩
theorem WGet (B b : Nat) (x : List UInt8) (w : World) (h : Bd w B b x) (hB : B ≤ w.heap.size) :
    Calls Try.prog 41 #[.pointer (some ⟨b, 0, none⟩)] w fun e w' => e = .returned (.string ⟨x.toArray⟩) ∧ Bd w' B b x ∧ Fr B b w w' :=
  (Try.Builder_String_anyk B b x w h hB).mono fun e w' ⟨h1, h2, h3, h4⟩ => ⟨h1, h2, h3, h4⟩
end Go.Proofs.Ytihhejeciagdpaa.Sf
