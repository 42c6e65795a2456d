/-
  Rows of strings, groups, rules and guards that a call owns, and appends to them.
-/
import Derived.Test.YtbibekojbjonoaaDoorPoMem
import Derived.Maps.AppendAt
import Derived.Deep.AppendLies
namespace Go.Proofs.YtbibekojbjonoaaDoor.Po
open Go.RowKit Go.Shelf
set_option linter.unusedVariables false
set_option linter.unusedSimpArgs false

theorem info_parts {x : Option TypeInfo} {z : Option Value} {s b : Nat} (h : x.map (fun i => (i.zero, i.size, i.bytes)) = some (z, s, b)) : ∃ i, x = some i ∧ i.zero = z ∧ i.size = s ∧ i.bytes = b := by
  obtain ⟨i, hi, hx⟩ := Option.map_eq_some_iff.1 h
  simp only [Prod.mk.injEq] at hx
  exact ⟨i, hi, hx.1, hx.2.1, hx.2.2⟩
def OwnS (w : World) (base : Nat) (v : Value) (l : List By) : Prop := w.ownsRow base 9 1 v l.length (l.flatMap encS)
def OwnR (w : World) (base : Nat) (v : Value) (l : List Rul) : Prop := w.ownsRow base 48 6 v l.length (l.flatMap encR)
def OwnD (w : World) (base : Nat) (v : Value) (l : List Gud) : Prop := w.ownsRow base 36 5 v l.length (l.flatMap encD)
def OwnV (w : World) (base : Nat) (v : Value) (l : List Gv) : Prop := w.ownsRow base 58 2 v l.length (l.flatMap encG)
theorem OwnS.rd {w : World} {base : Nat} {v : Value} {l : List By} (h : OwnS w base v l) : RdS w w.heap.size v l := rd_own encS_len h
theorem OwnR.rd {w : World} {base : Nat} {v : Value} {l : List Rul} (h : OwnR w base v l) : RdR w w.heap.size v l := rd_own encR_len h
theorem OwnD.rd {w : World} {base : Nat} {v : Value} {l : List Gud} (h : OwnD w base v l) : RdD w w.heap.size v l := rd_own encD_len h
theorem OwnV.rd {w : World} {base : Nat} {v : Value} {l : List Gv} (h : OwnV w base v l) : Rd 2 encG w w.heap.size v l := rd_own encG_len h
theorem OwnS.nil (w : World) (base : Nat) : OwnS w base (.slice none 0 0) [] := World.ownsRow_nil _ _ _ _
theorem OwnR.nil (w : World) (base : Nat) : OwnR w base (.slice none 0 0) [] := World.ownsRow_nil _ _ _ _
theorem OwnD.nil (w : World) (base : Nat) : OwnD w base (.slice none 0 0) [] := World.ownsRow_nil _ _ _ _
theorem OwnV.nil (w : World) (base : Nat) : OwnV w base (.slice none 0 0) [] := World.ownsRow_nil _ _ _ _
theorem snocS {w : World} {base : Nat} {v : Value} {l : List By} {p : By} (h : w.ownsRow base 9 1 v (l.length + 1) (l.flatMap encS ++ encS p)) : OwnS w base v (l ++ [p]) := by
  unfold OwnS; rw [List.length_append, List.flatMap_append]; simpa using h
theorem snocR {w : World} {base : Nat} {v : Value} {l : List Rul} {p : Rul} (h : w.ownsRow base 48 6 v (l.length + 1) (l.flatMap encR ++ encR p)) : OwnR w base v (l ++ [p]) := by
  unfold OwnR; rw [List.length_append, List.flatMap_append]; simpa using h
theorem snocD {w : World} {base : Nat} {v : Value} {l : List Gud} {p : Gud} (h : w.ownsRow base 36 5 v (l.length + 1) (l.flatMap encD ++ encD p)) : OwnD w base v (l ++ [p]) := by
  unfold OwnD; rw [List.length_append, List.flatMap_append]; simpa using h
theorem snocV {w : World} {base : Nat} {v : Value} {l : List Gv} {p : Gv} (h : w.ownsRow base 58 2 v (l.length + 1) (l.flatMap encG ++ encG p)) : OwnV w base v (l ++ [p]) := by
  unfold OwnV; rw [List.length_append, List.flatMap_append]; simpa using h
theorem OwnS.below {w w' : World} {base B : Nat} {v : Value} {l : List By} (h : OwnS w base v l) (hb : Below B w w') (hB : w.heap.size ≤ B) : OwnS w' base v l := row_below h hb hB
theorem OwnR.below {w w' : World} {base B : Nat} {v : Value} {l : List Rul} (h : OwnR w base v l) (hb : Below B w w') (hB : w.heap.size ≤ B) : OwnR w' base v l := row_below h hb hB
theorem OwnD.below {w w' : World} {base B : Nat} {v : Value} {l : List Gud} (h : OwnD w base v l) (hb : Below B w w') (hB : w.heap.size ≤ B) : OwnD w' base v l := row_below h hb hB
theorem OwnV.below {w w' : World} {base B : Nat} {v : Value} {l : List Gv} (h : OwnV w base v l) (hb : Below B w w') (hB : w.heap.size ≤ B) : OwnV w' base v l := row_below h hb hB
theorem row_mono {w : World} {base base' e k : Nat} {v : Value} {m : Nat} {xs : List Value} (h : w.ownsRow base e k v m xs) (hb : base' ≤ base) : w.ownsRow base' e k v m xs := by
  refine ⟨h.1, ?_⟩
  rcases h.2 with h2 | ⟨g, cap, cur, h3, h4, h5⟩
  · exact .inl h2
  · exact .inr ⟨g, cap, cur, h3, Nat.le_trans hb h4, h5⟩
theorem row_drewN {w : World} {base e k : Nat} {v : Value} {m : Nat} {xs : List Value} (h : w.ownsRow base e k v m xs) (n : Nat) : (w.drewN n).ownsRow base e k v m xs := h
theorem cells_at (w : World) (cs : Array Value) (t : TypeId) (o : Obj) (ho : o = .cells cs t) : ∀ j u, cs.toList[j]? = some u → (w.alloc o).cell? ((⟨w.heap.size, 0, none⟩ : Addr).add j) = some u := by
  subst ho
  have := cells_new w cs.toList t
  simpa using this
end Go.Proofs.YtbibekojbjonoaaDoor.Po
