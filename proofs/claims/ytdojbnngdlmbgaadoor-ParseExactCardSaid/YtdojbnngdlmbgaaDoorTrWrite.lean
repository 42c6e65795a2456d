/-
  The contracts of package tree's Source and of what it calls.
-/
import Derived.Test.YtdojbnngdlmbgaaDoorTrCount
import Derived.Test.YtdojbnngdlmbgaaDoorTrWS
import Derived.Maps.AppendAt
import Derived.Deep.AppendLies
import Derived.RegionTactic
import Derived.OwnWalk
import Derived.Handy
import Derived.Laws.OwnMore
namespace Go.Proofs.YtdojbnngdlmbgaaDoor.Tr
open Go.RowKit

/-- The builder in block b, one of those from B on, holds the bytes x. -/
def Bd (w : World) (B b : Nat) (x : List UInt8) : Prop := Lib.IsBuilderF 83 5 B b (Lib.byteCells x) w
theorem ownF_keep {w w' : World} {base : Nat} {e : TypeId} {size : Nat} {v : Value} {n : Nat} {xs : List Value} (h : w.ownsRowF base e size v n xs) (hk : ∀ k, k < w.heap.size → w'.heap[k]? = w.heap[k]?) : w'.ownsRowF base e size v n xs := by
  refine ⟨h.1, h.2.imp id ?_⟩
  rintro ⟨g, cap, cur, fz, h3, h4, h5, h6⟩
  have hg : g < w.heap.size := (Array.getElem?_eq_some_iff.1 h5).1
  exact ⟨g, cap, cur, fz, h3, h4, (hk g hg).trans h5, h6⟩
theorem batF_keep {w w' : World} {B b : Nat} {p : Value} {bs : List Value} {T e : TypeId} (h : Lib.BuilderAtF T e B b p bs w) (hk : ∀ k, k < w.heap.size → w'.heap[k]? = w.heap[k]?) : Lib.BuilderAtF T e B b p bs w' := by
  obtain ⟨h1, v, h2, h3, h4⟩ := h
  have hg : b < w.heap.size := (Array.getElem?_eq_some_iff.1 h2).1
  exact ⟨h1, v, (hk b hg).trans h2, ownF_keep h3 hk, h4⟩
theorem Bd.keep {w w' : World} {B b : Nat} {x : List UInt8} (h : Bd w B b x) (hb : Below w.heap.size w w') : Bd w' B b x := by
  rcases h with h | h
  · exact .inl (batF_keep h hb.block)
  · exact .inr (batF_keep h hb.block)
theorem Bd.lt {w : World} {B b : Nat} {x : List UInt8} (h : Bd w B b x) : b < w.heap.size := by
  rcases h with ⟨_, v, h2, _⟩ | ⟨_, v, h2, _⟩ <;> exact (Array.getElem?_eq_some_iff.1 h2).1
theorem Bd.le {w : World} {B b : Nat} {x : List UInt8} (h : Bd w B b x) : B ≤ b := by
  rcases h with ⟨h, _⟩ | ⟨h, _⟩ <;> exact h
/-- What writing to the builder in block b leaves alone. -/
structure Fr (B b : Nat) (w w' : World) : Prop where
  below : Below B w w'
  kept : Lib.OthersKept 5 (some b) w w'
theorem Fr.refl (B b : Nat) (w : World) : Fr B b w w := ⟨Below.refl _ _, Lib.OthersKept.refl _ _ _⟩
theorem Fr.trans {B b : Nat} {u v w : World} (h : Fr B b u v) (k : Fr B b v w) : Fr B b u w := ⟨h.below.trans k.below, h.kept.trans k.kept⟩
theorem Fr.alloc {B b : Nat} {u v : World} (h : Fr B b u v) (hB : B ≤ v.heap.size) (o : Obj) : Fr B b u (v.alloc o) := ⟨h.below.alloc hB o, h.kept.alloc o⟩
theorem heap_new (w : World) (o : Obj) : (w.alloc o).heap[w.heap.size]? = some o := heap_alloc_new w o
theorem Fr.box {B b : Nat} {w w' : World} {cs : Array Value} {t : TypeId} (h : Fr B b (w.alloc (.cells cs t)) w') (ht : t ≠ 5) (hb : b < w.heap.size) : w'.heap[w.heap.size]? = some (.cells cs t) :=
  h.kept _ _ (heap_new w _) (fun e => by have := Option.some.inj e; omega) (fun c fz e => ht (by injection e))
theorem cell_heap {w : World} {g : Nat} {cs : Array Value} {t : TypeId} {i : Nat} {v : Value} (h : w.heap[g]? = some (.cells cs t)) (hv : cs[i]? = some v) : w.cell? ⟨g, i, none⟩ = some v := by
  simp [World.cell?, h, hv]
theorem WS (B b : Nat) (x : List UInt8) (s : ByteArray) (w : World) (h : Bd w B b x) (hl : x.length + s.size ≤ 140737488355328) (hB : B ≤ w.heap.size) :
    Calls Tryd.prog 40 #[.pointer (some ⟨b, 0, none⟩), .string s] w fun e w' => e = .returned (.tuple #[.int .i64 s.size, .nilIface]) ∧ Bd w' B b (x ++ s.data.toList) ∧ Fr B b w w' :=
  (Tryd.Builder_WriteString B b _ s w h (by rw [Lib.byteCells_length]; exact hl) hB).mono fun e w' ⟨h1, h2, h3, h4⟩ => ⟨h1, .inr (by rw [Lib.byteCells_append, ← Lib.strCells_eq]; exact h2), h3, h4⟩

theorem src_take {l : List Nd} {k : Nat} (h : k < l.length) : src (l.take (k + 1)) = src (l.take k) ++ srcN l[k] := by
  rw [List.take_succ_eq_append_getElem h, src_append, src_cons, src_nil, List.append_nil]
theorem srcA_take {l : List Ar} {k : Nat} (h : k < l.length) : srcA (l.take (k + 1)) = srcA (l.take k) ++ srcG l[k] := by
  rw [List.take_succ_eq_append_getElem h, srcA_append, srcA_cons, srcA_nil, List.append_nil]
theorem src_take_len (l : List Nd) (k : Nat) : (src (l.take k)).length ≤ (src l).length := by
  have : src l = src (l.take k) ++ src (l.drop k) := by rw [← src_append, List.take_append_drop]
  rw [this, List.length_append]; omega
theorem srcA_take_len (l : List Ar) (k : Nat) : (srcA (l.take k)).length ≤ (srcA l).length := by
  have : srcA l = srcA (l.take k) ++ srcA (l.drop k) := by rw [← srcA_append, List.take_append_drop]
  rw [this, List.length_append]; omega

theorem Bd.alloc {w : World} {B b : Nat} {x : List UInt8} (h : Bd w B b x) (o : Obj) : Bd (w.alloc o) B b x := h.keep ((Below.refl _ _).alloc (Nat.le_refl _) _)

end Go.Proofs.YtdojbnngdlmbgaaDoor.Tr
