/-
  The contracts of writeTag, writeNode and package tree's Source.
-/
import Derived.Test.YtdojbnngdlmbgaaDoorTrWrite
namespace Go.Proofs.YtdojbnngdlmbgaaDoor.Tr
open Go.RowKit

theorem Fr.box2 {B b : Nat} {w w' : World} {k : Nat} {cs : Array Value} {t : TypeId} (h : Fr B b w w') (hx : w.heap[k]? = some (.cells cs t)) (ht : t ≠ 5) (hb : b < k) : w'.heap[k]? = some (.cells cs t) :=
  h.kept _ _ hx (fun e => by have := Option.some.inj e; omega) (fun c fz e => ht (by injection e))

theorem cat_list (a b : ByteArray) : (a ++ b).data.toList = a.data.toList ++ b.data.toList := by rw [ByteArray.data_append, Array.toList_append]

def S1 (T : List UInt8) : ByteArray := (⟨#[60]⟩ : ByteArray) ++ (⟨T.toArray⟩ : ByteArray) ++ (⟨#[62]⟩ : ByteArray)
def S2 (T : List UInt8) : ByteArray := (⟨#[60, 47]⟩ : ByteArray) ++ (⟨T.toArray⟩ : ByteArray) ++ (⟨#[62]⟩ : ByteArray)
theorem S1_list (T : List UInt8) : (S1 T).data.toList = [60] ++ T ++ [62] := by unfold S1; rw [cat_list, cat_list]
theorem S2_list (T : List UInt8) : (S2 T).data.toList = [60, 47] ++ T ++ [62] := by unfold S2; rw [cat_list, cat_list]
theorem S1_size (T : List UInt8) : (S1 T).size = 2 + T.length := by
  have h : (S1 T).size = (S1 T).data.toList.length := rfl
  rw [h, S1_list]; simp; omega
theorem S2_size (T : List UInt8) : (S2 T).size = 3 + T.length := by
  have h : (S2 T).size = (S2 T).data.toList.length := rfl
  rw [h, S2_list]; simp; omega
theorem new_builder (w : World) (B : Nat) (hB : B ≤ w.heap.size) : Bd (w.alloc (.cells #[.pointer none, .slice none 0 0] 83)) B w.heap.size [] := by
  refine .inl ⟨hB, .slice none 0 0, heap_new _ _, ?_, by simp [Value.ownBlock]⟩
  exact World.ownsRowF_of ⟨rfl, .inl ⟨rfl, rfl⟩⟩

end Go.Proofs.YtdojbnngdlmbgaaDoor.Tr
