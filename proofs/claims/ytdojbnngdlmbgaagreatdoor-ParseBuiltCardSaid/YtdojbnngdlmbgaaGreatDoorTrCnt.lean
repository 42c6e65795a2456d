/-
  The contracts of package tree's Count and Depth.
-/
import Derived.Test.YtdojbnngdlmbgaaGreatDoorTrIter3
namespace Go.Proofs.YtdojbnngdlmbgaaGreatDoor.Tr
open Go.RowKit Go.Shelf Rf
attribute [local go_sem] Oper.semAt_some

theorem keeps_below {V V' : World} (h : Below V.heap.size V V') : KeepsOthers V V' := ⟨h.size, fun k _ hk _ => (h.block k (Array.getElem?_eq_some_iff.1 hk).1).trans hk⟩
/-- What stands while a round runs: the variable in block n holds c. -/
structure Rn (n : Nat) (c : Value) (w W V : World) : Prop where
  box : Boxed V n 3 c
  bl : Below n w V
  kp : Kp n W V
  ko : KeepsOthers W V
theorem Rn.drew {n : Nat} {c : Value} {w W V : World} (h : Rn n c w W V) : Rn n c w W V.drew := ⟨h.box, h.bl.drew, ⟨h.kp.bl.drew, h.kp.cells⟩, h.ko.trans (KeepsOthers.drew _)⟩
theorem Rn.below {n : Nat} {c : Value} {w W V V' : World} (h : Rn n c w W V) (hb : Below V.heap.size V V') : Rn n c w W V' :=
  have hn : n < V.heap.size := h.box.lt
  ⟨(hb.block n hn).trans h.box, h.bl.trans (hb.mono (Nat.le_of_lt hn)), h.kp.trans (Kp.of hb (Nat.le_of_lt hn)), h.ko.trans (keeps_below hb)⟩
theorem Rn.set {n : Nat} {c : Value} {w W V : World} (h : Rn n c w W V) (c' : Value) : KeepsOthers W (V.setCell ⟨n, 0, none⟩ c') ∧ Kp n W (V.setCell ⟨n, 0, none⟩ c') ∧ Boxed (V.setCell ⟨n, 0, none⟩ c') n 3 c' ∧ Below n w (V.setCell ⟨n, 0, none⟩ c') :=
  ⟨h.ko.trans (KeepsOthers.setCell _ _ _), h.kp.set _, h.box.set _, h.bl.setCell (p := ⟨n, 0, none⟩) (Nat.le_refl _) _⟩
theorem wrap_add (a b : Int) : IntKind.i64.wrap (IntKind.i64.wrap a + b) = IntKind.i64.wrap (a + b) := by
  rw [IntKind.wrap_i64, IntKind.wrap_i64, IntKind.wrap_i64]; omega
theorem wrap_id (a : Nat) (h : a ≤ 9223372036854775807) : IntKind.i64.wrap (a : Int) = (a : Int) := by rw [IntKind.wrap_i64]; omega
/-- The sum that has been reached. -/
def csum {d : Nat} {w : World} {B : Nat} (n : Nat) (xs : List (Ls d w B)) : Int := IntKind.i64.wrap ((n + ((lst xs).map cnt).sum : Nat) : Int)
theorem csum_snoc {d : Nat} {w : World} {B : Nat} (n : Nat) (xs : List (Ls d w B)) (x : Ls d w B) : csum n (xs ++ [x]) = IntKind.i64.wrap (csum n xs + (cnt x.1.2 : Nat)) := by
  unfold csum; rw [wrap_add]; congr 1; rw [lst_append, List.map_append, List.sum_append]; simp [lst]; omega

/-- The depth that has been reached. -/
def dtop {d : Nat} {w : World} {B : Nat} (xs : List (Ls d w B)) : Nat := top ((lst xs).map dep)
theorem dtop_snoc {d : Nat} {w : World} {B : Nat} (xs : List (Ls d w B)) (x : Ls d w B) : dtop (xs ++ [x]) = max (dtop xs) (dep x.1.2) := by
  unfold dtop; rw [lst_append, List.map_append, top_append]; simp [lst, top]
end Go.Proofs.YtdojbnngdlmbgaaGreatDoor.Tr
