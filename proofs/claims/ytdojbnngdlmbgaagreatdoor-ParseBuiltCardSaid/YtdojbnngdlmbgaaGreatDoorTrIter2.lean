/-
  What the iterator of package tree's lists promises: the lists directly below the nodes, in order.
-/
import Derived.Test.YtdojbnngdlmbgaaGreatDoorTrIter
namespace Go.Proofs.YtdojbnngdlmbgaaGreatDoor.Tr
open Go.RowKit Go.Shelf Rf
attribute [local go_sem] Oper.semAt_some

/-- What a round may rely on and owes. -/
def Rounds (d : Nat) (w : World) (B l : Nat) (J : List (Ls d w B) → World → Prop) : Prop :=
  ∀ pre x W1, J pre W1 → YieldAt Fence.wide 0 Tryz.prog l (encL x) W1 fun e W' => e = .returned (.bool true) ∧ J (pre ++ [x]) W' ∧ Kp w.heap.size W1 W'
theorem flat_take {α β : Type} {l : List α} {k : Nat} (f : α → List β) (h : k < l.length) : (l.take (k + 1)).flatMap f = (l.take k).flatMap f ++ f l[k] := by
  rw [List.take_succ_eq_append_getElem h, List.flatMap_append, List.flatMap_cons, List.flatMap_nil, List.append_nil]
theorem lst_append {d : Nat} {w : World} {B : Nat} (a b : List (Ls d w B)) : lst (a ++ b) = lst a ++ lst b := by simp [lst]

end Go.Proofs.YtdojbnngdlmbgaaGreatDoor.Tr
