/-
  What the iterator of package tree's lists promises: the lists directly below the nodes, in order.
-/
import Derived.Test.YtdojbnngdlmbgaaGreatDoorTrEq2
import Derived.Test.YtdojbnngdlmbgaaGreatDoorTrRange
import Derived.Shelf.Abstract
import Derived.Shelf.RegionOpen
import Derived.OwnWalkIn
import Derived.TacticsInMore
import Derived.LoopNIn
import Derived.LoopIn
namespace Go.Proofs.YtdojbnngdlmbgaaGreatDoor.Tr
open Go.RowKit Go.Shelf Rf
attribute [local go_sem] Oper.semAt_some

/-- A list in memory, with what it reads as. -/
abbrev Ls (d : Nat) (w : World) (B : Nat) := { p : Value × List Nd // LRd d w B p.1 p.2 }
def encL {d : Nat} {w : World} {B : Nat} (x : Ls d w B) : Array Value := #[x.1.1]
def lst {d : Nat} {w : World} {B : Nat} (xs : List (Ls d w B)) : List (List Nd) := xs.map (·.1.2)
end Go.Proofs.YtdojbnngdlmbgaaGreatDoor.Tr
