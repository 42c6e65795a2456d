/-
  The contract of the iterator that package tree's lists returns.
-/
import Derived.Test.YtdojbnngdlmbgaaGreatDoorTrIter2
namespace Go.Proofs.YtdojbnngdlmbgaaGreatDoor.Tr
open Go.RowKit Go.Shelf Rf
attribute [local go_sem] Oper.semAt_some

end Go.Proofs.YtdojbnngdlmbgaaGreatDoor.Tr
