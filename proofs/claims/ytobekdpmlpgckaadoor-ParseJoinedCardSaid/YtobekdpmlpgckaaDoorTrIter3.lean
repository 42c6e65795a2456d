/-
  The contract of the iterator that package tree's lists returns.
-/
import Derived.Test.YtobekdpmlpgckaaDoorTrIter2
namespace Go.Proofs.YtobekdpmlpgckaaDoor.Tr
open Go.RowKit Go.Shelf Rf
attribute [local go_sem] Oper.semAt_some

end Go.Proofs.YtobekdpmlpgckaaDoor.Tr
