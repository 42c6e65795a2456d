/-
  The contract of the iterator that package tree's lists returns.
-/
import Derived.Test.YtdogoblnblkogaaDoorTrIter2
namespace Go.Proofs.YtdogoblnblkogaaDoor.Tr
open Go.RowKit Go.Shelf Rf
attribute [local go_sem] Oper.semAt_some

end Go.Proofs.YtdogoblnblkogaaDoor.Tr
