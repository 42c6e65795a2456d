/-
  The contract of the iterator that package tree's lists returns.
-/
import Derived.Test.YtikfmafhblkcpaaDoorTrIter2
namespace Go.Proofs.YtikfmafhblkcpaaDoor.Tr
open Go.RowKit Go.Shelf Rf
attribute [local go_sem] Oper.semAt_some

end Go.Proofs.YtikfmafhblkcpaaDoor.Tr
