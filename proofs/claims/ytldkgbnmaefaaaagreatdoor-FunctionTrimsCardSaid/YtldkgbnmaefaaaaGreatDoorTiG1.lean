import Derived.RangeFuncNested
import Derived.RangeFuncBound
import Derived.RangeFuncCalls
import Derived.RangeFuncLeaves
import Derived.RangeFuncFrom
set_option maxRecDepth 100000
set_option maxHeartbeats 4000000
namespace Go.Proofs.YtldkgbnmaefaaaaGreatDoor.Rf
open Go.RowKit
variable {P:Program}
theorem qda(W:World)(v:Value)(t:TypeId):(W.alloc (.cells #[v] t)).cell? ⟨W.heap.size,0,none⟩=some v∧(W.alloc (.cells #[v] t)).frozen? ⟨W.heap.size,0,none⟩=false :=
 ⟨by simp,by simp⟩
theorem qa3{W:World}{a:Addr}{v:Value}(o:Obj)(h:W.cell? a=some v):(W.alloc o).cell? a=some v :=
 cell_kept h (World.grownBy_alloc W o none) (fun r e=>by cases e)
theorem qch{W:World}{a:Addr}{v:Value}(o:Obj)(h:W.cell? a=some v)(hf:W.frozen? a=false):(W.alloc o).frozen? a=false :=
 (frozen_kept h (World.grownBy_alloc W o none) (fun r e=>by cases e)).trans hf
end Go.Proofs.YtldkgbnmaefaaaaGreatDoor.Rf
