import Derived.Test.YtldkgbnmaefaaaaGreatDoorChecked
import Derived.Test.YtldkgbnmaefaaaaGreatDoorRows
import Derived.ProofKit
import Derived.Test.YtldkgbnmaefaaaaGreatDoorFuG9
import Derived.JoinedCond
set_option maxRecDepth 100000
set_option maxHeartbeats 4000000
namespace Go.Proofs.YtldkgbnmaefaaaaGreatDoor.Fu
open Go.ChangeShapes Go.WideShapes Go.ChangeAt Go.RowKit
namespace EA
theorem qkg:(Rows.functionEachRow.inPlace==Tryz.prog.inPlace 4)=true:=by kernel_rfl
theorem qh8:(Rows.functionEachRow.unfollowed==Tryz.prog.unfollowed 4)=true:=by kernel_rfl
theorem qs7:(Rows.functionEachRow.recurses==Tryz.prog.recurses 4)=true:=by kernel_rfl
theorem qkf:(Rows.functionEachRow.named==Tryz.prog.varsNamed 4)=true:=by kernel_rfl
theorem closed:joinedFacts Tryz.prog 4 Tryz.f4 (OpenSpec.ofChange Rows.functionEachSpec).bare Rows.functionEachRow=true:=by
 simp only[joinedFacts,Bool.and_eq_true]
 repeat' refine And.intro ?_ ?_
 ·kernel_rfl
 ·exact qke
 ·exact qo9
 ·kernel_rfl
 ·kernel_rfl
 ·kernel_rfl
 ·kernel_rfl
 ·kernel_rfl
 ·kernel_rfl
 ·exact qkg
 ·exact qh8
 ·exact qs7
 ·exact qkf
 ·kernel_rfl
 ·kernel_rfl
 ·kernel_rfl
 ·kernel_rfl
 ·kernel_rfl
 ·kernel_rfl
 ·kernel_rfl
 ·kernel_rfl
 ·kernel_rfl
 ·exact qs5
 ·kernel_rfl
 ·exact qo8
 ·exact qo7
 ·exact qmf
 ·exact qs6
 ·kernel_rfl
 ·kernel_rfl
 ·kernel_rfl
 ·kernel_rfl
end EA
end Go.Proofs.YtldkgbnmaefaaaaGreatDoor.Fu
