import Derived.Test.YtldkgbnmaefaaaaGreatDoorChecked
import Derived.Test.YtldkgbnmaefaaaaGreatDoorRows
import Derived.ProofKit
import Derived.Test.YtldkgbnmaefaaaaGreatDoorFuG9
import Derived.JoinedCond
set_option maxRecDepth 100000
set_option maxHeartbeats 4000000
namespace Go.Proofs.YtldkgbnmaefaaaaGreatDoor.Fu
open Go.ChangeShapes Go.WideShapes Go.ChangeAt Go.RowKit
namespace CA
theorem qkg:(Rows.functionCallRow.inPlace==Tryz.prog.inPlace 3)=true:=by kernel_rfl
theorem qh8:(Rows.functionCallRow.unfollowed==Tryz.prog.unfollowed 3)=true:=by kernel_rfl
theorem qs7:(Rows.functionCallRow.recurses==Tryz.prog.recurses 3)=true:=by kernel_rfl
theorem qkf:(Rows.functionCallRow.named==Tryz.prog.varsNamed 3)=true:=by kernel_rfl
theorem closed:joinedFacts Tryz.prog 3 Tryz.f3 (OpenSpec.ofChange Rows.functionCallSpec).bare Rows.functionCallRow=true:=by
 simp only[joinedFacts,Bool.and_eq_true]
 repeat' refine And.intro ?_ ?_
 ·kernel_rfl
 ·exact qke
 ·exact qo9
 ·kernel_rfl
 ·kernel_rfl
 ·kernel_rfl
 ·kernel_rfl
 ·kernel_rfl
 ·kernel_rfl
 ·exact qkg
 ·exact qh8
 ·exact qs7
 ·exact qkf
 ·kernel_rfl
 ·kernel_rfl
 ·kernel_rfl
 ·kernel_rfl
 ·kernel_rfl
 ·kernel_rfl
 ·kernel_rfl
 ·kernel_rfl
 ·kernel_rfl
 ·exact qs5
 ·kernel_rfl
 ·exact qo8
 ·exact qo7
 ·exact qmf
 ·exact qs6
 ·kernel_rfl
 ·kernel_rfl
 ·kernel_rfl
 ·kernel_rfl
end CA
end Go.Proofs.YtldkgbnmaefaaaaGreatDoor.Fu
