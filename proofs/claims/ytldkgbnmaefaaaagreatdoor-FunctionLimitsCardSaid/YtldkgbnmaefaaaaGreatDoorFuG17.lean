import Derived.Test.YtldkgbnmaefaaaaGreatDoorChecked
import Derived.Test.YtldkgbnmaefaaaaGreatDoorRows
import Derived.ProofKit
import Derived.Test.YtldkgbnmaefaaaaGreatDoorFuG16
import Derived.JoinedCond
set_option maxRecDepth 100000
set_option maxHeartbeats 4000000
namespace Go.Proofs.YtldkgbnmaefaaaaGreatDoor.Fu
open Go.ChangeShapes Go.WideShapes Go.ChangeAt Go.RowKit
namespace LI
theorem qel:(Rows.functionLimitsRow.inPlace==Tryz.prog.inPlace 8)=true:=by kernel_rfl
theorem qdq:(Rows.functionLimitsRow.unfollowed==Tryz.prog.unfollowed 8)=true:=by kernel_rfl
theorem qi7:(Rows.functionLimitsRow.recurses==Tryz.prog.recurses 8)=true:=by kernel_rfl
theorem qek:(Rows.functionLimitsRow.named==Tryz.prog.varsNamed 8)=true:=by kernel_rfl
theorem closed:joinedFacts Tryz.prog 8 Tryz.f8 (OpenSpec.ofChange Rows.functionLimitsSpec).bare Rows.functionLimitsRow=true:=by
 simp only[joinedFacts,Bool.and_eq_true]
 repeat' refine And.intro ?_ ?_
 ·kernel_rfl
 ·exact qho
 ·exact qii
 ·kernel_rfl
 ·kernel_rfl
 ·kernel_rfl
 ·kernel_rfl
 ·kernel_rfl
 ·kernel_rfl
 ·exact qel
 ·exact qdq
 ·exact qi7
 ·exact qek
 ·kernel_rfl
 ·kernel_rfl
 ·kernel_rfl
 ·kernel_rfl
 ·kernel_rfl
 ·kernel_rfl
 ·kernel_rfl
 ·kernel_rfl
 ·kernel_rfl
 ·exact qlk
 ·kernel_rfl
 ·exact qih
 ·exact qig
 ·exact qgq
 ·exact qll
 ·kernel_rfl
 ·kernel_rfl
 ·kernel_rfl
 ·kernel_rfl
end LI
end Go.Proofs.YtldkgbnmaefaaaaGreatDoor.Fu
