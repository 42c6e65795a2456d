import Derived.Test.YtldkgbnmaefaaaaGreatDoorChecked
import Derived.Test.YtldkgbnmaefaaaaGreatDoorRows
import Derived.ProofKit
import Derived.Test.YtldkgbnmaefaaaaGreatDoorFuG16
import Derived.JoinedCond
set_option maxRecDepth 100000
set_option maxHeartbeats 4000000
namespace Go.Proofs.YtldkgbnmaefaaaaGreatDoor.Fu
open Go.ChangeShapes Go.WideShapes Go.ChangeAt Go.RowKit
namespace BU
theorem qel:(Rows.functionBuiltRow.inPlace==Tryz.prog.inPlace 5)=true:=by kernel_rfl
theorem qdq:(Rows.functionBuiltRow.unfollowed==Tryz.prog.unfollowed 5)=true:=by kernel_rfl
theorem qi7:(Rows.functionBuiltRow.recurses==Tryz.prog.recurses 5)=true:=by kernel_rfl
theorem qek:(Rows.functionBuiltRow.named==Tryz.prog.varsNamed 5)=true:=by kernel_rfl
theorem closed:joinedFacts Tryz.prog 5 Tryz.f5 (OpenSpec.ofChange Rows.functionBuiltSpec).bare Rows.functionBuiltRow=true:=by
 simp only[joinedFacts,Bool.and_eq_true]
 repeat' refine And.intro ?_ ?_
 ·kernel_rfl
 ·exact qho
 ·exact qii
 ·kernel_rfl
 ·kernel_rfl
 ·kernel_rfl
 ·kernel_rfl
 ·kernel_rfl
 ·kernel_rfl
 ·exact qel
 ·exact qdq
 ·exact qi7
 ·exact qek
 ·kernel_rfl
 ·kernel_rfl
 ·kernel_rfl
 ·kernel_rfl
 ·kernel_rfl
 ·kernel_rfl
 ·kernel_rfl
 ·kernel_rfl
 ·kernel_rfl
 ·exact qlk
 ·kernel_rfl
 ·exact qih
 ·exact qig
 ·exact qgq
 ·exact qll
 ·kernel_rfl
 ·kernel_rfl
 ·kernel_rfl
 ·kernel_rfl
end BU
end Go.Proofs.YtldkgbnmaefaaaaGreatDoor.Fu
