import Derived.Test.YtldkgbnmaefaaaaGreatDoorChecked
import Derived.Test.YtldkgbnmaefaaaaGreatDoorRows
import Derived.ProofKit
import Derived.Test.YtldkgbnmaefaaaaGreatDoorFuG16
import Derived.JoinedCond
set_option maxRecDepth 100000
set_option maxHeartbeats 4000000
namespace Go.Proofs.YtldkgbnmaefaaaaGreatDoor.Fu
open Go.ChangeShapes Go.WideShapes Go.ChangeAt Go.RowKit
namespace TR
theorem qel:(Rows.functionTrimsRow.inPlace==Tryz.prog.inPlace 6)=true:=by kernel_rfl
theorem qdq:(Rows.functionTrimsRow.unfollowed==Tryz.prog.unfollowed 6)=true:=by kernel_rfl
theorem qi7:(Rows.functionTrimsRow.recurses==Tryz.prog.recurses 6)=true:=by kernel_rfl
theorem qek:(Rows.functionTrimsRow.named==Tryz.prog.varsNamed 6)=true:=by kernel_rfl
theorem closed:joinedFacts Tryz.prog 6 Tryz.f6 (OpenSpec.ofChange Rows.functionTrimsSpec).bare Rows.functionTrimsRow=true:=by
 simp only[joinedFacts,Bool.and_eq_true]
 repeat' refine And.intro ?_ ?_
 ·kernel_rfl
 ·exact qho
 ·exact qii
 ·kernel_rfl
 ·kernel_rfl
 ·kernel_rfl
 ·kernel_rfl
 ·kernel_rfl
 ·kernel_rfl
 ·exact qel
 ·exact qdq
 ·exact qi7
 ·exact qek
 ·kernel_rfl
 ·kernel_rfl
 ·kernel_rfl
 ·kernel_rfl
 ·kernel_rfl
 ·kernel_rfl
 ·kernel_rfl
 ·kernel_rfl
 ·kernel_rfl
 ·exact qlk
 ·kernel_rfl
 ·exact qih
 ·exact qig
 ·exact qgq
 ·exact qll
 ·kernel_rfl
 ·kernel_rfl
 ·kernel_rfl
 ·kernel_rfl
end TR
end Go.Proofs.YtldkgbnmaefaaaaGreatDoor.Fu
