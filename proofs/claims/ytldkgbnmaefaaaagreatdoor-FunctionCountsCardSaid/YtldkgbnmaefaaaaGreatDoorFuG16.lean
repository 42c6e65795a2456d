import Derived.Test.YtldkgbnmaefaaaaGreatDoorChecked
import Derived.Test.YtldkgbnmaefaaaaGreatDoorRows
import Derived.ProofKit
set_option maxRecDepth 100000
set_option maxHeartbeats 4000000
namespace Go.Proofs.YtldkgbnmaefaaaaGreatDoor.Fu
open Go.ChangeShapes Go.WideShapes Go.ChangeAt Go.RowKit
theorem qho:laidOutB Tryz.prog=true:=by kernel_rfl
theorem qii:mapsRowed Tryz.prog=true:=by kernel_rfl
theorem qlk:(Rows.functionCallRow.plainKeys==Tryz.prog.plainKeys)=true:=by kernel_rfl
theorem qih:Tryz.prog.stopsHeard=true:=by kernel_rfl
theorem qig:Tryz.prog.mayEnter=true:=by kernel_rfl
theorem qgq:(Rows.functionCallRow.lifted==Tryz.prog.liftsFinal)=true:=by kernel_rfl
theorem qll:(Tryz.prog.make==some Rows.functionCallRow.make)=true:=by kernel_rfl
end Go.Proofs.YtldkgbnmaefaaaaGreatDoor.Fu
