import Derived.Test.YtldkgbnmaefaaaaGreatDoorChecked
import Derived.Test.YtldkgbnmaefaaaaGreatDoorRows
import Derived.ProofKit
set_option maxRecDepth 100000
set_option maxHeartbeats 4000000
namespace Go.Proofs.YtldkgbnmaefaaaaGreatDoor.Fu
open Go.ChangeShapes Go.WideShapes Go.ChangeAt Go.RowKit
theorem qke:laidOutB Tryz.prog=true:=by kernel_rfl
theorem qo9:mapsRowed Tryz.prog=true:=by kernel_rfl
theorem qs5:(Rows.functionCallRow.plainKeys==Tryz.prog.plainKeys)=true:=by kernel_rfl
theorem qo8:Tryz.prog.stopsHeard=true:=by kernel_rfl
theorem qo7:Tryz.prog.mayEnter=true:=by kernel_rfl
theorem qmf:(Rows.functionCallRow.lifted==Tryz.prog.liftsFinal)=true:=by kernel_rfl
theorem qs6:(Tryz.prog.make==some Rows.functionCallRow.make)=true:=by kernel_rfl
end Go.Proofs.YtldkgbnmaefaaaaGreatDoor.Fu
