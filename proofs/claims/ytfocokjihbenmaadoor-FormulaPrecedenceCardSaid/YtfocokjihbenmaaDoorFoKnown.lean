/-
  What the sanity check of the laws says, and the values of the texts of the law on logic.
-/
import Derived.Test.YtfocokjihbenmaaDoorFoEval
namespace Go.Proofs.YtfocokjihbenmaaDoor.Fo
open Go.RowKit Go.Proofs.YtfocokjihbenmaaDoor.Nu
set_option linter.unusedVariables false
set_option linter.unusedSimpArgs false

theorem ev_known : ev [50, 32, 43, 32, 51, 32, 42, 32, 52, 32, 61, 32, 49, 52] = ⟨1, 1, 0⟩ := by kernel_rfl
/-- The text of a small integer. -/
def dg (i : Int) : List UInt8 := if i < 0 then [40] ++ Lib.itoa i ++ [41] else Lib.itoa i
def e1 (x y : List UInt8) : List UInt8 := [110, 111, 116, 32, 40] ++ x ++ [32, 97, 110, 100, 32] ++ y ++ [41, 32, 61, 32, 40, 110, 111, 116, 32] ++ x ++ [32, 111, 114, 32, 110, 111, 116, 32] ++ y ++ [41]
def e2 (x y : List UInt8) : List UInt8 := [40] ++ x ++ [32, 60, 32] ++ y ++ [41, 32, 43, 32, 40] ++ x ++ [32, 61, 32] ++ y ++ [41, 32, 43, 32, 40] ++ x ++ [32, 62, 32] ++ y ++ [41]
def e3 (x y : List UInt8) : List UInt8 := [40] ++ x ++ [32, 60, 61, 32] ++ y ++ [41, 32, 60, 62, 32, 40] ++ x ++ [32, 62, 32] ++ y ++ [41]
def sm : List Int := [-2, -1, 0, 1, 2]
def isOne (r : R3) : Bool := decide (r.n = 1 ∧ r.d = 1 ∧ r.e = 0)
def allOk : Bool := sm.all fun i => sm.all fun j => isOne (ev (e1 (dg i) (dg j))) && isOne (ev (e2 (dg i) (dg j))) && isOne (ev (e3 (dg i) (dg j)))
theorem all_ok : allOk = true := by kernel_rfl
end Go.Proofs.YtfocokjihbenmaaDoor.Fo
