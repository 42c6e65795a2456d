/-
  The values of nested parentheses.
-/
import Derived.Test.YtfocokjihbenmaaDoorFoEval
namespace Go.Proofs.YtfocokjihbenmaaDoor.Fo
open Go.RowKit Go.Proofs.YtfocokjihbenmaaDoor.Nu
set_option linter.unusedVariables false

def lvT (n : Nat) : List UInt8 := List.replicate n 40 ++ [55] ++ List.replicate n 41
def lvOk (n : Nat) : Bool := let r := ev (lvT n); if 20 ≤ n then decide (r.n = 0 ∧ r.d = 0 ∧ r.e = 17) else decide (r.n = 7 ∧ r.d = 1 ∧ r.e = 0)
theorem lv_all_ok : (List.range 32).all lvOk = true := by kernel_rfl
end Go.Proofs.YtfocokjihbenmaaDoor.Fo
