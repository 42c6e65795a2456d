/-
  The contract of form of the reference of chapter 6.
-/
import Derived.Test.YtfocokjihbenmaaDoorNuFit
namespace Go.Proofs.YtfocokjihbenmaaDoor.Nu
open Go.RowKit

theorem gc_abs2 (n d : Int) : gc (n.natAbs : Int) d = gc n d := by unfold gc Int.gcd; rw [Int.natAbs_natCast]
theorem gc_abs3 (n d : Int) : gc ((-n).natAbs : Int) (-d) = gc n d := by rw [gc_abs2, gc_neg]
theorem gc_abs4 (n d : Int) : gc (n.natAbs : Int) (-d) = gc n d := by rw [gc_abs2]; unfold gc; simp
end Go.Proofs.YtfocokjihbenmaaDoor.Nu
