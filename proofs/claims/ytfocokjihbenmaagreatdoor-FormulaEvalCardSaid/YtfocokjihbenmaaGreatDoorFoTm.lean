/-
  The tables that the rows list, as the walks read them, and a world for the witness.
-/
import Derived.Test.YtfocokjihbenmaaGreatDoorNuMo
import Derived.Test.YtfocokjihbenmaaGreatDoorRows
import Derived.RangeFuncOwn
import Derived.Lib.LaidTab
import Derived.Shelf.LaysM
import Derived.OpenShut
namespace Go.Proofs.YtfocokjihbenmaaGreatDoor.Fo
open Go.RowKit

abbrev Tb (w : World) : Prop := Nu.Tb w
/-- What the world's shape gives. -/
theorem tb_of {W : World} {l : List (String × DataW Unit)} (_h : laidMet Tryz.prog l W) (hs : W.ShapedOpen Tryz.prog) : Tb W :=
  ⟨Go.Proofs.cell_of_shapedOpen_int (zero := #[.int .i64 0]) (t := 3) hs (of_decide_eq_true (by kernel_rfl)) (by kernel_rfl) rfl (by kernel_rfl) (by kernel_rfl) Tryz.underlying3⟩
/-- The cells of a table, as data. -/
def cellOf : DataW Unit → Value
  | .lit (.int k n) => .int k n
  | .lit (.string s) => .string ⟨s.toArray⟩
  | _ => .bool false
def cells1 : DataW Unit → List Value
  | .agg ds => ds.map cellOf
  | _ => []
def cells2 : DataW Unit → List Value
  | .agg ds => ds.flatMap cells1
  | _ => []
def fill (cs : List Value) : Obj → Obj
  | .cells _ t frozen => .cells cs.toArray t frozen
  | o => o
/-- A world for the witness: the settled one, the listed tables holding what their initialisers lay. -/
noncomputable def laidWorld (os : Os) : World :=
  { World.holding Tryz.prog os ⟨#[], #[], []⟩ with heap := ((World.holding Tryz.prog os ⟨#[], #[], []⟩).heap.modify 0 (fill (cells1 Rows.laid_unicode_utf8_first))).modify 1 (fill (cells2 Rows.laid_unicode_utf8_acceptRanges)) }
theorem own : ownKnob Tryz.prog.godebug = none := by kernel_rfl
end Go.Proofs.YtfocokjihbenmaaGreatDoor.Fo
