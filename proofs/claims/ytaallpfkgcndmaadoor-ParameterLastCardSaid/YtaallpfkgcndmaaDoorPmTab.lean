/-
  The tables that the rows list, and a world for the witness. (The walks read none of them.)
-/
import Derived.Test.YtaallpfkgcndmaaDoorPmKnown
import Derived.Test.YtaallpfkgcndmaaDoorRows
import Derived.RangeFuncOwn
import Derived.Lib.LaidTab
import Derived.Shelf.LaysM
import Derived.OpenShut
namespace Go.Proofs.YtaallpfkgcndmaaDoor.Pm
open Go.RowKit

def Tb (_w : World) : Prop := True
theorem tb_of {W : World} {l : List (String × DataW Unit)} (_h : laidMet Tryd.prog l W) (_hs : W.ShapedOpen Tryd.prog) : Tb W := trivial
/-- The cells of a table, as data. -/
def cellOf : DataW Unit → Value
  | .lit (.int k n) => .int k n
  | .lit (.string s) => .string ⟨s.toArray⟩
  | _ => .bool false
def cells1 : DataW Unit → List Value
  | .agg ds => ds.map cellOf
  | _ => []
def cells2 : DataW Unit → List Value
  | .agg ds => ds.flatMap cells1
  | _ => []
def fill (cs : List Value) : Obj → Obj
  | .cells _ t frozen => .cells cs.toArray t frozen
  | o => o
/-- A world for the witness: the settled one, the listed tables holding what their initialisers lay. -/
noncomputable def laidWorld (os : Os) : World :=
  { World.holding Tryd.prog os ⟨#[], #[], []⟩ with heap := (((((World.holding Tryd.prog os ⟨#[], #[], []⟩).heap.modify 1 (fill (cells1 Rows.laid_unicode_utf8_first))).modify 2 (fill (cells2 Rows.laid_unicode_utf8_acceptRanges))).modify 4 (fill (cells1 Rows.laid_math_bits_deBruijn32tab))).modify 5 (fill (cells1 Rows.laid_math_bits_deBruijn64tab))).modify 0 (fill (cells1 Rows.laid_internal_strconv_uint64pow10)) }
theorem own : ownKnob Tryd.prog.godebug = none := by kernel_rfl
end Go.Proofs.YtaallpfkgcndmaaDoor.Pm
