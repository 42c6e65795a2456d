/-
  The tables that the row lists, and a world for the witness. (The walks read none of them.)
-/
import Derived.Test.YtihhejeciagdpaaDoorSfCas2
import Derived.Test.YtihhejeciagdpaaDoorRows
import Derived.RangeFuncOwn
import Derived.Lib.LaidTab
import Derived.Shelf.LaysM
import Derived.OpenShut
namespace Go.Proofs.YtihhejeciagdpaaDoor.Sf
open Go.RowKit

def Tb (_w : World) : Prop := True
theorem tb_of {W : World} {l : List (String × DataW Unit)} (_h : laidMet Tryd.prog l W) (_hs : W.ShapedOpen Tryd.prog) : Tb W := trivial
/-- The cells of a table, as data. -/
def cellOf : DataW Unit → Value
  | .lit (.int k n) => .int k n
  | .lit (.string s) => .string ⟨s.toArray⟩
  | _ => .bool false
def cells1 : DataW Unit → List Value
  | .agg ds => ds.map cellOf
  | _ => []
def cells2 : DataW Unit → List Value
  | .agg ds => ds.flatMap cells1
  | _ => []
def fill (cs : List Value) : Obj → Obj
  | .cells _ t frozen => .cells cs.toArray t frozen
  | o => o
/-- A world for the witness: the settled one, the listed tables holding what their initialisers lay. -/
noncomputable def laidWorld (os : Os) : World :=
  { World.holding Tryd.prog os ⟨#[], #[], []⟩ with heap := ((World.holding Tryd.prog os ⟨#[], #[], []⟩).heap.modify 0 (fill (cells1 Rows.laid_unicode_utf8_first))).modify 1 (fill (cells2 Rows.laid_unicode_utf8_acceptRanges)) }
theorem own : ownKnob Tryd.prog.godebug = none := by kernel_rfl
end Go.Proofs.YtihhejeciagdpaaDoor.Sf
