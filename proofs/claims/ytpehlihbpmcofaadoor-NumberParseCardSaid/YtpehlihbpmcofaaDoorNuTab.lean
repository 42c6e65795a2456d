/-
  The tables that the rows list, as the walks read them, and a world for the witness.
-/
import Derived.Test.YtpehlihbpmcofaaDoorNuDec
import Derived.Test.YtpehlihbpmcofaaDoorRows
import Derived.RangeFuncOwn
import Derived.Lib.LaidTab
import Derived.Shelf.LaysM
import Derived.OpenShut
namespace Go.Proofs.YtpehlihbpmcofaaDoor.Nu
open Go.RowKit

theorem gPow : Tryd.prog.globalNamed "internal/strconv.uint64pow10" = some 1 := by kernel_rfl
theorem gPowType : (Tryd.prog.globals[1]?).map (·.type) = some 77 := by kernel_rfl
theorem cellsPow : Tryd.prog.cellsOf 77 = 20 := by kernel_rfl
theorem cellsU64 : Tryd.prog.cellsOf 68 = 1 := by kernel_rfl
theorem laid_pow : (Rows.laid_internal_strconv_uint64pow10 : DataW Unit) = Lib.tabData .u64 Lib.pow10Tab := by rfl
/-- What the rows' list gives, and what the world's shape gives. -/
theorem tb_of {W : World} (h : laidMet Tryd.prog [("math/bits.deBruijn32tab", Rows.laid_math_bits_deBruijn32tab), ("math/bits.deBruijn64tab", Rows.laid_math_bits_deBruijn64tab), ("internal/strconv.uint64pow10", Rows.laid_internal_strconv_uint64pow10)] W) (hs : W.ShapedOpen Tryd.prog) : Tb W := by
  obtain ⟨ps, ⟨_, _, _, _, _, _, _, _, _, _, ⟨_, _, _, _, _, _, _, _, _, _, ⟨g, t, cs, fuel, p, q, hg, ht, hvar, hd, _, _⟩, _⟩, _⟩, _⟩ := h
  obtain rfl := Option.some.inj (gPow.symm.trans hg)
  obtain rfl := Option.some.inj (gPowType.symm.trans ht)
  rw [laid_pow] at hd
  have hcs := Lib.cells_of_tab Tryd.underlying77 Tryd.underlying68 cellsU64 cellsPow hd
  refine ⟨?_, ?_⟩
  · unfold Lib.TabIs
    rw [hvar]
    congr 1
    exact Array.ext' (by rw [hcs])
  · exact Go.Proofs.cell_of_shapedOpen_int (zero := #[.int .i64 0]) (t := 3) hs (of_decide_eq_true (by kernel_rfl)) (by kernel_rfl) rfl (by kernel_rfl) (by kernel_rfl) Tryd.underlying3

/-- The cells of a table, as data. -/
def cellOf : DataW Unit → Value
  | .lit (.int k n) => .int k n
  | .lit (.string s) => .string ⟨s.toArray⟩
  | _ => .bool false
def cells1 : DataW Unit → List Value
  | .agg ds => ds.map cellOf
  | _ => []
def fill (cs : List Value) : Obj → Obj
  | .cells _ t frozen => .cells cs.toArray t frozen
  | o => o
/-- A world for the witness: the settled one, the listed tables holding what their initialisers lay. -/
noncomputable def laidWorld (os : Os) : World :=
  { World.holding Tryd.prog os ⟨#[], #[], []⟩ with heap := (((World.holding Tryd.prog os ⟨#[], #[], []⟩).heap.modify 2 (fill (cells1 Rows.laid_math_bits_deBruijn32tab))).modify 3 (fill (cells1 Rows.laid_math_bits_deBruijn64tab))).modify 1 (fill (cells1 Rows.laid_internal_strconv_uint64pow10)) }
theorem own : ownKnob Tryd.prog.godebug = none := by kernel_rfl
end Go.Proofs.YtpehlihbpmcofaaDoor.Nu
