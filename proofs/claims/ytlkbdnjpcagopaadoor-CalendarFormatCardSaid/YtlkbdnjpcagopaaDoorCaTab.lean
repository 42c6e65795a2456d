/-
  The tables that the rows list, as the walks read them, and a world for the witness.
-/
import Derived.Test.YtlkbdnjpcagopaaDoorCaLeaf
import Derived.Test.YtlkbdnjpcagopaaDoorRows
import Derived.RangeFuncOwn
import Derived.Lib.LaidTab
import Derived.Shelf.LaysM
import Derived.OpenShut
namespace Go.Proofs.YtlkbdnjpcagopaaDoor.Ca
open Go.RowKit

/-- An array of strings that reads as the list holds the list's strings, cell for cell. -/
theorem cells_of_strs {H : Type} {enc : TypeId × Value → H} {P : Program} {w : World} {base : Nat} {sp : Nat → Bool} {held : Bool} {fuel : Nat} {t e : TypeId} {n : Nat} {cs : List Value} {zs : List (List UInt8)} {p : List MemPlace}
    (ht : P.underlying t = some (.array n e)) (he : P.underlying e = some .string) (hce : P.cellsOf e = 1) (hct : P.cellsOf t = n)
    (h : DataW.trod enc P w base sp held fuel t cs = some (.agg (zs.map fun z => .lit (.string z)), p)) : cs = zs.map fun z => Value.string ⟨z.toArray⟩ := by
  obtain ⟨xs, m, _, hx, hl, hn, hi⟩ := DataW.trod_array ht h
  rw [hct] at hl
  have hxs : xs.map (·.1) = zs.map fun z => (DataW.lit (.string z) : DataW H) := by
    have := congrArg Prod.fst hx
    simpa using this.symm
  have hzl : zs.length = n := by
    have := congrArg List.length hxs
    simp at this
    omega
  apply List.ext_getElem?
  intro i
  by_cases hin : i < n
  · have h0 := hi i hin
    rw [hce, Nat.mul_one] at h0
    have hxi : i < xs.length := by omega
    rw [List.getElem?_eq_getElem hxi] at h0
    obtain ⟨s, hc, hz, _⟩ := DataW.trod_string he h0
    have h1 : cs[i]? = some (.string s) := by
      have := congrArg (·[0]?) hc
      simpa [List.getElem?_take, List.getElem?_drop] using this
    have h2 : (xs.map (·.1))[i]? = some (DataW.lit (.string s.data.toList) : DataW H) := by
      rw [List.getElem?_map, List.getElem?_eq_getElem hxi, hz]; rfl
    rw [hxs] at h2
    simp only [List.getElem?_map, Option.map_eq_some_iff, DataW.lit.injEq, Lit.string.injEq] at h2
    obtain ⟨z', hz', hzz⟩ := h2
    rw [h1, List.getElem?_map, hz']
    simp [hzz]
  · rw [List.getElem?_eq_none (by omega), List.getElem?_eq_none (by simp; omega)]
theorem heap_of_var {P : Program} {w : World} {n : String} {g : Nat} {cs : Array Value} (hg : P.globalNamed n = some g) (h : w.var? P n = some cs) : ∃ t fr, w.heap[g]? = some (.cells cs t fr) := by
  simp only [World.var?, hg, Option.bind_some] at h
  split at h
  · rename_i cs' t fr hh
    obtain rfl := Option.some.inj h
    exact ⟨t, fr, hh⟩
  · cases h
theorem cell_of {P : Program} {w : World} {n : String} {g : Nat} {cs : Array Value} (hg : P.globalNamed n = some g) (h : w.var? P n = some cs) {i : Nat} {v : Value} (hv : cs[i]? = some v) : w.cell? ⟨g, i, none⟩ = some v := by
  obtain ⟨t, fr, hh⟩ := heap_of_var hg h
  simp [World.cell?, hh, hv]
def mds : List Int := [31, 28, 31, 30, 31, 30, 31, 31, 30, 31, 30, 31]
def mns : List (List UInt8) := [mname 1, mname 2, mname 3, mname 4, mname 5, mname 6, mname 7, mname 8, mname 9, mname 10, mname 11, mname 12]
def wns : List (List UInt8) := [wname 1, wname 2, wname 3, wname 4, wname 5, wname 6, wname 7]
theorem laid_pow : (Rows.laid_internal_strconv_uint64pow10 : DataW Unit) = Lib.tabData .u64 Lib.pow10Tab := by rfl
theorem laid_md : (Rows.laid_transclude_calendar_monthDays : DataW Unit) = Lib.tabData .i64 mds := by rfl
theorem laid_mn : (Rows.laid_transclude_calendar_monthNames : DataW Unit) = .agg (mns.map fun z => .lit (.string z)) := by rfl
theorem laid_wn : (Rows.laid_transclude_calendar_dayNames : DataW Unit) = .agg (wns.map fun z => .lit (.string z)) := by rfl
theorem gPow : Tryd.prog.globalNamed "internal/strconv.uint64pow10" = some 3 := by kernel_rfl
theorem gPowType : (Tryd.prog.globals[3]?).map (·.type) = some 86 := by kernel_rfl
theorem gMd : Tryd.prog.globalNamed "transclude/calendar.monthDays" = some 0 := by kernel_rfl
theorem gMdType : (Tryd.prog.globals[0]?).map (·.type) = some 69 := by kernel_rfl
theorem gMn : Tryd.prog.globalNamed "transclude/calendar.monthNames" = some 1 := by kernel_rfl
theorem gMnType : (Tryd.prog.globals[1]?).map (·.type) = some 72 := by kernel_rfl
theorem gWn : Tryd.prog.globalNamed "transclude/calendar.dayNames" = some 2 := by kernel_rfl
theorem gWnType : (Tryd.prog.globals[2]?).map (·.type) = some 73 := by kernel_rfl
theorem cU64 : Tryd.prog.cellsOf 80 = 1 := by kernel_rfl
theorem cInt : Tryd.prog.cellsOf 3 = 1 := by kernel_rfl
theorem cStr : Tryd.prog.cellsOf 9 = 1 := by kernel_rfl
theorem cPow : Tryd.prog.cellsOf 86 = 20 := by kernel_rfl
theorem cMd : Tryd.prog.cellsOf 69 = 12 := by kernel_rfl
theorem cMn : Tryd.prog.cellsOf 72 = 12 := by kernel_rfl
theorem cWn : Tryd.prog.cellsOf 73 = 7 := by kernel_rfl
/-- What the rows' list gives. -/
theorem tb_of {W : World} (h : laidMet Tryd.prog [("math/bits.deBruijn32tab", Rows.laid_math_bits_deBruijn32tab), ("math/bits.deBruijn64tab", Rows.laid_math_bits_deBruijn64tab), ("internal/strconv.uint64pow10", Rows.laid_internal_strconv_uint64pow10), ("transclude/calendar.monthDays", Rows.laid_transclude_calendar_monthDays), ("transclude/calendar.monthNames", Rows.laid_transclude_calendar_monthNames), ("transclude/calendar.dayNames", Rows.laid_transclude_calendar_dayNames)] W) (_hs : W.ShapedOpen Tryd.prog) : Tb W := by
  obtain ⟨ps, ⟨_, _, _, _, _, _, _, _, _, _, ⟨_, _, _, _, _, _, _, _, _, _, ⟨g, t, cs, fuel, p, q, hg, ht, hvar, hd, ⟨g1, t1, cs1, fuel1, p1, q1, hg1, ht1, hvar1, hd1, ⟨g2, t2, cs2, fuel2, p2, q2, hg2, ht2, hvar2, hd2, ⟨g3, t3, cs3, fuel3, p3, q3, hg3, ht3, hvar3, hd3, _, _⟩, _⟩, _⟩, _⟩, _⟩, _⟩, _⟩ := h
  obtain rfl := Option.some.inj (gPow.symm.trans hg)
  obtain rfl := Option.some.inj (gPowType.symm.trans ht)
  obtain rfl := Option.some.inj (gMd.symm.trans hg1)
  obtain rfl := Option.some.inj (gMdType.symm.trans ht1)
  obtain rfl := Option.some.inj (gMn.symm.trans hg2)
  obtain rfl := Option.some.inj (gMnType.symm.trans ht2)
  obtain rfl := Option.some.inj (gWn.symm.trans hg3)
  obtain rfl := Option.some.inj (gWnType.symm.trans ht3)
  rw [laid_pow] at hd
  rw [laid_md] at hd1
  rw [laid_mn] at hd2
  rw [laid_wn] at hd3
  have e0 := Lib.cells_of_tab Tryd.underlying86 Tryd.underlying80 cU64 cPow hd
  have e1 := Lib.cells_of_tab Tryd.underlying69 Tryd.underlying3 cInt cMd hd1
  have e2 := cells_of_strs Tryd.underlying72 Tryd.underlying9 cStr cMn hd2
  have e3 := cells_of_strs Tryd.underlying73 Tryd.underlying9 cStr cWn hd3
  refine ⟨?_, fun i hi => cell_of gMd hvar1 ?_, fun i hi => cell_of gMn hvar2 ?_, fun i hi => cell_of gWn hvar3 ?_⟩
  · unfold Lib.TabIs
    rw [hvar]
    congr 1
    exact Array.ext' (by rw [e0])
  · rw [← Array.getElem?_toList, e1]
    match i, hi with
    | 0, _ | 1, _ | 2, _ | 3, _ | 4, _ | 5, _ | 6, _ | 7, _ | 8, _ | 9, _ | 10, _ | 11, _ => rfl
    | n + 12, h => omega
  · rw [← Array.getElem?_toList, e2]
    match i, hi with
    | 0, _ | 1, _ | 2, _ | 3, _ | 4, _ | 5, _ | 6, _ | 7, _ | 8, _ | 9, _ | 10, _ | 11, _ => rfl
    | n + 12, h => omega
  · rw [← Array.getElem?_toList, e3]
    match i, hi with
    | 0, _ | 1, _ | 2, _ | 3, _ | 4, _ | 5, _ | 6, _ => rfl
    | n + 7, h => omega

/-- The cells of a table, as data. -/
def cellOf : DataW Unit → Value
  | .lit (.int k n) => .int k n
  | .lit (.string s) => .string ⟨s.toArray⟩
  | _ => .bool false
def cells1 : DataW Unit → List Value
  | .agg ds => ds.map cellOf
  | _ => []
def fill (cs : List Value) : Obj → Obj
  | .cells _ t frozen => .cells cs.toArray t frozen
  | o => o
/-- A world for the witness: the settled one, the listed tables holding what their initialisers lay. -/
noncomputable def laidWorld (os : Os) : World :=
  { World.holding Tryd.prog os ⟨#[], #[], []⟩ with heap := ((((((World.holding Tryd.prog os ⟨#[], #[], []⟩).heap.modify 4 (fill (cells1 Rows.laid_math_bits_deBruijn32tab))).modify 5 (fill (cells1 Rows.laid_math_bits_deBruijn64tab))).modify 3 (fill (cells1 Rows.laid_internal_strconv_uint64pow10))).modify 0 (fill (cells1 Rows.laid_transclude_calendar_monthDays))).modify 1 (fill (cells1 Rows.laid_transclude_calendar_monthNames))).modify 2 (fill (cells1 Rows.laid_transclude_calendar_dayNames)) }
theorem own : ownKnob Tryd.prog.godebug = none := by kernel_rfl
end Go.Proofs.YtlkbdnjpcagopaaDoor.Ca
