/-
  The tables that the rows list, as the walks read them: the tags, and that the library's variable holds some number.
-/
import Derived.Test.YtdojbnngdlmbgaaGreatDoorTkAngle
import Derived.Test.YtdojbnngdlmbgaaGreatDoorRows
import Derived.RangeFuncOwn
import Derived.Lib.LaidTab
import Derived.Shelf.LaysM
import Derived.OpenShut
namespace Go.Proofs.YtdojbnngdlmbgaaGreatDoor.Tk
open Go.RowKit

section
variable {H : Type} {enc : TypeId × Value → H} {w : World} {base : Nat} {sp : Nat → Bool} {held : Bool} {fuel : Nat}
set_option maxRecDepth 100000 in
theorem elem_cells {cs : List Value} {n : Int} {a b : List UInt8} {p : List MemPlace}
    (h : DataW.trod enc Tryz.prog w base sp held fuel 120 cs = some (.agg [.lit (.int .i64 n), .lit (.string a), .lit (.string b)], p)) :
    cs = [.int .i64 n, .string ⟨a.toArray⟩, .string ⟨b.toArray⟩] := by
  obtain ⟨ys, m, rfl, hy, hl, hyl, hf⟩ := DataW.trod_struct Tryz.underlying120 h
  have hc : Tryz.prog.cellsOf 120 = 3 := by kernel_rfl
  have c1 : Tryz.prog.cellsOf 3 = 1 := by kernel_rfl
  have c2 : Tryz.prog.cellsOf 9 = 1 := by kernel_rfl
  rw [hc] at hl
  match cs, hl with
  | [x0, x1, x2], _ =>
    match ys, hyl with
    | [y0, y1, y2], _ =>
      have e0 : DataW.trod enc Tryz.prog w base sp held m 3 (([x0, x1, x2].drop 0).take (Tryz.prog.cellsOf 3)) = some y0 := hf 0 _ rfl
      have e1 : DataW.trod enc Tryz.prog w base sp held m 9 (([x0, x1, x2].drop 1).take (Tryz.prog.cellsOf 9)) = some y1 := hf 1 _ rfl
      have e2 : DataW.trod enc Tryz.prog w base sp held m 9 (([x0, x1, x2].drop 2).take (Tryz.prog.cellsOf 9)) = some y2 := hf 2 _ rfl
      rw [c1] at e0
      rw [c2] at e1 e2
      simp only [List.map_cons, List.map_nil, Prod.mk.injEq, DataW.agg.injEq, List.cons.injEq, and_true] at hy
      obtain ⟨⟨h0, h1, h2⟩, _⟩ := hy
      obtain ⟨n0, q0, z0, _⟩ := DataW.trod_int Tryz.underlying3 e0
      obtain ⟨n1, q1, z1, _⟩ := DataW.trod_string Tryz.underlying9 e1
      obtain ⟨n2, q2, z2, _⟩ := DataW.trod_string Tryz.underlying9 e2
      subst z0 z1 z2
      simp at h0 h1 h2 q0 q1 q2
      subst q0 q1 q2 h0
      simp [h1, h2]
set_option maxRecDepth 100000 in
theorem tags_cells {cs : List Value} {p : List MemPlace} (h : DataW.trod enc Tryz.prog w base sp held fuel 121 cs = some (Rows.laid_transclude_token_tags, p)) : cs = tagCells.toList := by
  obtain ⟨xs, m, rfl, hx, hl, hn, hi⟩ := DataW.trod_array Tryz.underlying121 h
  have hc : Tryz.prog.cellsOf 121 = 9 := by kernel_rfl
  have hc3 : Tryz.prog.cellsOf 120 = 3 := by kernel_rfl
  rw [hc] at hl
  match cs, hl with
  | [a0, a1, a2, b0, b1, b2, c0, c1, c2], _ =>
    match xs, hn with
    | [y0, y1, y2], _ =>
      have e0 := hi 0 (by omega)
      have e1 := hi 1 (by omega)
      have e2 := hi 2 (by omega)
      rw [hc3] at e0 e1 e2
      simp only [Rows.laid_transclude_token_tags, List.map_cons, List.map_nil, Prod.mk.injEq, DataW.agg.injEq, List.cons.injEq, and_true] at hx
      obtain ⟨⟨h0, h1, h2⟩, _⟩ := hx
      obtain ⟨y0, p0⟩ := y0
      obtain ⟨y1, p1⟩ := y1
      obtain ⟨y2, p2⟩ := y2
      simp only at h0 h1 h2
      subst h0 h1 h2
      have r0 := elem_cells e0
      have r1 := elem_cells e1
      have r2 := elem_cells e2
      simp at r0 r1 r2
      simp [tagCells, r0, r1, r2]
end

theorem lt_of_cell {w : World} {a : Addr} {v : Value} (h : w.cell? a = some v) : a.block < w.heap.size := by
  obtain ⟨o, ho, _⟩ := cells_of_cell h
  exact (Array.getElem?_eq_some_iff.1 ho).1
theorem gTags : Tryz.prog.globalNamed "transclude/token.tags" = some 0 := by kernel_rfl
theorem gTagsType : (Tryz.prog.globals[0]?).map (·.type) = some 121 := by kernel_rfl
theorem heap_of_var {P : Program} {w : World} {n : String} {g : Nat} {cs : Array Value} (hg : P.globalNamed n = some g) (h : w.var? P n = some cs) : ∃ t fr, w.heap[g]? = some (.cells cs t fr) := by
  simp only [World.var?, hg, Option.bind_some] at h
  split at h
  · rename_i cs' t fr hh
    obtain rfl := Option.some.inj h
    exact ⟨t, fr, hh⟩
  · cases h
/-- What the rows' list gives, and what the world's shape gives. -/
theorem tb_of {W : World} (h : laidMet Tryz.prog [("unicode/utf8.acceptRanges", Rows.laid_unicode_utf8_acceptRanges), ("transclude/token.tags", Rows.laid_transclude_token_tags), ("unicode/utf8.first", Rows.laid_unicode_utf8_first)] W) (hs : W.ShapedOpen Tryz.prog) : Tb W := by
  obtain ⟨ps, ⟨_, _, _, _, _, _, _, _, _, _, ⟨g, t, cs, fuel, p, q, hg, ht, hvar, hd, _, _⟩, _⟩, _⟩ := h
  obtain rfl := Option.some.inj (gTags.symm.trans hg)
  obtain rfl := Option.some.inj (gTagsType.symm.trans ht)
  have hcs : cs = tagCells := Array.ext' (tags_cells hd)
  subst hcs
  have htg := heap_of_var gTags hvar
  have hm : ∃ m : Int, W.cell? ⟨1, 0, none⟩ = some (.int .i64 m) :=
    Go.Proofs.cell_of_shapedOpen_int (zero := #[.int .i64 0]) (t := 3) hs (of_decide_eq_true (by kernel_rfl)) (by kernel_rfl) rfl (by kernel_rfl) (by kernel_rfl) Tryz.underlying3
  refine ⟨hm, htg, ?_, ?_⟩
  · obtain ⟨m, hm⟩ := hm; exact lt_of_cell hm
  · obtain ⟨t, fr, hh⟩ := htg; exact (Array.getElem?_eq_some_iff.1 hh).1

/-- The cells of a table, as data. -/
def cellOf : DataW Unit → Value
  | .lit (.int k n) => .int k n
  | .lit (.string s) => .string ⟨s.toArray⟩
  | _ => .bool false
def cells1 : DataW Unit → List Value
  | .agg ds => ds.map cellOf
  | _ => []
def cells2 : DataW Unit → List Value
  | .agg ds => ds.flatMap cells1
  | _ => []
def fill (cs : List Value) : Obj → Obj
  | .cells _ t frozen => .cells cs.toArray t frozen
  | o => o
/-- A world for the witness: the settled one, the listed tables holding what their initialisers lay. -/
noncomputable def laidWorld (os : Os) : World :=
  { World.holding Tryz.prog os ⟨#[], #[], []⟩ with heap := (((World.holding Tryz.prog os ⟨#[], #[], []⟩).heap.modify 0 (fill (cells2 Rows.laid_transclude_token_tags))).modify 2 (fill (cells1 Rows.laid_unicode_utf8_first))).modify 3 (fill (cells2 Rows.laid_unicode_utf8_acceptRanges)) }
theorem own : ownKnob Tryz.prog.godebug = none := by kernel_rfl
end Go.Proofs.YtdojbnngdlmbgaaGreatDoor.Tk
