/-
  The tables that the rows list, as the walks read them: the names of the namespaces and of the rights, and that the library's variable holds some number.
-/
import Derived.Test.YtbibekojbjonoaaDoorPoMem
import Derived.Test.YtbibekojbjonoaaDoorRows
import Derived.RangeFuncOwn
import Derived.Lib.LaidTab
import Derived.Shelf.LaysM
import Derived.OpenShut
namespace Go.Proofs.YtbibekojbjonoaaDoor.Po
open Go.RowKit
set_option linter.unusedVariables false
set_option linter.unusedSimpArgs false

/-- An array of strings that reads as a list of strings holds them, cell for cell. -/
theorem cells_of_strs {H : Type} {enc : TypeId × Value → H} {P : Program} {w : World} {base : Nat} {sp : Nat → Bool} {held : Bool} {fuel : Nat} {t e : TypeId} {n : Nat} {cs : List Value} {zs : List (List UInt8)} {p : List MemPlace}
    (ht : P.underlying t = some (.array n e)) (he : P.underlying e = some .string) (hce : P.cellsOf e = 1) (hct : P.cellsOf t = n)
    (h : DataW.trod enc P w base sp held fuel t cs = some (.agg (zs.map fun z => .lit (.string z)), p)) (i : Nat) (z : List UInt8) (hz : zs[i]? = some z) : cs[i]? = some (.string ⟨z.toArray⟩) := by
  cases fuel with
  | zero => simp [DataW.trod] at h
  | succ fuel =>
    simp only [DataW.trod, ht, hce, hct, Nat.mul_one] at h
    split at h
    · rename_i hl
      obtain ⟨xs, hm, hx⟩ := Option.map_eq_some_iff.1 h
      have hxs : xs.map (·.1) = zs.map fun z => (DataW.lit (.string z) : DataW H) := by
        have := congrArg Prod.fst hx
        simpa using this
      have hxl : xs.length = n := by simpa using Lib.mapM_length hm
      have hzl : zs.length = n := by
        have := congrArg List.length hxs
        simp at this
        omega
      have hi : i < n := by rw [← hzl]; exact (List.getElem?_eq_some_iff.1 hz).1
      obtain ⟨b, hb, hf⟩ := Lib.mapM_at hm i i (by simp [hi])
      obtain ⟨s, hc, hs, _⟩ := DataW.trod_string he hf
      have h1 : cs[i]? = some (.string s) := by
        have := congrArg (·[0]?) hc
        simpa [List.getElem?_take, List.getElem?_drop] using this
      have h2 : (xs.map (·.1))[i]? = some (DataW.lit (.string s.data.toList) : DataW H) := by simp [hb, hs]
      rw [hxs] at h2
      simp only [List.getElem?_map, hz, Option.map_some, Option.some.injEq, DataW.lit.injEq, Lit.string.injEq] at h2
      rw [h1, h2]
    · cases h

theorem lt_of_cell {w : World} {a : Addr} {v : Value} (h : w.cell? a = some v) : a.block < w.heap.size := by
  obtain ⟨o, ho, _⟩ := cells_of_cell h
  exact (Array.getElem?_eq_some_iff.1 ho).1

/-- The same, the whole row. -/
theorem cells_all {H : Type} {enc : TypeId × Value → H} {P : Program} {w : World} {base : Nat} {sp : Nat → Bool} {held : Bool} {fuel : Nat} {t e : TypeId} {n : Nat} {cs : List Value} {zs : List (List UInt8)} {p : List MemPlace}
    (ht : P.underlying t = some (.array n e)) (he : P.underlying e = some .string) (hce : P.cellsOf e = 1) (hct : P.cellsOf t = n) (hn : zs.length = n)
    (h : DataW.trod enc P w base sp held fuel t cs = some (.agg (zs.map fun z => .lit (.string z)), p)) : cs = zs.map fun z => .string ⟨z.toArray⟩ := by
  have hl : cs.length = n := by
    cases fuel with
    | zero => simp [DataW.trod] at h
    | succ fuel =>
      simp only [DataW.trod, ht, hce, hct, Nat.mul_one] at h
      split at h
      · rename_i hl; simpa using hl
      · cases h
  refine List.ext_getElem? fun i => ?_
  by_cases hi : i < n
  · obtain ⟨z, hz⟩ : ∃ z, zs[i]? = some z := ⟨zs[i], List.getElem?_eq_getElem (by omega)⟩
    rw [cells_of_strs ht he hce hct h i z hz, List.getElem?_map, hz]; rfl
  · rw [List.getElem?_eq_none (by omega), List.getElem?_eq_none (by simp; omega)]
theorem heap_of_var {P : Program} {w : World} {n : String} {g : Nat} {cs : Array Value} (hg : P.globalNamed n = some g) (h : w.var? P n = some cs) : ∃ t fr, w.heap[g]? = some (.cells cs t fr) := by
  simp only [World.var?, hg, Option.bind_some] at h
  split at h
  · rename_i cs' t fr hh
    obtain rfl := Option.some.inj h
    exact ⟨t, fr, hh⟩
  · cases h
theorem gNames : Tryd.prog.globalNamed "transclude/title.spaceNames" = some 2 := by kernel_rfl
theorem gNamesType : (Tryd.prog.globals[2]?).map (·.type) = some 95 := by kernel_rfl
theorem gScopes : Tryd.prog.globalNamed "transclude/policy.spaceScopes" = some 1 := by kernel_rfl
theorem gScopesType : (Tryd.prog.globals[1]?).map (·.type) = some 95 := by kernel_rfl
theorem gRights : Tryd.prog.globalNamed "transclude/policy.rightNames" = some 0 := by kernel_rfl
theorem gRightsType : (Tryd.prog.globals[0]?).map (·.type) = some 95 := by kernel_rfl
theorem cellsNames : Tryd.prog.cellsOf 95 = 6 := by kernel_rfl
theorem cellsString : Tryd.prog.cellsOf 9 = 1 := by kernel_rfl
/-- The names, as the rows list them. -/
def spaces : List (List UInt8) := [[], [84, 97, 108, 107], [85, 115, 101, 114], [84, 101, 109, 112, 108, 97, 116, 101], [67, 97, 116, 101, 103, 111, 114, 121], [80, 114, 111, 106, 101, 99, 116]]
def scopesL : List (List UInt8) := [sName 0, sName 1, sName 2, sName 3, sName 4, sName 5]
def rightsL : List (List UInt8) := [[], rName 1, rName 2, rName 3, rName 4, rName 5]
theorem spaces_name (k : Nat) (h : k ≤ 5) : spaces[k]? = some (Ti.name k) := by
  have : k = 0 ∨ k = 1 ∨ k = 2 ∨ k = 3 ∨ k = 4 ∨ k = 5 := by omega
  rcases this with rfl | rfl | rfl | rfl | rfl | rfl <;> rfl
/-- What the rows' list gives, and what the world's shape gives. -/
theorem tb_of {W : World} (h : laidMet Tryd.prog [("unicode/utf8.acceptRanges", Rows.laid_unicode_utf8_acceptRanges), ("transclude/title.spaceNames", Rows.laid_transclude_title_spaceNames), ("transclude/policy.spaceScopes", Rows.laid_transclude_policy_spaceScopes), ("transclude/policy.rightNames", Rows.laid_transclude_policy_rightNames), ("unicode/utf8.first", Rows.laid_unicode_utf8_first)] W) (hs : W.ShapedOpen Tryd.prog) : Tb W := by
  obtain ⟨ps, ⟨_, _, _, _, _, _, _, _, _, _, ⟨g, t, cs, fuel, p, q, hg, ht, hvar, hd, ⟨g1, t1, cs1, fuel1, p1, q1, hg1, ht1, hvar1, hd1, ⟨g2, t2, cs2, fuel2, p2, q2, hg2, ht2, hvar2, hd2, _, _⟩, _⟩, _⟩, _⟩, _⟩ := h
  obtain rfl := Option.some.inj (gNames.symm.trans hg)
  obtain rfl := Option.some.inj (gNamesType.symm.trans ht)
  obtain rfl := Option.some.inj (gScopes.symm.trans hg1)
  obtain rfl := Option.some.inj (gScopesType.symm.trans ht1)
  obtain rfl := Option.some.inj (gRights.symm.trans hg2)
  obtain rfl := Option.some.inj (gRightsType.symm.trans ht2)
  have hnm : ∀ k, k ≤ 5 → W.cell? ⟨2, k, none⟩ = some (.string ⟨(Ti.name k).toArray⟩) := fun k hk => by
    have h1 := World.var?_cell gNames hvar k
    have h2 := cells_of_strs (zs := spaces) Tryd.underlying95 Tryd.underlying9 cellsString cellsNames hd k (Ti.name k) (spaces_name k hk)
    rw [h1]
    simpa using h2
  have e1 : cs1 = spaceCells := Array.ext' (cells_all (zs := scopesL) Tryd.underlying95 Tryd.underlying9 cellsString cellsNames rfl hd1)
  have e2 : cs2 = rightCells := Array.ext' (cells_all (zs := rightsL) Tryd.underlying95 Tryd.underlying9 cellsString cellsNames rfl hd2)
  subst e1; subst e2
  have hs1 := heap_of_var gScopes hvar1
  have hs2 := heap_of_var gRights hvar2
  have hm : ∃ m : Int, W.cell? ⟨5, 0, none⟩ = some (.int .i64 m) :=
    Go.Proofs.cell_of_shapedOpen_int (zero := #[.int .i64 0]) (t := 3) hs (of_decide_eq_true (by kernel_rfl)) (by kernel_rfl) rfl (by kernel_rfl) (by kernel_rfl) Tryd.underlying3
  refine ⟨⟨hm, hnm, ?_, ?_⟩, hs2, hs1, ?_, ?_⟩
  · obtain ⟨m, hm⟩ := hm; exact lt_of_cell hm
  · exact lt_of_cell (hnm 0 (by omega))
  · obtain ⟨t, fr, hh⟩ := hs2; exact (Array.getElem?_eq_some_iff.1 hh).1
  · obtain ⟨t, fr, hh⟩ := hs1; exact (Array.getElem?_eq_some_iff.1 hh).1

/-- The cells of a table, as data. -/
def cellOf : DataW Unit → Value
  | .lit (.int k n) => .int k n
  | .lit (.string s) => .string ⟨s.toArray⟩
  | _ => .bool false
def cells1 : DataW Unit → List Value
  | .agg ds => ds.map cellOf
  | _ => []
def cells2 : DataW Unit → List Value
  | .agg ds => ds.flatMap cells1
  | _ => []
def fill (cs : List Value) : Obj → Obj
  | .cells _ t frozen => .cells cs.toArray t frozen
  | o => o
/-- A world for the witness: the settled one, the listed tables holding what their initialisers lay. -/
noncomputable def laidWorld (os : Os) : World :=
  { World.holding Tryd.prog os ⟨#[], #[], []⟩ with heap := (((((World.holding Tryd.prog os ⟨#[], #[], []⟩).heap.modify 2 (fill (cells1 Rows.laid_transclude_title_spaceNames))).modify 1 (fill (cells1 Rows.laid_transclude_policy_spaceScopes))).modify 0 (fill (cells1 Rows.laid_transclude_policy_rightNames))).modify 3 (fill (cells1 Rows.laid_unicode_utf8_first))).modify 4 (fill (cells2 Rows.laid_unicode_utf8_acceptRanges)) }
theorem own : ownKnob Tryd.prog.godebug = none := by kernel_rfl
end Go.Proofs.YtbibekojbjonoaaDoor.Po
