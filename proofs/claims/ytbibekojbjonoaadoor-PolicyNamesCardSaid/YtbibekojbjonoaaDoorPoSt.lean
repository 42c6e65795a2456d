/-
  The policy that Parse fills: its block, its rows, and what an append to one of them leaves.
-/
import Derived.Test.YtbibekojbjonoaaDoorPoRead3
import Derived.Deep.RegionHeld3
namespace Go.Proofs.YtbibekojbjonoaaDoor.Po
open Go.RowKit Go.Shelf
set_option linter.unusedVariables false
set_option linter.unusedSimpArgs false

/-- The groups of a row, their members in rows of the call's own. -/
def SubO (w : World) (lo : Nat) (L : List Gv) (l : List Grp) : Prop :=
  L.length = l.length ∧ ∀ (i : Nat) (p : Gv) (g : Grp), L[i]? = some p → l[i]? = some g → p.1 = g.nm ∧ OwnS w lo p.2 g.ms
theorem SubO.nil (w : World) (lo : Nat) : SubO w lo [] [] := ⟨rfl, fun i p g hp => by simp at hp⟩
theorem SubO.imp {w w' : World} {lo : Nat} {L : List Gv} {l : List Grp} (h : SubO w lo L l) (hk : ∀ v ms, OwnS w lo v ms → OwnS w' lo v ms) : SubO w' lo L l :=
  ⟨h.1, fun i p g hp hg => ⟨(h.2 i p g hp hg).1, hk _ _ (h.2 i p g hp hg).2⟩⟩
theorem SubO.snoc {w : World} {lo : Nat} {L : List Gv} {l : List Grp} (h : SubO w lo L l) {v : Value} {g : Grp} (hv : OwnS w lo v g.ms) : SubO w lo (L ++ [(g.nm, v)]) (l ++ [g]) := by
  refine ⟨by rw [List.length_append, List.length_append, h.1]; rfl, fun i p q hp hq => ?_⟩
  by_cases hi : i < L.length
  · rw [List.getElem?_append_left hi] at hp
    rw [List.getElem?_append_left (by rw [← h.1]; exact hi)] at hq
    exact h.2 i p q hp hq
  · rw [List.getElem?_append_right (by omega)] at hp
    rw [List.getElem?_append_right (by rw [← h.1]; omega), ← h.1] at hq
    have h0 : i - L.length = 0 := by
      have := (List.getElem?_eq_some_iff.1 hp).1
      simp at this; omega
    rw [h0] at hp hq
    simp at hp hq
    subst hp; subst hq
    exact ⟨rfl, hv⟩
theorem SubO.sub {w : World} {lo : Nat} {L : List Gv} {l : List Grp} (h : SubO w lo L l) : Sub w w.heap.size L l :=
  ⟨h.1, fun i p g hp hg => ⟨(h.2 i p g hp hg).1, (h.2 i p g hp hg).2.rd⟩⟩
structure PS (lo gp : Nat) (w : World) (P : Pol) (gv rv dv : Value) (L : List Gv) : Prop where
  bx : w.heap[gp]? = some (.cells #[gv, rv, dv] 29)
  og : OwnV w lo gv L
  sb : SubO w lo L P.gs
  orr : OwnR w lo rv P.rs
  od : OwnD w lo dv P.ds
  lt : gp < lo
  ls : lo ≤ w.heap.size
/-- What is left alone: all below lo but the block gp, and all that is no cells. -/
structure Fr (lo gp : Nat) (w w' : World) : Prop where
  os : w'.os = w.os
  tape : w'.tape = w.tape
  output : w'.output = w.output
  size : w.heap.size ≤ w'.heap.size
  low : ∀ k, k < lo → k ≠ gp → w'.heap[k]? = w.heap[k]?
  oth : ∀ (k : Nat) (o : Obj), w.heap[k]? = some o → o.isCells = false → w'.heap[k]? = some o
theorem Fr.refl (lo gp : Nat) (w : World) : Fr lo gp w w := ⟨rfl, rfl, rfl, Nat.le_refl _, fun _ _ _ => rfl, fun _ _ h _ => h⟩
theorem Fr.trans {lo gp : Nat} {a b c : World} (h : Fr lo gp a b) (k : Fr lo gp b c) : Fr lo gp a c :=
  ⟨k.os.trans h.os, k.tape.trans h.tape, k.output.trans h.output, Nat.le_trans h.size k.size, fun i hi hn => (k.low i hi hn).trans (h.low i hi hn), fun i o hi ho => k.oth i o (h.oth i o hi ho) ho⟩
theorem Fr.of {lo gp : Nat} {w w' : World} (h : Below w.heap.size w w') (hl : lo ≤ w.heap.size) : Fr lo gp w w' :=
  ⟨h.os, h.tape, h.output, h.size, fun k hk _ => h.block k (by omega), fun k o hk _ => (h.block k (Array.getElem?_eq_some_iff.1 hk).1).trans hk⟩
theorem Fr.keeps {lo gp : Nat} {w w' : World} (h : Fr lo gp w w') : KeepsOthers w w' := ⟨h.size, h.oth⟩
theorem Fr.below {lo gp n : Nat} {w w' : World} (h : Fr lo gp w w') (hn : n ≤ gp) (hg : gp < lo) : Below n w w' :=
  ⟨h.os, h.tape, h.output, h.size, fun k hk => h.low k (by omega) (by omega)⟩
theorem Fr.grown {lo gp : Nat} {w w' : World} {row : Option Nat} (h : w.grownBy w' row) (hr : ∀ g, row = some g → lo ≤ g ∧ ∃ cs t fz, w.heap[g]? = some (.cells cs t fz)) (hl : lo ≤ w.heap.size) : Fr lo gp w w' :=
  ⟨h.os, h.tape, h.output, h.size, fun k hk _ => h.block k (by omega) (fun e => by have := (hr k e.symm).1; omega), fun k o hk ho => (h.block k (Array.getElem?_eq_some_iff.1 hk).1 (fun e => by
    obtain ⟨_, cs, t, fz, hc⟩ := hr k e.symm
    rw [hk] at hc; cases hc; cases ho)).trans hk⟩
theorem Fr.cell {lo gp : Nat} (w : World) (o : Nat) (v : Value) {cs : Array Value} {t : TypeId} (hb : w.heap[gp]? = some (.cells cs t)) : Fr lo gp w (w.setCell ⟨gp, o, none⟩ v) :=
  ⟨rfl, rfl, rfl, by simp [World.setCell], fun k hk hn => Below.heap_setCell w ⟨gp, o, none⟩ v k (fun e => hn e), fun k ob hk ho => by
    by_cases e : k = gp
    · subst e; rw [hb] at hk; cases hk; cases ho
    · exact (Below.heap_setCell w ⟨gp, o, none⟩ v k e).trans hk⟩
theorem own_cells {w : World} {base e k n : Nat} {v : Value} {xs : List Value} (h : w.ownsRow base e k v n xs) : ∀ g, v.ownBlock = some g → base ≤ g ∧ ∃ cs t fz, w.heap[g]? = some (.cells cs t fz) := by
  intro g hg
  rcases h.2 with ⟨rfl, _⟩ | ⟨g', cap, cur, rfl, h1, h2, _⟩
  · simp [Value.ownBlock] at hg
  · simp [Value.ownBlock] at hg; subst hg; exact ⟨h1, _, _, _, h2⟩
/-- Rows of different element types lie apart. -/
theorem own_ne {w : World} {base base' e e' k k' n n' : Nat} {v v' : Value} {xs xs' : List Value} (h : w.ownsRow base e k v n xs) (h' : w.ownsRow base' e' k' v' n' xs') (hne : e ≠ e') : v.ownBlock = none ∨ v.ownBlock ≠ v'.ownBlock := by
  rcases h.2 with ⟨rfl, _⟩ | ⟨g, cap, cur, rfl, h1, h2, _⟩
  · exact .inl rfl
  · right
    intro e0
    rcases h'.2 with ⟨rfl, _⟩ | ⟨g', cap', cur', rfl, h1', h2', _⟩
    · simp [Value.ownBlock] at e0
    · have : g = g' := by simpa [Value.ownBlock] using e0
      subst this
      rw [h2] at h2'
      injection h2' with h2'
      injection h2' with _ h3
      exact hne h3
theorem row_cell {w : World} {base e k n : Nat} {v : Value} {xs : List Value} {gp o : Nat} (h : w.ownsRow base e k v n xs) (hg : gp < base) (u : Value) : (w.setCell ⟨gp, o, none⟩ u).ownsRow base e k v n xs := ownsRow_setCell_below h hg u
section
variable {lo gp : Nat} {w w1 : World} {P : Pol} {gv rv dv v' : Value} {L : List Gv}
theorem set_bx {cs : Array Value} {t : TypeId} (h : w.heap[gp]? = some (.cells cs t)) (o : Nat) (u : Value) : (w.setCell ⟨gp, o, none⟩ u).heap[gp]? = some (.cells (cs.setIfInBounds o u) t) := by
  simp [World.setCell, Array.getElem?_modify, h]
theorem PS.step {w' : World} (h : PS lo gp w P gv rv dv L) (hb : Below w.heap.size w w') : PS lo gp w' P gv rv dv L := by
  have hlt := (Array.getElem?_eq_some_iff.1 h.bx).1
  exact ⟨(hb.block _ hlt).trans h.bx, h.og.below hb (Nat.le_refl _), h.sb.imp (fun _ _ q => q.below hb (Nat.le_refl _)), h.orr.below hb (Nat.le_refl _), h.od.below hb (Nat.le_refl _), h.lt, Nat.le_trans h.ls hb.size⟩
/-- A group more. -/
theorem PS.addG (h : PS lo gp w P gv rv dv L) {nm : By} {vm : Value} {ms : List By} (hm : OwnS w lo vm ms) (hg : w.grownBy w1 gv.ownBlock) (ho : OwnV w1 lo v' (L ++ [(nm, vm)])) : PS lo gp (w1.setCell ⟨gp, 0, none⟩ v') ⟨P.gs ++ [⟨nm, ms⟩], P.rs, P.ds⟩ v' rv dv (L ++ [(nm, vm)]) ∧ Fr lo gp w (w1.setCell ⟨gp, 0, none⟩ v') := by
  have hlt := (Array.getElem?_eq_some_iff.1 h.bx).1
  have hr := own_cells h.og
  have hbx : w1.heap[gp]? = some (.cells #[gv, rv, dv] 29) := (hg.block _ hlt (fun e => by have := (hr _ e.symm).1; have := h.lt; omega)).trans h.bx
  have kS : ∀ v ms, OwnS w lo v ms → OwnS (w1.setCell ⟨gp, 0, none⟩ v') lo v ms := fun v ms q => row_cell (World.ownsRow.kept q hg (own_ne q h.og (by decide))) h.lt _
  refine ⟨⟨by rw [set_bx hbx]; rfl, row_cell ho h.lt _, SubO.snoc (g := ⟨nm, ms⟩) (h.sb.imp kS) (kS _ _ hm), row_cell (World.ownsRow.kept h.orr hg (own_ne h.orr h.og (by decide))) h.lt _, row_cell (World.ownsRow.kept h.od hg (own_ne h.od h.og (by decide))) h.lt _, h.lt, ?_⟩, (Fr.grown hg hr h.ls).trans (Fr.cell _ _ _ hbx)⟩
  have := hg.size
  have := h.ls
  simp [World.setCell]; omega
/-- A rule more. -/
theorem PS.addR (h : PS lo gp w P gv rv dv L) {r : Rul} (hg : w.grownBy w1 rv.ownBlock) (ho : OwnR w1 lo v' (P.rs ++ [r])) : PS lo gp (w1.setCell ⟨gp, 1, none⟩ v') ⟨P.gs, P.rs ++ [r], P.ds⟩ gv v' dv L ∧ Fr lo gp w (w1.setCell ⟨gp, 1, none⟩ v') := by
  have hlt := (Array.getElem?_eq_some_iff.1 h.bx).1
  have hr := own_cells h.orr
  have hbx : w1.heap[gp]? = some (.cells #[gv, rv, dv] 29) := (hg.block _ hlt (fun e => by have := (hr _ e.symm).1; have := h.lt; omega)).trans h.bx
  have kS : ∀ v ms, OwnS w lo v ms → OwnS (w1.setCell ⟨gp, 1, none⟩ v') lo v ms := fun v ms q => row_cell (World.ownsRow.kept q hg (own_ne q h.orr (by decide))) h.lt _
  refine ⟨⟨by rw [set_bx hbx]; rfl, row_cell (World.ownsRow.kept h.og hg (own_ne h.og h.orr (by decide))) h.lt _, h.sb.imp kS, row_cell ho h.lt _, row_cell (World.ownsRow.kept h.od hg (own_ne h.od h.orr (by decide))) h.lt _, h.lt, ?_⟩, (Fr.grown hg hr h.ls).trans (Fr.cell _ _ _ hbx)⟩
  have := hg.size
  have := h.ls
  simp [World.setCell]; omega
/-- A guard more. -/
theorem PS.addD (h : PS lo gp w P gv rv dv L) {d : Gud} (hg : w.grownBy w1 dv.ownBlock) (ho : OwnD w1 lo v' (P.ds ++ [d])) : PS lo gp (w1.setCell ⟨gp, 2, none⟩ v') ⟨P.gs, P.rs, P.ds ++ [d]⟩ gv rv v' L ∧ Fr lo gp w (w1.setCell ⟨gp, 2, none⟩ v') := by
  have hlt := (Array.getElem?_eq_some_iff.1 h.bx).1
  have hr := own_cells h.od
  have hbx : w1.heap[gp]? = some (.cells #[gv, rv, dv] 29) := (hg.block _ hlt (fun e => by have := (hr _ e.symm).1; have := h.lt; omega)).trans h.bx
  have kS : ∀ v ms, OwnS w lo v ms → OwnS (w1.setCell ⟨gp, 2, none⟩ v') lo v ms := fun v ms q => row_cell (World.ownsRow.kept q hg (own_ne q h.od (by decide))) h.lt _
  refine ⟨⟨by rw [set_bx hbx]; rfl, row_cell (World.ownsRow.kept h.og hg (own_ne h.og h.od (by decide))) h.lt _, h.sb.imp kS, row_cell (World.ownsRow.kept h.orr hg (own_ne h.orr h.od (by decide))) h.lt _, row_cell ho h.lt _, h.lt, ?_⟩, (Fr.grown hg hr h.ls).trans (Fr.cell _ _ _ hbx)⟩
  have := hg.size
  have := h.ls
  simp [World.setCell]; omega
end
/-- The tables lie below n. -/
def GN (n : Nat) : Prop := 0 < n ∧ 1 < n ∧ 2 < n ∧ 5 < n
theorem Tb.gn {w : World} (h : Tb w) : GN w.heap.size := ⟨h.lt.1, h.lt.2, h.ti.lt.2, h.ti.lt.1⟩
theorem GN.mono {n m : Nat} (h : GN n) (hm : n ≤ m) : GN m := ⟨by have := h.1; omega, by have := h.2.1; omega, by have := h.2.2.1; omega, by have := h.2.2.2; omega⟩
theorem Tb.low {n : Nat} {w w' : World} (h : Tb w) (hb : Below n w w') (hn : GN n) : Tb w' := by
  obtain ⟨n1, n2, n3, n4⟩ := hn
  have hs := hb.size
  refine ⟨⟨?_, fun k hk => (hb.cell (p := ⟨2, k, none⟩) n3).trans (h.ti.nm k hk), ?_⟩, ?_, ?_, ?_⟩
  · obtain ⟨m, hm⟩ := h.ti.m
    exact ⟨m, (hb.cell (p := ⟨5, 0, none⟩) n4).trans hm⟩
  · have := h.ti.lt; exact ⟨by omega, by omega⟩
  · obtain ⟨t, fr, hr⟩ := h.rn
    exact ⟨t, fr, (hb.block _ n1).trans hr⟩
  · obtain ⟨t, fr, hr⟩ := h.ss
    exact ⟨t, fr, (hb.block _ n2).trans hr⟩
  · have := h.lt; exact ⟨by omega, by omega⟩
end Go.Proofs.YtbibekojbjonoaaDoor.Po
