/-
  What Parse of package policy keeps while it reads the lines.
-/
import Derived.Test.YtbibekojbjonoaaDoorPoLine4
import Derived.Test.YtbibekojbjonoaaDoorPoSplit
import Derived.Test.YtbibekojbjonoaaDoorPoValid
import Derived.RangeFuncBox
namespace Go.Proofs.YtbibekojbjonoaaDoor.Po
open Go.RowKit Go.Shelf Rf Rk
set_option linter.unusedVariables false
set_option linter.unusedSimpArgs false

/-- All blocks of cells stay. -/
def Kc (W W' : World) : Prop := ∀ (k : Nat) cs t fz, W.heap[k]? = some (Obj.cells cs t fz) → W'.heap[k]? = some (Obj.cells cs t fz)
theorem Kc.grown {W W' : World} {row : Option Nat} (hg : W.grownBy W' row) (hr : ∀ r, row = some r → ∃ o : Obj, W.heap[r]? = some o ∧ o.isCells = false) : Kc W W' := fun k cs t fz hk => by
  refine (hg.block k (Array.getElem?_eq_some_iff.1 hk).1 ?_).trans hk
  intro e
  obtain ⟨o, ho, hc⟩ := hr k e.symm
  rw [hk] at ho; cases ho; cases hc
theorem own_kc {w w' : World} {base : Nat} {e : TypeId} {size : Nat} {v : Value} {n : Nat} {xs : List Value} (h : w.ownsRow base e size v n xs) (hk : Kc w w') : w'.ownsRow base e size v n xs := by
  refine ⟨h.1, h.2.imp id ?_⟩
  rintro ⟨g, cap, cur, h3, h4, h5, h6⟩
  exact ⟨g, cap, cur, h3, h4, hk _ _ _ _ h5, h6⟩
theorem PS.kc {lo gp : Nat} {w w' : World} {P : Pol} {gv rv dv : Value} {L : List Gv} (h : PS lo gp w P gv rv dv L) (hk : Kc w w') (hs : w.heap.size ≤ w'.heap.size) : PS lo gp w' P gv rv dv L :=
  ⟨hk _ _ _ _ h.bx, own_kc h.og hk, h.sb.imp (fun _ _ q => own_kc q hk), own_kc h.orr hk, own_kc h.od hk, h.lt, Nat.le_trans h.ls hs⟩
theorem PS.far {lo gp : Nat} {w : World} {P : Pol} {gv rv dv : Value} {L : List Gv} (h : PS lo gp w P gv rv dv L) {p : Addr} (hp : p.block < lo) (hg : gp ≠ p.block) (u : Value) : PS lo gp (w.setCell p u) P gv rv dv L :=
  ⟨(Below.heap_setCell w p u gp hg).trans h.bx, ownsRow_setCell_below h.og hp u, h.sb.imp (fun _ _ q => ownsRow_setCell_below q hp u), ownsRow_setCell_below h.orr hp u, ownsRow_setCell_below h.od hp u, h.lt, by have := h.ls; simpa [World.setCell] using this⟩
/-! ### What was read is short -/
theorem parse_len (l : By) : (Ti.parse l).1.2.length ≤ 100 := by
  unfold Ti.parse
  split
  · simp
  · split
    · simp only; omega
    · simp
theorem fits_of {l : By} {n : Nat} (h : l.length ≤ n) (hn : n ≤ 100000) : Fits l := by unfold Fits maxLen; omega
theorem scope_fit (l : By) : Fits (scope l).tn := by
  unfold scope
  split
  · exact fits_of (n := 0) (by simp) (by omega)
  · split
    · exact fits_of (n := 0) (by simp) (by omega)
    · exact fits_of (parse_len l) (by omega)
theorem mkFitG (nm : By) (ms : List By) (h1 : Fits nm) (h2 : ∀ m ∈ ms, Fits m) : FitG ⟨nm, ms⟩ := ⟨h1, h2⟩
theorem fit_add {P : Pol} (h : FitP P) (x : By) (hx : x.length ≤ 100000) : FitP (P.add (stmt x)) := by
  have c1 := cw_len x
  have c2 := cw_len (cw x).2
  have c3 := words_count (cw (cw x).2).2
  have k2 := Ti.cut_len2 (cw (cw x).2).2 [124]
  have k3 := tr_len (Lib.cut (cw (cw x).2).2 [124]).2.1
  have fl : ∀ y : By, y.length ≤ 100000 → Fits y := fun y hy => by unfold Fits maxLen; omega
  have h1 : (cw (cw x).2).1.length ≤ 100000 := by omega
  have h2 : (cw (cw x).2).2.length ≤ 100000 := by omega
  have h3 : (tr (Lib.cut (cw (cw x).2).2 [124]).2.1).length ≤ 100000 := by omega
  have skip : ∀ s, s = St.skip ∨ s = St.bad → FitP (P.add s) := fun s hs => by rcases hs with rfl | rfl <;> exact h
  have grp : FitP (P.add (stGroup (cw x).2)) := by
    unfold stGroup
    split
    · exact skip _ (.inr rfl)
    · refine ⟨fun g hg => ?_, h.rs, h.ds⟩
      rcases List.mem_append.1 hg with hg | hg
      · exact h.gs g hg
      · simp at hg; subst hg
        have f1 := fl _ h1
        have f2 : ∀ m ∈ words (cw (cw x).2).2, Fits m := fun m hm => fl m (Nat.le_trans (c3.2 m hm) h2)
        exact mkFitG _ _ f1 f2
  have rul : ∀ al, FitP (P.add (stRule al (cw x).2)) := fun al => by
    unfold stRule
    split
    · refine ⟨h.gs, fun r hr => ?_, h.ds⟩
      rcases List.mem_append.1 hr with hr | hr
      · exact h.rs r hr
      · simp at hr; subst hr
        have f1 := scope_fit (cw (cw (cw x).2).2).2
        simp only [mkRul]
        exact f1
    · exact skip _ (.inr rfl)
  have gud : ∀ st, FitP (P.add (stGuard st (cw x).2)) := fun st => by
    unfold stGuard
    split
    · refine ⟨h.gs, h.rs, fun d hd => ?_⟩
      rcases List.mem_append.1 hd with hd | hd
      · exact h.ds d hd
      · simp at hd; subst hd
        have f0 := parse_len (tr (Lib.cut (cw (cw x).2).2 [124]).1)
        have f1 := fl _ (Nat.le_trans f0 (by omega))
        have f2 := fl _ h3
        refine ⟨?_, ?_⟩
        · simp only [mkGud]; exact f1
        · simp only [mkGud]; exact f2
    · exact skip _ (.inr rfl)
  unfold stmt
  split
  · exact skip _ (.inl rfl)
  · split
    · exact grp
    · split
      · exact rul _
      · split
        · exact gud _
        · exact skip _ (.inr rfl)
theorem FitP.none : FitP Pol.none := ⟨fun g hg => (by cases hg), fun g hg => (by cases hg), fun g hg => (by cases hg)⟩
theorem Kc.of {W W' : World} (h : Below W.heap.size W W') : Kc W W' := fun k _ _ _ hk => (h.block k (Array.getElem?_eq_some_iff.1 hk).1).trans hk
/-- The lines so far are statements, and P is what they state. -/
structure Acc (pre : List By) (P : Pol) : Prop where
  go : ∀ r, readL (pre ++ r) 0 Pol.none = readL r pre.length P
  n1 : P.gs.length ≤ pre.length
  n2 : P.rs.length ≤ pre.length
  n3 : P.ds.length ≤ pre.length
  ft : FitP P
theorem Acc.nil : Acc [] Pol.none := ⟨fun r => rfl, Nat.le_refl _, Nat.le_refl _, Nat.le_refl _, FitP.none⟩
theorem add_len (P : Pol) (s : St) : (P.add s).gs.length ≤ P.gs.length + 1 ∧ (P.add s).rs.length ≤ P.rs.length + 1 ∧ (P.add s).ds.length ≤ P.ds.length + 1 := by
  cases s <;> simp [Pol.add]
theorem Acc.snoc {pre : List By} {P : Pol} (h : Acc pre P) {x : By} (hx : stmt x ≠ .bad) (hl : x.length ≤ 100000) : Acc (pre ++ [x]) (P.add (stmt x)) := by
  obtain ⟨a1, a2, a3⟩ := add_len P (stmt x)
  have l : (pre ++ [x]).length = pre.length + 1 := by simp
  have h1 := h.n1
  have h2 := h.n2
  have h3 := h.n3
  refine ⟨fun r => ?_, by omega, by omega, by omega, fit_add h.ft x hl⟩
  rw [List.append_assoc, List.singleton_append, h.go, readL, if_neg hx, l]
theorem Acc.bad {pre : List By} {P : Pol} (h : Acc pre P) {x : By} (hx : stmt x = .bad) : ∀ r, readL ((pre ++ [x]) ++ r) 0 Pol.none = (none, (pre ++ [x]).length) := fun r => by
  rw [List.append_assoc, List.singleton_append, h.go, readL, if_pos hx]; simp
def strs (pre : List Str) : List By := pre.map (·.1.data.toList)
/-- What holds at every line's beginning; b is the first block of the call. -/
structure PI (b : Nat) (pre : List Str) (W : World) : Prop where
  r0 : W.heap[b]? = some (.cells #[.slice none 0 0, .slice none 0 0, .slice none 0 0] 29)
  r1 : W.heap[b + 1]? = some (.cells #[.int .i64 0] 3)
  r2 : W.heap[b + 2]? = some (.cells #[.int .i64 0] 30)
  ct : W.heap[b + 4]? = some (.cells #[.int .i64 (pre.length : Nat)] 3)
  ps : ∃ P gv rv dv L, PS (b + 8) (b + 3) W P gv rv dv L ∧ Acc (strs pre) P
structure PX (b : Nat) (pre : List Str) (W : World) : Prop where
  r0 : W.heap[b]? = some (.cells #[.slice none 0 0, .slice none 0 0, .slice none 0 0] 29)
  r1 : W.heap[b + 1]? = some (.cells #[.int .i64 (pre.length : Nat)] 3)
  r2 : W.heap[b + 2]? = some (.cells #[.int .i64 1] 30)
  bad : ∀ r, readL (strs pre ++ r) 0 Pol.none = (none, pre.length)
theorem PI.kc {b : Nat} {pre : List Str} {W W' : World} (h : PI b pre W) (hk : Kc W W') (hs : W.heap.size ≤ W'.heap.size) : PI b pre W' := by
  obtain ⟨P, gv, rv, dv, L, h1, h2⟩ := h.ps
  exact ⟨hk _ _ _ _ h.r0, hk _ _ _ _ h.r1, hk _ _ _ _ h.r2, hk _ _ _ _ h.ct, P, gv, rv, dv, L, h1.kc hk hs, h2⟩
theorem PX.kc {b : Nat} {pre : List Str} {W W' : World} (h : PX b pre W) (hk : Kc W W') : PX b pre W' := ⟨hk _ _ _ _ h.r0, hk _ _ _ _ h.r1, hk _ _ _ _ h.r2, h.bad⟩
theorem PI.far {b : Nat} {pre : List Str} {W : World} (h : PI b pre W) (v : Value) : PI b pre (W.setCell ⟨b + 5, 0, none⟩ v) := by
  obtain ⟨P, gv, rv, dv, L, h1, h2⟩ := h.ps
  exact ⟨(Below.heap_setCell W ⟨b + 5, 0, none⟩ v b (by show b ≠ b + 5; omega)).trans h.r0, (Below.heap_setCell W ⟨b + 5, 0, none⟩ v (b + 1) (by show b + 1 ≠ b + 5; omega)).trans h.r1, (Below.heap_setCell W ⟨b + 5, 0, none⟩ v (b + 2) (by show b + 2 ≠ b + 5; omega)).trans h.r2, (Below.heap_setCell W ⟨b + 5, 0, none⟩ v (b + 4) (by show b + 4 ≠ b + 5; omega)).trans h.ct, P, gv, rv, dv, L, h1.far (p := ⟨b + 5, 0, none⟩) (by show b + 5 < b + 8; omega) (by show b + 3 ≠ b + 5; omega) v, h2⟩
theorem PX.far {b : Nat} {pre : List Str} {W : World} (h : PX b pre W) (v : Value) : PX b pre (W.setCell ⟨b + 5, 0, none⟩ v) :=
  ⟨(Below.heap_setCell W ⟨b + 5, 0, none⟩ v b (by show b ≠ b + 5; omega)).trans h.r0, (Below.heap_setCell W ⟨b + 5, 0, none⟩ v (b + 1) (by show b + 1 ≠ b + 5; omega)).trans h.r1, (Below.heap_setCell W ⟨b + 5, 0, none⟩ v (b + 2) (by show b + 2 ≠ b + 5; omega)).trans h.r2, h.bad⟩
/-- What Parse gives: three slices that read as the policy, in blocks of the call's own. -/
def ParseP (w : World) (R : Res) (e : Ending) (w' : World) : Prop :=
  ∃ gv rv dv, e = .returned (.tuple #[.agg #[gv, rv, dv], .int .i64 (R.n : Nat), .int .i64 (R.e : Nat)]) ∧ RdP w' w'.heap.size gv rv dv R.p ∧ Below w.heap.size w w'
theorem PS.rd {lo gp : Nat} {w : World} {P : Pol} {gv rv dv : Value} {L : List Gv} (h : PS lo gp w P gv rv dv L) : RdP w w.heap.size gv rv dv P :=
  ⟨⟨L, h.og.rd, h.sb.sub⟩, h.orr.rd, h.od.rd⟩
set_option maxRecDepth 100000 in
set_option maxHeartbeats 2000000 in
theorem Parse_long (l : By) (w : World) (hs : 8192 < l.length) (hm : l.length ≤ maxLen) : Calls Tryd.prog 9 #[.string (bsl l)] w (ParseP w (parse l)) := by
  have HR : Hid (parse l = ⟨Pol.none, 0, 3⟩) := Lib.hid (by unfold parse; rw [if_pos hs])
  have hz : (8192 : Int) < ((bsl l).size : Int) := by rw [bsl_size]; omega
  have hz2 : ((bsl l).size : Int) ≤ 9223372036854775807 := by rw [bsl_size]; unfold maxLen at hm; omega
  clear hs hm
  go_enter Tryd.func9, Tryd.ntmps9
  go_wp2
  refine bodyPost_ret (v := .tuple #[.agg #[.slice none 0 0, .slice none 0 0, .slice none 0 0], .int .i64 0, .int .i64 3]) (by simp [results, Tryd.results9, go_sem]) rfl ⟨_, _, _, by rw [HR.out]; rfl, by rw [HR.out]; exact RdP.nil _ _, ?_⟩
  exact (((Below.refl _ _).alloc (Nat.le_refl _) _).alloc (by simp) _).alloc (by simp; omega) _
end Go.Proofs.YtbibekojbjonoaaDoor.Po
