/-
  The contracts of package tree's Equal and of what it calls.
-/
import Derived.Test.YtlceaadaeednpaaTrRSrc2
namespace Go.Proofs.Ytlceaadaeednpaa.Tr
open Go.RowKit

open Classical in
/-- Equality of two lists, as a Bool. -/
noncomputable def eqB {α : Type} (l m : α) : Bool := decide (l = m)
theorem eqB_true {α : Type} {l m : α} (h : l = m) : eqB l m = true := by unfold eqB; simp [h]
theorem eqB_false {α : Type} {l m : α} (h : l ≠ m) : eqB l m = false := by unfold eqB; simp [h]
theorem eqB_iff {α : Type} {l m : α} : eqB l m = true ↔ l = m := by unfold eqB; simp
theorem eqB_no {α : Type} {l m : α} (h : eqB l m = false) : l ≠ m := fun e => by rw [eqB_true e] at h; cases h
def EqL (d : Nat) : Prop := ∀ (B : Nat) (a b : Value) (l m : List Nd) (w : World), LRd d w B a l → LRd d w B b m → B ≤ w.heap.size →
    Calls Try.prog 7 #[a, b] w fun e w' => e = .returned (.bool (eqB l m)) ∧ Below w.heap.size w w'
def EqG (d : Nat) : Prop := ∀ (B : Nat) (a b : Value) (l m : Ar) (w : World), AV d w B a l → AV d w B b m → B ≤ w.heap.size →
    Calls Try.prog 29 #[a, b] w fun e w' => e = .returned (.bool (eqB l m)) ∧ Below w.heap.size w w'
def EqN (d : Nat) : Prop := ∀ (B : Nat) (a b : Value) (l m : Nd) (w : World), NV d w B a l → NV d w B b m → B ≤ w.heap.size →
    Calls Try.prog 17 #[a, b] w fun e w' => e = .returned (.bool (eqB l m)) ∧ Below w.heap.size w w'
def EqAF (d : Nat) : Prop := ∀ (B : Nat) (a b : Value) (l m : List Ar) (w : World), ARd d w B a l → ARd d w B b m → B ≤ w.heap.size →
    Calls Try.prog 28 #[a, b, .func (.func 29) #[] #[]] w fun e w' => e = .returned (.bool (eqB l m)) ∧ Below w.heap.size w w'
def EqNF (d : Nat) : Prop := ∀ (B : Nat) (a b : Value) (l m : List Nd) (w : World), LRd d w B a l → LRd d w B b m → B ≤ w.heap.size →
    Calls Try.prog 16 #[a, b, .func (.func 17) #[] #[]] w fun e w' => e = .returned (.bool (eqB l m)) ∧ Below w.heap.size w w'
/-- Two blocks more. -/
theorem two_keep {w w1 : World} {o1 o2 : Obj} (hb : Below ((w.alloc o1).alloc o2).heap.size ((w.alloc o1).alloc o2) w1) : w1.heap[w.heap.size]? = some o1 ∧ w1.heap[w.heap.size + 1]? = some o2 := by
  have hs : ((w.alloc o1).alloc o2).heap.size = w.heap.size + 2 := by simp
  exact ⟨(hb.block _ (by omega)).trans (heap_alloc2_old w o1 o2), (hb.block _ (by omega)).trans (heap_alloc2_new w o1 o2)⟩
theorem two_below (w : World) (o1 o2 : Obj) : Below w.heap.size w ((w.alloc o1).alloc o2) := ((Below.refl _ _).alloc (Nat.le_refl _) _).alloc (by simp) _

set_option maxHeartbeats 4000000 in
theorem equalArgs_step (d : Nat) (hL : EqL d) : EqG d := by
  intro B a b l m w h1 h2 hB
  obtain ⟨n1, v1, rfl, z1, r1, r2⟩ := h1
  obtain ⟨n2, v2, rfl, z2, s1, s2⟩ := h2
  obtain ⟨A1, c1, rfl⟩ := r1.form
  obtain ⟨A2, c2, rfl⟩ := r2.form
  obtain ⟨A3, c3, rfl⟩ := s1.form
  obtain ⟨A4, c4, rfl⟩ := s2.form
  cases l with | mk nm1 na1 va1 => cases m with | mk nm2 na2 va2 =>
  simp only [Ar.named, Ar.name, Ar.value] at *
  have HV := Lib.hid (And.intro (And.intro r1 r2) (And.intro s1 s2)); clear r1 r2 s1 s2
  by_cases hn : nm1 = nm2
  · subst hn
    have T0 := Lib.hid (two_below w (Obj.cells #[Value.bool nm1, Value.slice A1 na1.length c1, Value.slice A2 va1.length c2] 33) (Obj.cells #[Value.bool nm1, Value.slice A3 na2.length c3, Value.slice A4 va2.length c4] 33))
    go_enter Try.func29, Try.ntmps29
    go_wp2_with fail
    refine (hL B _ _ na1 na2 _ (HV.out.1.1.below T0.out hB (Nat.le_refl _)) (HV.out.2.1.below T0.out hB (Nat.le_refl _)) (Nat.le_trans hB T0.out.size)).mono ?_
    rintro e w1 ⟨rfl, hb⟩
    obtain ⟨q1, q2⟩ := two_keep hb
    have x1 : w1.cell? ⟨w.heap.size, 2, none⟩ = some (Value.slice A2 va1.length c2) := cell_heap q1 rfl
    have x2 : w1.cell? ⟨w.heap.size + 1, 2, none⟩ = some (Value.slice A4 va2.length c4) := cell_heap q2 rfl
    have T1 := Lib.hid (T0.out.trans (hb.mono T0.out.size))
    clear hb q1 q2
    cases hE : eqB na1 na2 with
    | false =>
      have HF := Lib.hid (eqB_no hE); clear hE
      go_wp2_with fail
      go_ret
      exact ⟨ret_bool (eqB_false (fun e => HF.out (by injection e))).symm, T1.out⟩
    | true =>
      have HF := Lib.hid (eqB_iff.1 hE); clear hE
      go_wp2_with fail
      refine (hL B _ _ va1 va2 _ (HV.out.1.2.below T1.out hB (Nat.le_refl _)) (HV.out.2.2.below T1.out hB (Nat.le_refl _)) (Nat.le_trans hB T1.out.size)).mono ?_
      rintro e w2 ⟨rfl, hb⟩
      have T2 := Lib.hid (T1.out.trans (hb.mono T1.out.size)); clear hb
      cases hE : eqB va1 va2 with
      | false =>
        have HF := Lib.hid (eqB_no hE); clear hE
        go_wp2_with fail
        go_ret
        exact ⟨ret_bool (eqB_false (fun e => HF.out (by injection e))).symm, T2.out⟩
      | true =>
        have HG := Lib.hid (eqB_iff.1 hE); clear hE
        go_wp2_with fail
        go_ret
        exact ⟨ret_bool (eqB_true (by rw [HF.out, HG.out])).symm, T2.out⟩
  · have T0 := Lib.hid (two_below w (Obj.cells #[Value.bool nm1, Value.slice A1 na1.length c1, Value.slice A2 va1.length c2] 33) (Obj.cells #[Value.bool nm2, Value.slice A3 na2.length c3, Value.slice A4 va2.length c4] 33))
    have HN : Hid (eqB (Ar.mk nm1 na1 va1) (Ar.mk nm2 na2 va2) = false) := Lib.hid (eqB_false (fun e => hn (by injection e)))
    have hn' : (nm1 == nm2) = false := by simpa using hn
    go_enter Try.func29, Try.ntmps29
    go_wp2_with fail
    go_ret
    exact ⟨ret_bool HN.out.symm, T0.out⟩

theorem take_eq_len {α : Type} {l m : List α} (h : l.length = m.length) (e : l.take l.length = m.take l.length) : l = m := by
  rw [List.take_length] at e; rw [e, h, List.take_length]
theorem take_succ_eq {α : Type} {l m : List α} {k : Nat} (h1 : k < l.length) (h2 : k < m.length) (e : l.take k = m.take k) (q : l[k] = m[k]) : l.take (k + 1) = m.take (k + 1) := by
  rw [List.take_succ_eq_append_getElem h1, List.take_succ_eq_append_getElem h2, e, q]

set_option maxHeartbeats 4000000 in
theorem EqualFuncA_step (d : Nat) (hN : EqG d) : EqAF d := by
  intro B a b l m w h1 h2 hB
  have hz1 := h1.1
  have hz2 := h2.1
  obtain ⟨A1, c1, rfl, ha1, ha2, hln1, R1⟩ := ARd.open h1
  obtain ⟨A2, c2, rfl, hb1, hb2, hln2, R2⟩ := ARd.open h2
  have R1' := Lib.hid R1; have R2' := Lib.hid R2; clear R1 R2 h1 h2
  by_cases hl : l.length = m.length
  · rw [← hl]
    rw [← hl] at hb1
    have HH := Lib.hid hl; clear hl
    go_enter Try.func28, Try.ntmps28
    go_wp2_with fail
    go_loopw [17] (fun i wr => ∃ k : Nat, k ≤ l.length ∧ i = .int .i64 k ∧ Hid (l.take k = m.take k) ∧ Hid (Below w.heap.size w wr)) (fun i _ => l.length - (intOf i).toNat)
    case atStart => exact ⟨0, Nat.zero_le _, rfl, Lib.hid rfl, Lib.hid (Below.refl _ _)⟩
    case round =>
      obtain ⟨k, hk, rfl, hE, hbl⟩ := hrel
      by_cases hlt : k < l.length
      · have hlt2 : k < m.length := by rw [← HH.out]; exact hlt
        obtain ⟨g1, o1, rfl, hg1, q1⟩ := R1'.out (by omega)
        obtain ⟨g2, o2, rfl, hg2, q2⟩ := R2'.out (by omega)
        have hc1 : ∀ i, wr.cell? ⟨g1, i, none⟩ = w.cell? ⟨g1, i, none⟩ := fun i => hbl.out.cell (by show g1 < _; omega)
        have hc2 : ∀ i, wr.cell? ⟨g2, i, none⟩ = w.cell? ⟨g2, i, none⟩ := fun i => hbl.out.cell (by show g2 < _; omega)
        obtain ⟨vk, va, x1, x2, x3, x6, x7⟩ := q1 k l[k] (List.getElem?_eq_getElem hlt)
        obtain ⟨uk, ua, y1, y2, y3, y6, y7⟩ := q2 k m[k] (List.getElem?_eq_getElem hlt2)
        obtain ⟨Ak, ck, rfl⟩ := x6.form
        obtain ⟨Aa, ca, rfl⟩ := x7.form
        obtain ⟨Dk, ek, rfl⟩ := y6.form
        obtain ⟨Da, ea, rfl⟩ := y7.form
        rw [← hc1] at x1 x2 x3
        rw [← hc2] at y1 y2 y3
        have z1 := Nat.le_trans (szA_mem (List.getElem_mem hlt)) hz1
        have z2 := Nat.le_trans (szA_mem (List.getElem_mem hlt2)) hz2
        have HX : Hid (AV d w B (.agg #[Value.bool l[k].named, Value.slice Ak l[k].name.length ck, Value.slice Aa l[k].value.length ca]) l[k] ∧ AV d w B (.agg #[Value.bool m[k].named, Value.slice Dk m[k].name.length ek, Value.slice Da m[k].value.length ea]) m[k]) := Lib.hid ⟨⟨_, _, rfl, z1, x6, x7⟩, ⟨_, _, rfl, z2, y6, y7⟩⟩
        clear x6 x7 y6 y7 z1 z2
        clear q1 q2 hc1 hc2
        have hg2w : g2 < wr.heap.size := Nat.lt_of_lt_of_le hg2 (Nat.le_trans hB hbl.out.size)
        have T0 := Lib.hid (two_below wr (Obj.cells #[Value.bool l[k].named, Value.slice Ak l[k].name.length ck, Value.slice Aa l[k].value.length ca] 33) (Obj.cells #[Value.bool m[k].named, Value.slice Dk m[k].name.length ek, Value.slice Da m[k].value.length ea] 33))
        have T1 := Lib.hid (hbl.out.trans (T0.out.mono hbl.out.size))
        go_wp2_with fail
        refine (hN B _ _ l[k] m[k] _ (HX.out.1.below T1.out hB (Nat.le_refl _)) (HX.out.2.below T1.out hB (Nat.le_refl _)) (Nat.le_trans hB T1.out.size)).mono ?_
        rintro e w1 ⟨rfl, hb⟩
        have T2 := Lib.hid (T1.out.trans (hb.mono T1.out.size)); clear hb
        cases hQ : eqB l[k] m[k] with
        | false =>
          have HF := Lib.hid (eqB_no hQ); clear hQ
          go_wp2_with fail
          go_ret
          exact ⟨ret_bool (eqB_false (fun e => HF.out (by subst e; rfl))).symm, T2.out⟩
        | true =>
          have HF := Lib.hid (eqB_iff.1 hQ); clear hQ
          go_wp2_with fail
          go_roundw
          case rel => exact ⟨k + 1, by omega, by go_num, Lib.hid (take_succ_eq hlt hlt2 hE.out HF.out), T2⟩
          case measure => exact meas hlt
      · have e : k = l.length := by omega
        subst e
        go_wp2_with fail
        go_ret
        exact ⟨ret_bool (eqB_true (take_eq_len HH.out hE.out)).symm, hbl.out⟩
  · have hl' : ¬ (l.length : Int) = (m.length : Int) := by omega
    have hl2 : ((l.length : Int) == (m.length : Int)) = false := by simpa using hl'
    have HN : Hid (eqB l m = false) := Lib.hid (eqB_false (fun e => hl (by rw [e])))
    go_enter Try.func28, Try.ntmps28
    go_wp2_with fail
    go_ret
    exact ⟨ret_bool HN.out.symm, Below.refl _ _⟩

set_option maxHeartbeats 4000000 in
theorem EqualFuncN_step (d : Nat) (hN : EqN d) : EqNF (d + 1) := by
  intro B a b l m w h1 h2 hB
  have hz1 := h1.1
  have hz2 := h2.1
  obtain ⟨A1, c1, rfl, ha1, ha2, hln1, R1⟩ := h1.open
  obtain ⟨A2, c2, rfl, hb1, hb2, hln2, R2⟩ := h2.open
  have R1' := Lib.hid R1; have R2' := Lib.hid R2; clear R1 R2 h1 h2
  by_cases hl : l.length = m.length
  · rw [← hl]
    rw [← hl] at hb1
    have HH := Lib.hid hl; clear hl
    go_enter Try.func16, Try.ntmps16
    go_wp2_with fail
    go_loopw [17] (fun i wr => ∃ k : Nat, k ≤ l.length ∧ i = .int .i64 k ∧ Hid (l.take k = m.take k) ∧ Hid (Below w.heap.size w wr)) (fun i _ => l.length - (intOf i).toNat)
    case atStart => exact ⟨0, Nat.zero_le _, rfl, Lib.hid rfl, Lib.hid (Below.refl _ _)⟩
    case round =>
      obtain ⟨k, hk, rfl, hE, hbl⟩ := hrel
      by_cases hlt : k < l.length
      · have hlt2 : k < m.length := by rw [← HH.out]; exact hlt
        obtain ⟨g1, o1, rfl, hg1, q1⟩ := R1'.out (by omega)
        obtain ⟨g2, o2, rfl, hg2, q2⟩ := R2'.out (by omega)
        have hc1 : ∀ i, wr.cell? ⟨g1, i, none⟩ = w.cell? ⟨g1, i, none⟩ := fun i => hbl.out.cell (by show g1 < _; omega)
        have hc2 : ∀ i, wr.cell? ⟨g2, i, none⟩ = w.cell? ⟨g2, i, none⟩ := fun i => hbl.out.cell (by show g2 < _; omega)
        obtain ⟨vk, va, x1, x2, x3, x4, x5, f1, f2, x6, x7⟩ := q1 k l[k] (List.getElem?_eq_getElem hlt)
        obtain ⟨uk, ua, y1, y2, y3, y4, y5, g1, g2, y6, y7⟩ := q2 k m[k] (List.getElem?_eq_getElem hlt2)
        obtain ⟨Ak, ck, rfl⟩ := x6.form
        obtain ⟨Aa, ca, rfl⟩ := ARd.form (d := d) x7
        obtain ⟨Dk, ek, rfl⟩ := y6.form
        obtain ⟨Da, ea, rfl⟩ := ARd.form (d := d) y7
        rw [← hc1] at x1 x2 x3 x4 x5
        rw [← hc2] at y1 y2 y3 y4 y5
        have z1 := Nat.le_trans (sz_mem (List.getElem_mem hlt)) hz1
        have z2 := Nat.le_trans (sz_mem (List.getElem_mem hlt2)) hz2
        have HX : Hid (NV d w B (.agg #[Value.int .i64 l[k].kind, Value.int .i64 l[k].tag, Value.string l[k].text, Value.slice Ak l[k].kids.length ck, Value.slice Aa l[k].args.length ca]) l[k] ∧ NV d w B (.agg #[Value.int .i64 m[k].kind, Value.int .i64 m[k].tag, Value.string m[k].text, Value.slice Dk m[k].kids.length ek, Value.slice Da m[k].args.length ea]) m[k]) := Lib.hid ⟨⟨_, _, rfl, z1, f1, f2, x6, x7⟩, ⟨_, _, rfl, z2, g1, g2, y6, y7⟩⟩
        clear x6 x7 y6 y7 f1 f2 g1 g2 z1 z2
        clear q1 q2 hc1 hc2
        have hg2w : g2 < wr.heap.size := Nat.lt_of_lt_of_le hg2 (Nat.le_trans hB hbl.out.size)
        have T0 := Lib.hid (two_below wr (Obj.cells #[Value.int .i64 l[k].kind, Value.int .i64 l[k].tag, Value.string l[k].text, Value.slice Ak l[k].kids.length ck, Value.slice Aa l[k].args.length ca] 31) (Obj.cells #[Value.int .i64 m[k].kind, Value.int .i64 m[k].tag, Value.string m[k].text, Value.slice Dk m[k].kids.length ek, Value.slice Da m[k].args.length ea] 31))
        have T1 := Lib.hid (hbl.out.trans (T0.out.mono hbl.out.size))
        go_wp2_with fail
        refine (hN B _ _ l[k] m[k] _ (HX.out.1.below T1.out hB (Nat.le_refl _)) (HX.out.2.below T1.out hB (Nat.le_refl _)) (Nat.le_trans hB T1.out.size)).mono ?_
        rintro e w1 ⟨rfl, hb⟩
        have T2 := Lib.hid (T1.out.trans (hb.mono T1.out.size)); clear hb
        cases hQ : eqB l[k] m[k] with
        | false =>
          have HF := Lib.hid (eqB_no hQ); clear hQ
          go_wp2_with fail
          go_ret
          exact ⟨ret_bool (eqB_false (fun e => HF.out (by subst e; rfl))).symm, T2.out⟩
        | true =>
          have HF := Lib.hid (eqB_iff.1 hQ); clear hQ
          go_wp2_with fail
          go_roundw
          case rel => exact ⟨k + 1, by omega, by go_num, Lib.hid (take_succ_eq hlt hlt2 hE.out HF.out), T2⟩
          case measure => exact meas hlt
      · have e : k = l.length := by omega
        subst e
        go_wp2_with fail
        go_ret
        exact ⟨ret_bool (eqB_true (take_eq_len HH.out hE.out)).symm, hbl.out⟩
  · have hl' : ¬ (l.length : Int) = (m.length : Int) := by omega
    have hl2 : ((l.length : Int) == (m.length : Int)) = false := by simpa using hl'
    have HN : Hid (eqB l m = false) := Lib.hid (eqB_false (fun e => hl (by rw [e])))
    go_enter Try.func16, Try.ntmps16
    go_wp2_with fail
    go_ret
    exact ⟨ret_bool HN.out.symm, Below.refl _ _⟩

end Go.Proofs.Ytlceaadaeednpaa.Tr
