/-
  The contract of Eval.
-/
import Derived.Test.YtfocokjihbenmaaDoorFoSplit
import Derived.Test.YtfocokjihbenmaaDoorFoPar
import Derived.Test.YtfocokjihbenmaaDoorFoValue
namespace Go.Proofs.YtfocokjihbenmaaDoor.Fo
open Go.RowKit Go.Proofs.YtfocokjihbenmaaDoor.Nu
set_option linter.unusedVariables false
set_option linter.unusedSimpArgs false

theorem split_all {s : List UInt8} {l : List Tok} (h : splitL s = some l) : l.length ≤ s.length ∧ ∀ x ∈ l, 0 < x.length ∧ x.length ≤ 19 := by
  have h1 := toks_all (trimB s).length (trimB s) (Nat.le_refl _) l h
  have h2 := trimB_le s
  exact ⟨by omega, h1.2⟩
theorem top_wf {l : List Tok} (h : ∀ x ∈ l, 0 < x.length ∧ x.length ≤ 19) (hb : (top l).b = false) : (top l).t.wf :=
  (G_wf (fuel l) 0 .bad l false (by decide) (fun t ht => (h t ht).2) (fun h => absurd h (by decide))).2 hb
theorem topB_iff (l : List Tok) : topB l = decide ((top l).b = false ∧ (top l).r = []) := by
  unfold topB
  cases (top l).b <;> cases (top l).r <;> simp
theorem top_lv (l : List Tok) : (top l).t.lv ≤ l.length := by
  have h1 := G_sz (fuel l) 0 .bad l false
  have h2 := T.lv_sz (top l).t
  unfold top at *
  simp only [T.sz] at h1
  omega
theorem eval_fin {w W : World} (h : Below w.heap.size w W) (u v : Value) : Below w.heap.size w ((W.setCell ⟨w.heap.size, 0, none⟩ u).setCell ⟨w.heap.size, 1, none⟩ v) := (h.setCell (Nat.le_refl _) _).setCell (Nat.le_refl _) _
set_option maxRecDepth 100000 in
set_option maxHeartbeats 4000000 in
theorem Eval_any (s : ByteArray) (w : World) (ht : Tb w) : Calls Tryd.prog 8 #[.string s] w fun e w' => e = .returned (res (ev s.data.toList)) ∧ Below w.heap.size w w' := by
  have hsz : s.data.toList.length = s.size := rfl
  by_cases h4 : 400 < s.size
  · have e1 : ev s.data.toList = ⟨0, 0, 3⟩ := by unfold ev; rw [if_pos (by omega)]
    rw [e1]
    have hd : decide ((s.size : Int) > 400) = true := by rw [decide_eq_true_iff]; omega
    clear e1 hsz
    go_enter Tryd.func8, Tryd.ntmps8
    go_wp2
    exact bodyPost_ret (v := res ⟨0, 0, 3⟩) (by simp [results, Tryd.results8, go_sem, res]) rfl ⟨rfl, (Below.refl _ w).alloc (Nat.le_refl _) _⟩
  · have hd : decide ((s.size : Int) > 400) = false := by rw [decide_eq_false_iff_not]; omega
    have HS := Lib.hid (fun w => split_any s (by omega) w)
    cases hq : splitL s.data.toList with
    | none =>
      have e1 : ev s.data.toList = ⟨0, 0, 1⟩ := by unfold ev; rw [if_neg (by omega), hq]
      rw [e1]
      have HQ := Lib.hid hq
      clear e1 hsz hq
      go_enter Tryd.func8, Tryd.ntmps8
      go_wp2_with fail
      refine (HS.out _).mono ?_
      rintro e w1 ⟨hb, hp⟩
      rw [HQ.out] at hp
      obtain rfl := hp
      obtain ⟨hc, hf⟩ := bcell hb
      have hz1 : w.heap.size < w1.heap.size := by have := hb.size; simp at this; omega
      have HB := Lib.hid (below1 hb)
      go_wp2
      exact bodyPost_ret (v := res ⟨0, 0, 1⟩) (by simp [results, Tryd.results8, go_sem, hc, res]) rfl ⟨rfl, eval_fin HB.out _ _⟩
    | some l =>
      obtain ⟨hl1, hl2⟩ := split_all hq
      have e1 : ev s.data.toList = evT l := by unfold ev; rw [if_neg (by omega), hq]
      rw [e1]
      have HQ := Lib.hid hq
      have HP : Hid (∀ (W : World) (v : Value), W.ownsRow (w.heap.size + 1) 9 1 v l.length (strs l) → 0 < W.heap.size → Calls Tryd.prog 15 #[v] W fun e w' => ∃ x, e = .returned (.tuple #[x, .bool (topB l)]) ∧ Nd (W.heap.size ≤ ·) w' (top l).t x ∧ Below W.heap.size W w') := Lib.hid fun W v hW hlt => by
        obtain ⟨bt, hbt, hts⟩ := own_TS hW hlt
        exact parse_tok W bt v l hts hbt hl2 (by omega)
      cases hB : topB l with
      | false =>
        have e2 : evT l = ⟨0, 0, 1⟩ := by unfold evT; rw [topB_iff] at hB; rw [if_neg (by simpa using hB)]
        rw [e2]
        clear e1 e2 hsz hq hl1 hl2
        go_enter Tryd.func8, Tryd.ntmps8
        go_wp2_with fail
        refine (HS.out _).mono ?_
        rintro e w1 ⟨hb, hp⟩
        rw [HQ.out] at hp
        obtain ⟨v, rfl, hown⟩ := hp
        obtain ⟨VA, VC, hv⟩ := own_form hown
        subst hv
        have hz1 := hb.size
        simp only [World.size_alloc] at hz1 hown
        rw [hB] at HP
        have HOW := Lib.hid hown
        have hr1 : w1.heap[w.heap.size]? = some (nb 0 0) := (hb.block _ (by simp)).trans (nh _ _)
        have HB1 := Lib.hid (below1 hb)
        have HR1 := Lib.hid hr1
        clear hown hb hr1
        go_wp2_with fail
        refine (HP.out _ _ HOW.out (by omega)).mono ?_
        rintro e w2 ⟨x, rfl, hx, hb2⟩
        obtain ⟨o2, A2, k2, c2', rfl⟩ := hx.form
        have hr2 : w2.heap[w.heap.size]? = some (nb 0 0) := (hb2.block _ (by omega)).trans HR1.out
        have hz2 := hb2.size
        have hlt2 : w.heap.size < w2.heap.size := by omega
        obtain ⟨r0, r1, rf0, rf1⟩ := c2 hr2
        have HB2 := Lib.hid (HB1.out.trans (hb2.mono HB1.out.size))
        have HR2 := Lib.hid hr2
        have HX := Lib.hid hx
        clear hb2 hr2 hx
        go_wp2_with fail
        exact bodyPost_ret (v := res ⟨0, 0, 1⟩) (by simp [results, Tryd.results8, go_sem, hlt2, r0, r1, res]) rfl ⟨rfl, (eval_fin HB2.out _ _).alloc (by simp [World.setCell]; omega) _⟩
      | true =>
        have hB2 : (top l).b = false ∧ (top l).r = [] := by rw [topB_iff] at hB; simpa using hB
        have hlvv := top_lv l
        by_cases h20 : 20 < (top l).t.lv
        · have e2 : evT l = ⟨0, 0, 17⟩ := by unfold evT; rw [if_pos hB2, if_pos h20]
          rw [e2]
          have hd2 : decide (((top l).t.lv : Int) > 20) = true := by rw [decide_eq_true_iff]; omega
          clear e1 e2 hsz hq hl1 hl2 hB2
          go_enter Tryd.func8, Tryd.ntmps8
          go_wp2_with fail
          refine (HS.out _).mono ?_
          rintro e w1 ⟨hb, hp⟩
          rw [HQ.out] at hp
          obtain ⟨v, rfl, hown⟩ := hp
          obtain ⟨VA, VC, hv⟩ := own_form hown
          subst hv
          have hz1 := hb.size
          simp only [World.size_alloc] at hz1 hown
          rw [hB] at HP
          have HOW := Lib.hid hown
          have hr1 : w1.heap[w.heap.size]? = some (nb 0 0) := (hb.block _ (by simp)).trans (nh _ _)
          have HB1 := Lib.hid (below1 hb)
          have HR1 := Lib.hid hr1
          clear hown hb hr1
          go_wp2_with fail
          refine (HP.out _ _ HOW.out (by omega)).mono ?_
          rintro e w2 ⟨x, rfl, hx, hb2⟩
          obtain ⟨o2, A2, k2, c2', rfl⟩ := hx.form
          have hr2 : w2.heap[w.heap.size]? = some (nb 0 0) := (hb2.block _ (by omega)).trans HR1.out
          have hz2 := hb2.size
          have hlt2 : w.heap.size < w2.heap.size := by omega
          obtain ⟨r0, r1, rf0, rf1⟩ := c2 hr2
          have HB2 := Lib.hid (HB1.out.trans (hb2.mono HB1.out.size))
          have HR2 := Lib.hid hr2
          have HX := Lib.hid hx
          clear hb2 hr2 hx
          go_wp2_with fail
          exact bodyPost_ret (v := res ⟨0, 0, 17⟩) (by simp [results, Tryd.results8, go_sem, hlt2, r0, r1, res]) rfl ⟨rfl, (eval_fin HB2.out _ _).alloc (by simp [World.setCell]; omega) _⟩
        · have e2 : evT l = val (top l).t := by unfold evT; rw [if_pos hB2, if_neg h20]
          rw [e2]
          have hd2 : decide (((top l).t.lv : Int) > 20) = false := by rw [decide_eq_false_iff_not]; omega
          have hwf := top_wf hl2 hB2.1
          have HV : Hid (∀ (X : Nat → Prop) (W : World) (v : Value), Nd X W (top l).t v → Below w.heap.size w W → Calls Tryd.prog 16 #[v] W fun e w' => e = .returned (res (val (top l).t)) ∧ Below W.heap.size W w') := Lib.hid fun X W v hN hW => value_any (top l).t hwf X W v hN (ht.below hW)
          generalize val (top l).t = R at HV ⊢
          unfold res at HV
          clear e1 e2 hsz hq hl1 hl2 hB2 hwf
          go_enter Tryd.func8, Tryd.ntmps8
          go_wp2_with fail
          refine (HS.out _).mono ?_
          rintro e w1 ⟨hb, hp⟩
          rw [HQ.out] at hp
          obtain ⟨v, rfl, hown⟩ := hp
          obtain ⟨VA, VC, hv⟩ := own_form hown
          subst hv
          have hz1 := hb.size
          simp only [World.size_alloc] at hz1 hown
          rw [hB] at HP
          have HOW := Lib.hid hown
          have hr1 : w1.heap[w.heap.size]? = some (nb 0 0) := (hb.block _ (by simp)).trans (nh _ _)
          have HB1 := Lib.hid (below1 hb)
          have HR1 := Lib.hid hr1
          clear hown hb hr1
          go_wp2_with fail
          refine (HP.out _ _ HOW.out (by omega)).mono ?_
          rintro e w2 ⟨x, rfl, hx, hb2⟩
          obtain ⟨o2, A2, k2, c2', rfl⟩ := hx.form
          have hr2 : w2.heap[w.heap.size]? = some (nb 0 0) := (hb2.block _ (by omega)).trans HR1.out
          have hz2 := hb2.size
          have hlt2 : w.heap.size < w2.heap.size := by omega
          obtain ⟨r0, r1, rf0, rf1⟩ := c2 hr2
          have HB2 := Lib.hid (HB1.out.trans (hb2.mono HB1.out.size))
          have HR2 := Lib.hid hr2
          have HX := Lib.hid hx
          clear hb2 hr2 hx
          go_wp2_with fail
          refine (HV.out (w1.heap.size ≤ ·) _ _ (HX.out.below ((Below.refl _ w2).alloc (Nat.le_refl _) _)) (HB2.out.alloc HB2.out.size _)).mono ?_
          rintro e w3 ⟨rfl, hb3⟩
          have hz3 := hb3.size
          simp only [World.size_alloc] at hz3
          have hlt3 : w.heap.size < w3.heap.size := by omega
          have hr3 : w3.heap[w.heap.size]? = some (nb 0 0) := (hb3.block _ (by simp; omega)).trans ((Below.heap_alloc _ _ _ hlt2).trans HR2.out)
          obtain ⟨p0, p1, pf0, pf1⟩ := c2 hr3
          have HB3 := Lib.hid ((HB2.out.alloc HB2.out.size _).trans (hb3.mono (by simp; omega)))
          clear hb3 hr3
          go_wp2_with fail
          exact bodyPost_ret (v := res R) (by simp [results, Tryd.results8, go_sem, hlt3, p0, p1, res]) rfl ⟨rfl, eval_fin HB3.out _ _⟩
end Go.Proofs.YtfocokjihbenmaaDoor.Fo
