/-
  The rule comparison of the grammar.
-/
import Derived.Test.YtfocokjihbenmaaDoorFoRule
import Derived.Deep.RegionWith
namespace Go.Proofs.YtfocokjihbenmaaDoor.Fo
open Go.RowKit Go.Proofs.YtfocokjihbenmaaDoor.Nu
set_option linter.unusedVariables false
set_option linter.unusedSimpArgs false

set_option maxRecDepth 100000 in
set_option maxHeartbeats 2000000 in
theorem lv_2 (n : Nat) (ih1 : ∀ m, m < n → Lv 92 m 3) (ih2 : ∀ m, m < n → Lv 92 m 3) : Lv 76 n 2 := by
  intro gp bt w v l b h hn hl
  obtain ⟨n, rfl⟩ : ∃ j, n = j + 1 := ⟨n - 1, by omega⟩
  have hGG := G_2 n .bad l b
  generalize G (n + 1) 2 .bad l b = RR at hGG ⊢
  have HQ := Lib.hid (ih1 n (by omega) gp bt (w.alloc zn) v l b (h.alloc _) (by omega) hl)
  have hgp := h.lt
  have hbt := h.lb
  have hG := G_sz n 3 .bad l b
  simp only [T.sz] at hG
  clear h ih1
  obtain ⟨R, hR⟩ : ∃ R, G n 3 .bad l b = R := ⟨_, rfl⟩
  rw [hR] at HQ hG hGG
  have HGG := Lib.hid hGG
  clear hR hGG
  have I2 := Lib.hid ih2; clear ih2
  have hL0 := T.lv_sz R.t
  go_enter Tryd.func76, Tryd.ntmps76
  go_wp2_with fail
  (with_reducible refine HQ.out.mono ?_)
  rintro e w1 ⟨x, u, rfl, hx, hs, hf⟩
  obtain ⟨o1, A1, k1, c1, rfl⟩ := hx.form
  have hz1 := hf.size
  simp only [World.size_alloc] at hz1
  have hx1 : Nd (w.heap.size + 1 ≤ ·) w1 R.t (.agg #[.string o1, .slice A1 k1 c1, .int .i64 (R.t.lv : Int)]) := hx.imp fun i hi => by simp at hi; omega
  obtain ⟨wv, hwv⟩ : ∃ wv, w1.alloc (one o1 A1 k1 c1 R.t.lv) = wv := ⟨_, rfl⟩
  have hsv : St gp bt wv u R.r R.b := hwv ▸ hs.alloc _
  have hzv : wv.heap.size = w1.heap.size + 1 := by rw [← hwv]; simp
  have HT := Lib.hid (take_any (hsv.alloc (row cmps 9)) (w1.heap.size + 1) cmps (row_at' wv _ hzv.symm _ _) (by decide) (by omega))
  have hcv : wv.heap[w1.heap.size]? = some (one o1 A1 k1 c1 R.t.lv) := by rw [← hwv]; exact heap_new _ _
  have hfa : Fr gp (w.heap.size + 1) (w.alloc zn) wv := by rw [← hwv]; exact (hf.mono (by simp)).alloc (by omega) _
  have hfv : Fr gp (w.heap.size + 1) (w.alloc zn) (wv.alloc (row cmps 9)) := hfa.alloc (by omega) _
  have hxa : Nd (w.heap.size + 1 ≤ ·) wv R.t (.agg #[.string o1, .slice A1 k1 c1, .int .i64 (R.t.lv : Int)]) := by rw [← hwv]; exact hx1.below ((Below.refl _ w1).alloc (Nat.le_refl _) _)
  have hxv : Nd (w.heap.size + 1 ≤ ·) (wv.alloc (row cmps 9)) R.t (.agg #[.string o1, .slice A1 k1 c1, .int .i64 (R.t.lv : Int)]) := hxa.below ((Below.refl _ wv).alloc (Nat.le_refl _) _)
  have hcv2 : (wv.alloc (row cmps 9)).heap[w1.heap.size]? = some (one o1 A1 k1 c1 R.t.lv) := (Below.heap_alloc _ _ _ (by omega)).trans hcv
  have HV := Lib.hid (And.intro hfv (And.intro hxv hcv2))
  clear hs hf hx hx1 hsv hcv hfv hxv hcv2 hfa hxa
  obtain ⟨W, hW⟩ : ∃ W, wv.alloc (row cmps 9) = W := ⟨_, rfl⟩
  rw [hW] at HT HV
  rw [show (cmps : List Tok).length = 6 from rfl] at HT
  have hzW : wv.heap.size < W.heap.size := by rw [← hW]; simp
  unfold row sv at hW
  unfold one at hwv
  simp only [cmps, List.map_cons, List.map_nil] at hW
  cases hq : next cmps R.r with
  | none =>
    rw [hq] at HT
    have HQN := Lib.hid hq
    clear hq
    go_wp2_with fail
    (with_reducible refine HT.out.mono ?_)
    rintro e w2 ⟨rfl, hs, hf⟩
    obtain ⟨hfv, hxv, hcv⟩ := HV.out
    have hf2 : Fr gp (w.heap.size + 1) (w.alloc zn) w2 := hfv.trans hf (by omega)
    obtain ⟨z0, z1, z2, zf⟩ := c3 (fin0 hf2 hgp)
    have zf0 := zf 0; have zf1 := zf 1; have zf2 := zf 2
    obtain ⟨v0, v1, v2, vf⟩ := c3 ((hf.block w1.heap.size (by omega) (by omega)).trans hcv)
    obtain ⟨y1, y2, y3, y4⟩ := fin hs hgp hbt hf2 (hxv.fr (by intro i hi; omega) hf)
    have Y1 := Lib.hid y1; have Y := Lib.hid (And.intro y2 (And.intro y3 y4))
    clear hs hf hfv hxv hcv hf2 y1 y2 y3 y4
    unfold set9 at Y1 Y
    go_wp2_with fail
    generalize (((w2.setCell ⟨w.heap.size, 0, none⟩ (.string o1)).setCell ⟨w.heap.size, 1, none⟩ (.slice A1 k1 c1)).setCell ⟨w.heap.size, 2, none⟩ (.int .i64 (R.t.lv : Int))) = W9 at Y1 Y ⊢
    obtain ⟨q0, q1, q2, _⟩ := c3 Y1.out
    refine bodyPost_ret (v := .agg #[.string o1, .slice A1 k1 c1, .int .i64 (R.t.lv : Int)]) (by simp [results, Tryd.results76, go_sem, q0, q1, q2]) rfl ?_
    have e9 := HGG.out
    rw [HQN.out] at e9
    rw [e9]
    exact ⟨_, _, rfl, Y.out.1, Y.out.2.1, Y.out.2.2⟩
  | some y =>
    obtain ⟨o, r⟩ := y
    rw [hq] at HT
    have hlr : R.r.length = r.length + 1 := by rw [(next_le hq).1]; rfl
    have HQN := Lib.hid hq
    clear hq
    go_wp2_with fail
    (with_reducible refine HT.out.mono ?_)
    rintro e w2 ⟨rfl, u2, hs, hf⟩
    unfold sv
    obtain ⟨hfv, hxv, hcv⟩ := HV.out
    have hcl : w2.heap[w1.heap.size]? = some _ := (hf.block w1.heap.size (by omega) (by omega)).trans hcv
    obtain ⟨v0, v1, v2, vf⟩ := c3 hcl
    have hf2 : Fr gp (w.heap.size + 1) (w.alloc zn) w2 := hfv.trans hf (by omega)
    have hz2 := hf.size
    have hx2 := hxv.fr (by intro i hi; omega) hf
    have HS2 := Lib.hid hs
    have HV2 := Lib.hid (And.intro hf2 (And.intro hx2 hcl))
    have HQ2 : Hid (∀ W, W.heap = w2.heap → Calls Tryd.prog 92 #[.pointer (some ⟨gp, 0, none⟩)] W (Post gp bt W (G n 3 .bad r R.b))) := Lib.hid fun W hW =>
      I2.out n (by omega) gp bt W u2 r R.b (HS2.out.keep (by rw [hW]) (by rw [hW]) (by rw [hW]; exact Nat.le_refl _)) (by omega) (by omega)
    have hG2 := G_sz n 3 .bad r R.b
    have hL2 := T.lv_sz (G n 3 .bad r R.b).t
    simp only [T.sz] at hG2
    obtain ⟨Y, hY⟩ : ∃ Y, G n 3 .bad r R.b = Y := ⟨_, rfl⟩
    rw [hY] at HQ2 hG2 hL2
    have HY := Lib.hid hY
    clear hY
    have HM : Hid (∀ (W0 W : World) (o2 : ByteArray) (A2 : Option Addr) (k2 c2 : Nat), W.heap = (W0.alloc (two o1 A1 k1 c1 R.t.lv o2 A2 k2 c2 Y.t.lv)).heap →
        Calls Tryd.prog 75 #[.string ⟨o.toArray⟩, .slice (some ⟨W0.heap.size, 0, none⟩) 2 2] W fun e w' => e = .returned (.agg #[.string ⟨o.toArray⟩, .slice (some ⟨W0.heap.size, 0, none⟩) 2 2, .int .i64 ((max R.t.lv Y.t.lv + 1 : Nat) : Int)]) ∧ Below W.heap.size W w') := Lib.hid fun W0 W o2 A2 k2 c2 hW =>
      makeNode_2 o W W0.heap.size _ o1 A1 k1 c1 R.t.lv o2 A2 k2 c2 _ (by rw [hW]; exact heap_new _ _) (by omega) (by omega)
    clear hs hf hfv hxv hcv hcl hf2 hx2 hG2 hL2
    go_wp2_with fail
    go_region_with (first
      | (go_at_call 75; refine (HM.out w3 _ o2 A2 k2 c2 (by rfl)).mono ?_; rintro e w4 ⟨rfl, hb4⟩; obtain ⟨y0, y1, y2, yf⟩ := c3 (blk4 (fin0 HV2.out.1 hgp) (by omega) hf3 (by rfl) hb4 (by rfl)); have yf0 := yf 0; have yf1 := yf 1; have yf2 := yf 2)
      | (go_at_call 92; refine (HQ2.out _ (by rfl)).mono ?_; rintro e w3 ⟨xv, u3, rfl, hx3, hs3, hf3⟩; obtain ⟨o2, A2, k2, c2, rfl⟩ := hx3.form; obtain ⟨t0, t1, t2, tf⟩ := c3 ((hf3.block w1.heap.size (lt_heap HV2.out.2.2) (by omega)).trans HV2.out.2.2)))
    all_goals
      have f3 : Fr gp w2.heap.size w2 w3 := ⟨hf3.os, hf3.tape, hf3.output, hf3.size, hf3.block⟩
      have hb : ∀ W : World, W.heap = (w3.alloc (two o1 A1 k1 c1 R.t.lv o2 A2 k2 c2 Y.t.lv)).heap → W.os = w3.os → W.tape = w3.tape → W.output = w3.output → Below W.heap.size W w4 → Below (w3.alloc (two o1 A1 k1 c1 R.t.lv o2 A2 k2 c2 Y.t.lv)).heap.size (w3.alloc (two o1 A1 k1 c1 R.t.lv o2 A2 k2 c2 Y.t.lv)) w4 :=
        fun W h1 h2 h3 h4 h5 => ⟨h5.os.trans h2, h5.tape.trans h3, h5.output.trans h4, by rw [← h1]; exact h5.size, fun i hi => by rw [← h1] at hi ⊢; exact h5.block i hi⟩
      have hb4' := hb _ rfl rfl rfl rfl hb4
      have hz3 := f3.size
      have B34 : Below w3.heap.size w3 w4 := ((Below.refl _ w3).alloc (Nat.le_refl _) _).trans (hb4'.mono (by simp))
      have F4 : Fr gp (w.heap.size + 1) (w.alloc zn) w4 := (HV2.out.1.trans f3 (by omega)).trans (Fr.of B34) (by omega)
      have hN4 := nd_bin (X := (w.heap.size + 1 ≤ ·)) o (by omega) (HV2.out.2.1.fr (by intro i hi; omega) f3) (hx3.imp fun i (hi : w2.heap.size ≤ i) => by omega) hb4'
      obtain ⟨y1, y2, y3, y4⟩ := fin (hs3.below B34) hgp hbt F4 hN4
      have Y1 := Lib.hid y1; have YY := Lib.hid (And.intro y2 (And.intro y3 y4))
      clear y1 y2 y3 y4 hN4 F4 B34 hb4' hb f3 hb4 hf3 hx3 hs3
      unfold set9 at Y1 YY
      have hm : (((max R.t.lv Y.t.lv + 1 : Nat) : Int)) = ((T.bin o R.t Y.t).lv : Int) := rfl
      have hm2 : (((max R.t.lv Y.t.lv : Nat) : Int)) + 1 = ((T.bin o R.t Y.t).lv : Int) := by rw [← hm]; simp
      try rw [hm2]
      generalize (((w4.setCell ⟨w.heap.size, 0, none⟩ (.string ⟨o.toArray⟩)).setCell ⟨w.heap.size, 1, none⟩ (.slice (some ⟨w3.heap.size, 0, none⟩) 2 2)).setCell ⟨w.heap.size, 2, none⟩ (.int .i64 ((T.bin o R.t Y.t).lv : Int))) = W9 at Y1 YY ⊢
      obtain ⟨q0, q1, q2, _⟩ := c3 Y1.out
      clear hm hm2
      go_wp2_with fail
      refine bodyPost_ret (v := .agg #[.string ⟨o.toArray⟩, .slice (some ⟨w3.heap.size, 0, none⟩) 2 2, .int .i64 ((T.bin o R.t Y.t).lv : Int)]) (by simp [results, Tryd.results76, go_sem, q0, q1, q2]) rfl ?_
      have e9 : RR = ⟨.bin o R.t Y.t, Y.r, Y.b⟩ := by
        have h := HGG.out
        rw [HQN.out] at h
        rw [← HY.out]; exact h
      rw [e9]
      exact ⟨_, _, rfl, YY.out.1, YY.out.2.1, YY.out.2.2⟩
end Go.Proofs.YtfocokjihbenmaaDoor.Fo
