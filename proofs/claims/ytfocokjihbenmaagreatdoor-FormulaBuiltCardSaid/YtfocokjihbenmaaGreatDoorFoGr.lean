/-
  The rules of the grammar that are no chains.
  The rule power of the grammar.
  The rule comparison of the grammar.
  The rule primary of the grammar.
  The contract of parse.
-/
import Derived.Test.YtfocokjihbenmaaGreatDoorFoMm
import Derived.Deep.RegionWith
import Derived.RegionTactic
namespace Go.Proofs.YtfocokjihbenmaaGreatDoor.Fo
open Go.RowKit Go.Proofs.YtfocokjihbenmaaGreatDoor.Nu
set_option linter.unusedVariables false
set_option linter.unusedSimpArgs false

def one (o1 : ByteArray) (A1 : Option Addr) (k1 c1 : Nat) (n1 : Nat) : Obj := .cells #[.string o1, .slice A1 k1 c1, .int .i64 (n1 : Int)] 44
theorem blk4 {gp g : Nat} {w2 w3 w4 W0 W4 : World} {O o : Obj} (h : w2.heap[g]? = some o) (hg : g ≠ gp) (h3 : Fr gp W0.heap.size W0 w3) (hW : W0.heap = w2.heap) (h4 : Below W4.heap.size W4 w4) (hW4 : W4.heap = (w3.alloc O).heap) : w4.heap[g]? = some o := by
  have h2 : g < W0.heap.size := by rw [hW]; exact lt_heap h
  have h5 := h3.size
  rw [h4.block g (by rw [hW4]; simp; omega), hW4, Below.heap_alloc _ _ _ (by omega), h3.block g h2 hg, hW]
  exact h
section
variable {gp bt : Nat} {w w3 w4 : World} {X : Nat → Prop} {x y : T} {o1 o2 : ByteArray} {A1 A2 : Option Addr} {k1 c1 k2 c2 : Nat}
theorem nd_bin (o : Tok) (hX : X w3.heap.size) (hx : Nd X w3 x (.agg #[.string o1, .slice A1 k1 c1, .int .i64 (x.lv : Int)])) (hy : Nd X w3 y (.agg #[.string o2, .slice A2 k2 c2, .int .i64 (y.lv : Int)]))
    (hb4 : Below (w3.alloc (two o1 A1 k1 c1 x.lv o2 A2 k2 c2 y.lv)).heap.size (w3.alloc (two o1 A1 k1 c1 x.lv o2 A2 k2 c2 y.lv)) w4) :
    Nd X w4 (.bin o x y) (.agg #[.string ⟨o.toArray⟩, .slice (some ⟨w3.heap.size, 0, none⟩) 2 2, .int .i64 ((max x.lv y.lv + 1 : Nat) : Int)]) := by
  have B34 : Below w3.heap.size w3 w4 := ((Below.refl _ w3).alloc (Nat.le_refl _) _).trans (hb4.mono (by simp))
  exact ⟨w3.heap.size, _, _, _, _, _, _, _, rfl, hX, (hb4.block w3.heap.size (by simp)).trans (heap_new _ _), hx.below B34, hy.below B34⟩
theorem nd_un (o : Tok) (hX : X w3.heap.size) (hx : Nd X w3 x (.agg #[.string o1, .slice A1 k1 c1, .int .i64 (x.lv : Int)]))
    (hb4 : Below (w3.alloc (one o1 A1 k1 c1 x.lv)).heap.size (w3.alloc (one o1 A1 k1 c1 x.lv)) w4) :
    Nd X w4 (.un o x) (.agg #[.string ⟨o.toArray⟩, .slice (some ⟨w3.heap.size, 0, none⟩) 1 1, .int .i64 ((x.lv + 1 : Nat) : Int)]) := by
  have B34 : Below w3.heap.size w3 w4 := ((Below.refl _ w3).alloc (Nat.le_refl _) _).trans (hb4.mono (by simp))
  exact ⟨w3.heap.size, _, _, _, _, rfl, hX, (hb4.block w3.heap.size (by simp)).trans (heap_new _ _), hx.below B34⟩
end
-- RULES
set_option maxRecDepth 100000 in
set_option maxHeartbeats 2000000 in
theorem lv_6 (n : Nat) (ih1 : ∀ m, m < n → Lv 128 m 6) (ih2 : ∀ m, m < n → Lv 129 m 7) : Lv 128 n 6 := by
  intro gp bt w v l b h hn hl
  obtain ⟨n, rfl⟩ : ∃ j, n = j + 1 := ⟨n - 1, by omega⟩
  have hGG := G_6 n .bad l b
  generalize G (n + 1) 6 .bad l b = RR at hGG ⊢
  have HGG := Lib.hid hGG
  have hgp := h.lt
  have hbt := h.lb
  have I1 := Lib.hid ih1; have I2 := Lib.hid ih2
  obtain ⟨W, hW⟩ : ∃ W, (w.alloc zn).alloc (row uns 9) = W := ⟨_, rfl⟩
  have HT := Lib.hid (take_any ((h.alloc zn).alloc (row uns 9)) (w.heap.size + 1) uns (row_at' (w.alloc zn) _ (by simp) _ _) (by decide) (by omega))
  have HV : Hid (Fr gp (w.heap.size + 1) (w.alloc zn) W) := Lib.hid (hW ▸ (Fr.refl _ _ _).alloc (by simp) _)
  have hzW : W.heap.size = w.heap.size + 2 := by rw [← hW]; simp
  rw [hW] at HT
  rw [show (uns : List Tok).length = 4 from rfl] at HT
  clear h hGG ih1 ih2
  unfold row sv at hW
  simp only [uns, List.map_cons, List.map_nil] at hW
  cases hq : next uns l with
  | none =>
    rw [hq] at HT
    have HQN := Lib.hid hq
    clear hq
    go_enter Tryz.func128, Tryz.ntmps128
    go_wp2_with fail
    (with_reducible refine HT.out.mono ?_)
    rintro e w2 ⟨rfl, hs, hf⟩
    have hz2 := hf.size
    have HF2 := Lib.hid (HV.out.trans hf (by omega))
    have HQ2 := Lib.hid (I2.out n (by omega) gp bt w2 v l b hs (by omega) (by omega))
    have e9 : RR = G n 7 .bad l b := by
      have h := HGG.out
      rw [HQN.out] at h
      exact h
    rw [← e9] at HQ2
    have E9 := Lib.hid e9
    clear hs hf e9
    go_wp2_with fail
    (with_reducible refine HQ2.out.mono ?_)
    rintro e w3 ⟨xv, u3, rfl, hx3, hs3, hf3⟩
    obtain ⟨o2, A2, k2, c2, rfl⟩ := hx3.form
    have hf4 := HF2.out.trans hf3 (by omega)
    obtain ⟨z0, z1, z2, zf⟩ := c3 (fin0 hf4 hgp)
    have zf0 := zf 0; have zf1 := zf 1; have zf2 := zf 2
    obtain ⟨y1, y2, y3, y4⟩ := fin hs3 hgp hbt hf4 (hx3.imp fun i (hi : w2.heap.size ≤ i) => by omega)
    have Y1 := Lib.hid y1; have Y := Lib.hid (And.intro y2 (And.intro y3 y4))
    clear hs3 hf3 hx3 hf4 y1 y2 y3 y4
    unfold set9 at Y1 Y
    go_wp2_with fail
    generalize (((w3.setCell ⟨w.heap.size, 0, none⟩ (.string o2)).setCell ⟨w.heap.size, 1, none⟩ (.slice A2 k2 c2)).setCell ⟨w.heap.size, 2, none⟩ (.int .i64 (RR.t.lv : Int))) = W9 at Y1 Y ⊢
    obtain ⟨q0, q1, q2, _⟩ := c3 Y1.out
    refine bodyPost_ret (v := .agg #[.string o2, .slice A2 k2 c2, .int .i64 (RR.t.lv : Int)]) (by simp [results, Tryz.results128, go_sem, q0, q1, q2]) rfl ?_
    exact ⟨_, _, rfl, Y.out.1, Y.out.2.1, Y.out.2.2⟩
  | some y =>
    obtain ⟨o, r⟩ := y
    rw [hq] at HT
    have hlr : l.length = r.length + 1 := by rw [(next_le hq).1]; rfl
    have HQN := Lib.hid hq
    clear hq
    go_enter Tryz.func128, Tryz.ntmps128
    go_wp2_with fail
    (with_reducible refine HT.out.mono ?_)
    rintro e w2 ⟨rfl, u2, hs, hf⟩
    unfold sv
    have hz2 := hf.size
    have HF2 := Lib.hid (HV.out.trans hf (by omega))
    have HQ2 := Lib.hid (I1.out n (by omega) gp bt w2 u2 r b hs (by omega) (by omega))
    have hG2 := G_sz n 6 .bad r b
    have hL2 := T.lv_sz (G n 6 .bad r b).t
    simp only [T.sz] at hG2
    have e9 : RR = ⟨.un o (G n 6 .bad r b).t, (G n 6 .bad r b).r, (G n 6 .bad r b).b⟩ := by
      have h := HGG.out
      rw [HQN.out] at h
      exact h
    generalize G n 6 .bad r b = Y at HQ2 hG2 hL2 e9
    have E9 := Lib.hid e9
    clear hs hf e9
    go_wp2_with fail
    (with_reducible refine HQ2.out.mono ?_)
    rintro e w3 ⟨xv, u3, rfl, hx3, hs3, hf3⟩
    obtain ⟨o2, A2, k2, c2, rfl⟩ := hx3.form
    have H3 := Lib.hid (And.intro hx3 (And.intro hs3 hf3))
    have hz3 := hf3.size
    have HM := Lib.hid (makeNode_1 o (w3.alloc (one o2 A2 k2 c2 Y.t.lv)) w3.heap.size _ o2 A2 k2 c2 Y.t.lv (heap_new _ _) (by omega))
    clear hx3 hs3 hf3
    unfold one mkv sv at HM
    go_wp2_with fail
    (with_reducible refine HM.out.mono ?_)
    rintro e w4 ⟨rfl, hb4⟩
    have B34 : Below w3.heap.size w3 w4 := ((Below.refl _ w3).alloc (Nat.le_refl _) _).trans (hb4.mono (by simp))
    have F4 : Fr gp (w.heap.size + 1) (w.alloc zn) w4 := (HF2.out.trans H3.out.2.2 (by omega)).trans (Fr.of B34) (by omega)
    have hN4 := nd_un (X := (w.heap.size + 1 ≤ ·)) o (by omega) (H3.out.1.imp fun i (hi : w2.heap.size ≤ i) => by omega) hb4
    obtain ⟨z0, z1, z2, zf⟩ := c3 (fin0 F4 hgp)
    have zf0 := zf 0; have zf1 := zf 1; have zf2 := zf 2
    obtain ⟨y1, y2, y3, y4⟩ := fin (H3.out.2.1.below B34) hgp hbt F4 hN4
    have Y1 := Lib.hid y1; have YY := Lib.hid (And.intro y2 (And.intro y3 y4))
    clear y1 y2 y3 y4 hN4 F4 B34 hb4
    unfold set9 at Y1 YY
    have hm2 : ((Y.t.lv : Nat) : Int) + 1 = ((T.un o Y.t).lv : Int) := by show _ = ((Y.t.lv + 1 : Nat) : Int); simp
    go_wp2_with fail
    generalize (((w4.setCell ⟨w.heap.size, 0, none⟩ (.string ⟨o.toArray⟩)).setCell ⟨w.heap.size, 1, none⟩ (.slice (some ⟨w3.heap.size, 0, none⟩) 1 1)).setCell ⟨w.heap.size, 2, none⟩ (.int .i64 ((T.un o Y.t).lv : Int))) = W9 at Y1 YY ⊢
    obtain ⟨q0, q1, q2, _⟩ := c3 Y1.out
    refine bodyPost_ret (v := .agg #[.string ⟨o.toArray⟩, .slice (some ⟨w3.heap.size, 0, none⟩) 1 1, .int .i64 ((T.un o Y.t).lv : Int)]) (by simp [results, Tryz.results128, go_sem, q0, q1, q2]) rfl ?_
    rw [E9.out]
    exact ⟨_, _, rfl, YY.out.1, YY.out.2.1, YY.out.2.2⟩
end Go.Proofs.YtfocokjihbenmaaGreatDoor.Fo

namespace Go.Proofs.YtfocokjihbenmaaGreatDoor.Fo
open Go.RowKit Go.Proofs.YtfocokjihbenmaaGreatDoor.Nu
set_option linter.unusedVariables false
set_option linter.unusedSimpArgs false

set_option maxRecDepth 100000 in
set_option maxHeartbeats 2000000 in
theorem lv_7 (n : Nat) (ih1 : ∀ m, m < n → Lv 130 m 8) (ih2 : ∀ m, m < n → Lv 128 m 6) : Lv 129 n 7 := by
  intro gp bt w v l b h hn hl
  obtain ⟨n, rfl⟩ : ∃ j, n = j + 1 := ⟨n - 1, by omega⟩
  have hGG := G_7 n .bad l b
  generalize G (n + 1) 7 .bad l b = RR at hGG ⊢
  have HQ := Lib.hid (ih1 n (by omega) gp bt (w.alloc zn) v l b (h.alloc _) (by omega) hl)
  have hgp := h.lt
  have hbt := h.lb
  have hG := G_sz n 8 .bad l b
  simp only [T.sz] at hG
  clear h ih1
  obtain ⟨R, hR⟩ : ∃ R, G n 8 .bad l b = R := ⟨_, rfl⟩
  rw [hR] at HQ hG hGG
  have HGG := Lib.hid hGG
  clear hR hGG
  have I2 := Lib.hid ih2; clear ih2
  have hL0 := T.lv_sz R.t
  go_enter Tryz.func129, Tryz.ntmps129
  go_wp2_with fail
  (with_reducible refine HQ.out.mono ?_)
  rintro e w1 ⟨x, u, rfl, hx, hs, hf⟩
  obtain ⟨o1, A1, k1, c1, rfl⟩ := hx.form
  have hz1 := hf.size
  simp only [World.size_alloc] at hz1
  have hx1 : Nd (w.heap.size + 1 ≤ ·) w1 R.t (.agg #[.string o1, .slice A1 k1 c1, .int .i64 (R.t.lv : Int)]) := hx.imp fun i hi => by simp at hi; omega
  obtain ⟨wv, hwv⟩ : ∃ wv, w1.alloc (one o1 A1 k1 c1 R.t.lv) = wv := ⟨_, rfl⟩
  have hsv : St gp bt wv u R.r R.b := hwv ▸ hs.alloc _
  have hzv : wv.heap.size = w1.heap.size + 1 := by rw [← hwv]; simp
  have HT := Lib.hid (take_any (hsv.alloc (row [[94]] 9)) (w1.heap.size + 1) [[94]] (row_at' wv _ hzv.symm _ _) (by decide) (by omega))
  have hcv : wv.heap[w1.heap.size]? = some (one o1 A1 k1 c1 R.t.lv) := by rw [← hwv]; exact heap_new _ _
  have hfa : Fr gp (w.heap.size + 1) (w.alloc zn) wv := by rw [← hwv]; exact (hf.mono (by simp)).alloc (by omega) _
  have hfv : Fr gp (w.heap.size + 1) (w.alloc zn) (wv.alloc (row [[94]] 9)) := hfa.alloc (by omega) _
  have hxa : Nd (w.heap.size + 1 ≤ ·) wv R.t (.agg #[.string o1, .slice A1 k1 c1, .int .i64 (R.t.lv : Int)]) := by rw [← hwv]; exact hx1.below ((Below.refl _ w1).alloc (Nat.le_refl _) _)
  have hxv : Nd (w.heap.size + 1 ≤ ·) (wv.alloc (row [[94]] 9)) R.t (.agg #[.string o1, .slice A1 k1 c1, .int .i64 (R.t.lv : Int)]) := hxa.below ((Below.refl _ wv).alloc (Nat.le_refl _) _)
  have hcv2 : (wv.alloc (row [[94]] 9)).heap[w1.heap.size]? = some (one o1 A1 k1 c1 R.t.lv) := (Below.heap_alloc _ _ _ (by omega)).trans hcv
  have HV := Lib.hid (And.intro hfv (And.intro hxv hcv2))
  clear hs hf hx hx1 hsv hcv hfv hxv hcv2 hfa hxa
  obtain ⟨W, hW⟩ : ∃ W, wv.alloc (row [[94]] 9) = W := ⟨_, rfl⟩
  rw [hW] at HT HV
  rw [show ([[94]] : List Tok).length = 1 from rfl] at HT
  have hzW : wv.heap.size < W.heap.size := by rw [← hW]; simp
  unfold row sv at hW
  unfold one at hwv
  simp only [List.map_cons, List.map_nil] at hW
  cases hq : next [[94]] R.r with
  | none =>
    rw [hq] at HT
    have HQN := Lib.hid hq
    clear hq
    go_wp2_with fail
    (with_reducible refine HT.out.mono ?_)
    rintro e w2 ⟨rfl, hs, hf⟩
    obtain ⟨hfv, hxv, hcv⟩ := HV.out
    have hf2 : Fr gp (w.heap.size + 1) (w.alloc zn) w2 := hfv.trans hf (by omega)
    obtain ⟨z0, z1, z2, zf⟩ := c3 (fin0 hf2 hgp)
    have zf0 := zf 0; have zf1 := zf 1; have zf2 := zf 2
    obtain ⟨v0, v1, v2, vf⟩ := c3 ((hf.block w1.heap.size (by omega) (by omega)).trans hcv)
    obtain ⟨y1, y2, y3, y4⟩ := fin hs hgp hbt hf2 (hxv.fr (by intro i hi; omega) hf)
    have Y1 := Lib.hid y1; have Y := Lib.hid (And.intro y2 (And.intro y3 y4))
    clear hs hf hfv hxv hcv hf2 y1 y2 y3 y4
    unfold set9 at Y1 Y
    go_wp2_with fail
    generalize (((w2.setCell ⟨w.heap.size, 0, none⟩ (.string o1)).setCell ⟨w.heap.size, 1, none⟩ (.slice A1 k1 c1)).setCell ⟨w.heap.size, 2, none⟩ (.int .i64 (R.t.lv : Int))) = W9 at Y1 Y ⊢
    obtain ⟨q0, q1, q2, _⟩ := c3 Y1.out
    refine bodyPost_ret (v := .agg #[.string o1, .slice A1 k1 c1, .int .i64 (R.t.lv : Int)]) (by simp [results, Tryz.results129, go_sem, q0, q1, q2]) rfl ?_
    have e9 := HGG.out
    rw [HQN.out] at e9
    rw [e9]
    exact ⟨_, _, rfl, Y.out.1, Y.out.2.1, Y.out.2.2⟩
  | some y =>
    obtain ⟨o, r⟩ := y
    rw [hq] at HT
    have hlr : R.r.length = r.length + 1 := by rw [(next_le hq).1]; rfl
    have HQN := Lib.hid hq
    clear hq
    go_wp2_with fail
    (with_reducible refine HT.out.mono ?_)
    rintro e w2 ⟨rfl, u2, hs, hf⟩
    unfold sv
    obtain ⟨hfv, hxv, hcv⟩ := HV.out
    have hcl : w2.heap[w1.heap.size]? = some _ := (hf.block w1.heap.size (by omega) (by omega)).trans hcv
    obtain ⟨v0, v1, v2, vf⟩ := c3 hcl
    have hf2 : Fr gp (w.heap.size + 1) (w.alloc zn) w2 := hfv.trans hf (by omega)
    have hz2 := hf.size
    have hx2 := hxv.fr (by intro i hi; omega) hf
    have HS2 := Lib.hid hs
    have HV2 := Lib.hid (And.intro hf2 (And.intro hx2 hcl))
    have HQ2 : Hid (∀ W, W.heap = w2.heap → Calls Tryz.prog 128 #[.pointer (some ⟨gp, 0, none⟩)] W (Post gp bt W (G n 6 .bad r R.b))) := Lib.hid fun W hW =>
      I2.out n (by omega) gp bt W u2 r R.b (HS2.out.keep (by rw [hW]) (by rw [hW]) (by rw [hW]; exact Nat.le_refl _)) (by omega) (by omega)
    have hG2 := G_sz n 6 .bad r R.b
    have hL2 := T.lv_sz (G n 6 .bad r R.b).t
    simp only [T.sz] at hG2
    obtain ⟨Y, hY⟩ : ∃ Y, G n 6 .bad r R.b = Y := ⟨_, rfl⟩
    rw [hY] at HQ2 hG2 hL2
    have HY := Lib.hid hY
    clear hY
    have HM : Hid (∀ (W0 W : World) (o2 : ByteArray) (A2 : Option Addr) (k2 c2 : Nat), W.heap = (W0.alloc (two o1 A1 k1 c1 R.t.lv o2 A2 k2 c2 Y.t.lv)).heap →
        Calls Tryz.prog 92 #[.string ⟨o.toArray⟩, .slice (some ⟨W0.heap.size, 0, none⟩) 2 2] W fun e w' => e = .returned (.agg #[.string ⟨o.toArray⟩, .slice (some ⟨W0.heap.size, 0, none⟩) 2 2, .int .i64 ((max R.t.lv Y.t.lv + 1 : Nat) : Int)]) ∧ Below W.heap.size W w') := Lib.hid fun W0 W o2 A2 k2 c2 hW =>
      makeNode_2 o W W0.heap.size _ o1 A1 k1 c1 R.t.lv o2 A2 k2 c2 _ (by rw [hW]; exact heap_new _ _) (by omega) (by omega)
    clear hs hf hfv hxv hcv hcl hf2 hx2 hG2 hL2
    go_wp2_with fail
    go_region_with (first
      | (go_at_call 92; refine (HM.out w3 _ o2 A2 k2 c2 (by rfl)).mono ?_; rintro e w4 ⟨rfl, hb4⟩; obtain ⟨y0, y1, y2, yf⟩ := c3 (blk4 (fin0 HV2.out.1 hgp) (by omega) hf3 (by rfl) hb4 (by rfl)); have yf0 := yf 0; have yf1 := yf 1; have yf2 := yf 2)
      | (go_at_call 128; refine (HQ2.out _ (by rfl)).mono ?_; rintro e w3 ⟨xv, u3, rfl, hx3, hs3, hf3⟩; obtain ⟨o2, A2, k2, c2, rfl⟩ := hx3.form; obtain ⟨t0, t1, t2, tf⟩ := c3 ((hf3.block w1.heap.size (lt_heap HV2.out.2.2) (by omega)).trans HV2.out.2.2)))
    all_goals
      have f3 : Fr gp w2.heap.size w2 w3 := ⟨hf3.os, hf3.tape, hf3.output, hf3.size, hf3.block⟩
      have hb : ∀ W : World, W.heap = (w3.alloc (two o1 A1 k1 c1 R.t.lv o2 A2 k2 c2 Y.t.lv)).heap → W.os = w3.os → W.tape = w3.tape → W.output = w3.output → Below W.heap.size W w4 → Below (w3.alloc (two o1 A1 k1 c1 R.t.lv o2 A2 k2 c2 Y.t.lv)).heap.size (w3.alloc (two o1 A1 k1 c1 R.t.lv o2 A2 k2 c2 Y.t.lv)) w4 :=
        fun W h1 h2 h3 h4 h5 => ⟨h5.os.trans h2, h5.tape.trans h3, h5.output.trans h4, by rw [← h1]; exact h5.size, fun i hi => by rw [← h1] at hi ⊢; exact h5.block i hi⟩
      have hb4' := hb _ rfl rfl rfl rfl hb4
      have hz3 := f3.size
      have B34 : Below w3.heap.size w3 w4 := ((Below.refl _ w3).alloc (Nat.le_refl _) _).trans (hb4'.mono (by simp))
      have F4 : Fr gp (w.heap.size + 1) (w.alloc zn) w4 := (HV2.out.1.trans f3 (by omega)).trans (Fr.of B34) (by omega)
      have hN4 := nd_bin (X := (w.heap.size + 1 ≤ ·)) o (by omega) (HV2.out.2.1.fr (by intro i hi; omega) f3) (hx3.imp fun i (hi : w2.heap.size ≤ i) => by omega) hb4'
      obtain ⟨y1, y2, y3, y4⟩ := fin (hs3.below B34) hgp hbt F4 hN4
      have Y1 := Lib.hid y1; have YY := Lib.hid (And.intro y2 (And.intro y3 y4))
      clear y1 y2 y3 y4 hN4 F4 B34 hb4' hb f3 hb4 hf3 hx3 hs3
      unfold set9 at Y1 YY
      have hm : (((max R.t.lv Y.t.lv + 1 : Nat) : Int)) = ((T.bin o R.t Y.t).lv : Int) := rfl
      have hm2 : (((max R.t.lv Y.t.lv : Nat) : Int)) + 1 = ((T.bin o R.t Y.t).lv : Int) := by rw [← hm]; simp
      try rw [hm2]
      generalize (((w4.setCell ⟨w.heap.size, 0, none⟩ (.string ⟨o.toArray⟩)).setCell ⟨w.heap.size, 1, none⟩ (.slice (some ⟨w3.heap.size, 0, none⟩) 2 2)).setCell ⟨w.heap.size, 2, none⟩ (.int .i64 ((T.bin o R.t Y.t).lv : Int))) = W9 at Y1 YY ⊢
      obtain ⟨q0, q1, q2, _⟩ := c3 Y1.out
      clear hm hm2
      go_wp2_with fail
      refine bodyPost_ret (v := .agg #[.string ⟨o.toArray⟩, .slice (some ⟨w3.heap.size, 0, none⟩) 2 2, .int .i64 ((T.bin o R.t Y.t).lv : Int)]) (by simp [results, Tryz.results129, go_sem, q0, q1, q2]) rfl ?_
      have e9 : RR = ⟨.bin o R.t Y.t, Y.r, Y.b⟩ := by
        have h := HGG.out
        rw [HQN.out] at h
        rw [← HY.out]; exact h
      rw [e9]
      exact ⟨_, _, rfl, YY.out.1, YY.out.2.1, YY.out.2.2⟩
end Go.Proofs.YtfocokjihbenmaaGreatDoor.Fo

namespace Go.Proofs.YtfocokjihbenmaaGreatDoor.Fo
open Go.RowKit Go.Proofs.YtfocokjihbenmaaGreatDoor.Nu
set_option linter.unusedVariables false
set_option linter.unusedSimpArgs false

set_option maxRecDepth 100000 in
set_option maxHeartbeats 2000000 in
theorem lv_2 (n : Nat) (ih1 : ∀ m, m < n → Lv 113 m 3) (ih2 : ∀ m, m < n → Lv 113 m 3) : Lv 93 n 2 := by
  intro gp bt w v l b h hn hl
  obtain ⟨n, rfl⟩ : ∃ j, n = j + 1 := ⟨n - 1, by omega⟩
  have hGG := G_2 n .bad l b
  generalize G (n + 1) 2 .bad l b = RR at hGG ⊢
  have HQ := Lib.hid (ih1 n (by omega) gp bt (w.alloc zn) v l b (h.alloc _) (by omega) hl)
  have hgp := h.lt
  have hbt := h.lb
  have hG := G_sz n 3 .bad l b
  simp only [T.sz] at hG
  clear h ih1
  obtain ⟨R, hR⟩ : ∃ R, G n 3 .bad l b = R := ⟨_, rfl⟩
  rw [hR] at HQ hG hGG
  have HGG := Lib.hid hGG
  clear hR hGG
  have I2 := Lib.hid ih2; clear ih2
  have hL0 := T.lv_sz R.t
  go_enter Tryz.func93, Tryz.ntmps93
  go_wp2_with fail
  (with_reducible refine HQ.out.mono ?_)
  rintro e w1 ⟨x, u, rfl, hx, hs, hf⟩
  obtain ⟨o1, A1, k1, c1, rfl⟩ := hx.form
  have hz1 := hf.size
  simp only [World.size_alloc] at hz1
  have hx1 : Nd (w.heap.size + 1 ≤ ·) w1 R.t (.agg #[.string o1, .slice A1 k1 c1, .int .i64 (R.t.lv : Int)]) := hx.imp fun i hi => by simp at hi; omega
  obtain ⟨wv, hwv⟩ : ∃ wv, w1.alloc (one o1 A1 k1 c1 R.t.lv) = wv := ⟨_, rfl⟩
  have hsv : St gp bt wv u R.r R.b := hwv ▸ hs.alloc _
  have hzv : wv.heap.size = w1.heap.size + 1 := by rw [← hwv]; simp
  have HT := Lib.hid (take_any (hsv.alloc (row cmps 9)) (w1.heap.size + 1) cmps (row_at' wv _ hzv.symm _ _) (by decide) (by omega))
  have hcv : wv.heap[w1.heap.size]? = some (one o1 A1 k1 c1 R.t.lv) := by rw [← hwv]; exact heap_new _ _
  have hfa : Fr gp (w.heap.size + 1) (w.alloc zn) wv := by rw [← hwv]; exact (hf.mono (by simp)).alloc (by omega) _
  have hfv : Fr gp (w.heap.size + 1) (w.alloc zn) (wv.alloc (row cmps 9)) := hfa.alloc (by omega) _
  have hxa : Nd (w.heap.size + 1 ≤ ·) wv R.t (.agg #[.string o1, .slice A1 k1 c1, .int .i64 (R.t.lv : Int)]) := by rw [← hwv]; exact hx1.below ((Below.refl _ w1).alloc (Nat.le_refl _) _)
  have hxv : Nd (w.heap.size + 1 ≤ ·) (wv.alloc (row cmps 9)) R.t (.agg #[.string o1, .slice A1 k1 c1, .int .i64 (R.t.lv : Int)]) := hxa.below ((Below.refl _ wv).alloc (Nat.le_refl _) _)
  have hcv2 : (wv.alloc (row cmps 9)).heap[w1.heap.size]? = some (one o1 A1 k1 c1 R.t.lv) := (Below.heap_alloc _ _ _ (by omega)).trans hcv
  have HV := Lib.hid (And.intro hfv (And.intro hxv hcv2))
  clear hs hf hx hx1 hsv hcv hfv hxv hcv2 hfa hxa
  obtain ⟨W, hW⟩ : ∃ W, wv.alloc (row cmps 9) = W := ⟨_, rfl⟩
  rw [hW] at HT HV
  rw [show (cmps : List Tok).length = 6 from rfl] at HT
  have hzW : wv.heap.size < W.heap.size := by rw [← hW]; simp
  unfold row sv at hW
  unfold one at hwv
  simp only [cmps, List.map_cons, List.map_nil] at hW
  cases hq : next cmps R.r with
  | none =>
    rw [hq] at HT
    have HQN := Lib.hid hq
    clear hq
    go_wp2_with fail
    (with_reducible refine HT.out.mono ?_)
    rintro e w2 ⟨rfl, hs, hf⟩
    obtain ⟨hfv, hxv, hcv⟩ := HV.out
    have hf2 : Fr gp (w.heap.size + 1) (w.alloc zn) w2 := hfv.trans hf (by omega)
    obtain ⟨z0, z1, z2, zf⟩ := c3 (fin0 hf2 hgp)
    have zf0 := zf 0; have zf1 := zf 1; have zf2 := zf 2
    obtain ⟨v0, v1, v2, vf⟩ := c3 ((hf.block w1.heap.size (by omega) (by omega)).trans hcv)
    obtain ⟨y1, y2, y3, y4⟩ := fin hs hgp hbt hf2 (hxv.fr (by intro i hi; omega) hf)
    have Y1 := Lib.hid y1; have Y := Lib.hid (And.intro y2 (And.intro y3 y4))
    clear hs hf hfv hxv hcv hf2 y1 y2 y3 y4
    unfold set9 at Y1 Y
    go_wp2_with fail
    generalize (((w2.setCell ⟨w.heap.size, 0, none⟩ (.string o1)).setCell ⟨w.heap.size, 1, none⟩ (.slice A1 k1 c1)).setCell ⟨w.heap.size, 2, none⟩ (.int .i64 (R.t.lv : Int))) = W9 at Y1 Y ⊢
    obtain ⟨q0, q1, q2, _⟩ := c3 Y1.out
    refine bodyPost_ret (v := .agg #[.string o1, .slice A1 k1 c1, .int .i64 (R.t.lv : Int)]) (by simp [results, Tryz.results93, go_sem, q0, q1, q2]) rfl ?_
    have e9 := HGG.out
    rw [HQN.out] at e9
    rw [e9]
    exact ⟨_, _, rfl, Y.out.1, Y.out.2.1, Y.out.2.2⟩
  | some y =>
    obtain ⟨o, r⟩ := y
    rw [hq] at HT
    have hlr : R.r.length = r.length + 1 := by rw [(next_le hq).1]; rfl
    have HQN := Lib.hid hq
    clear hq
    go_wp2_with fail
    (with_reducible refine HT.out.mono ?_)
    rintro e w2 ⟨rfl, u2, hs, hf⟩
    unfold sv
    obtain ⟨hfv, hxv, hcv⟩ := HV.out
    have hcl : w2.heap[w1.heap.size]? = some _ := (hf.block w1.heap.size (by omega) (by omega)).trans hcv
    obtain ⟨v0, v1, v2, vf⟩ := c3 hcl
    have hf2 : Fr gp (w.heap.size + 1) (w.alloc zn) w2 := hfv.trans hf (by omega)
    have hz2 := hf.size
    have hx2 := hxv.fr (by intro i hi; omega) hf
    have HS2 := Lib.hid hs
    have HV2 := Lib.hid (And.intro hf2 (And.intro hx2 hcl))
    have HQ2 : Hid (∀ W, W.heap = w2.heap → Calls Tryz.prog 113 #[.pointer (some ⟨gp, 0, none⟩)] W (Post gp bt W (G n 3 .bad r R.b))) := Lib.hid fun W hW =>
      I2.out n (by omega) gp bt W u2 r R.b (HS2.out.keep (by rw [hW]) (by rw [hW]) (by rw [hW]; exact Nat.le_refl _)) (by omega) (by omega)
    have hG2 := G_sz n 3 .bad r R.b
    have hL2 := T.lv_sz (G n 3 .bad r R.b).t
    simp only [T.sz] at hG2
    obtain ⟨Y, hY⟩ : ∃ Y, G n 3 .bad r R.b = Y := ⟨_, rfl⟩
    rw [hY] at HQ2 hG2 hL2
    have HY := Lib.hid hY
    clear hY
    have HM : Hid (∀ (W0 W : World) (o2 : ByteArray) (A2 : Option Addr) (k2 c2 : Nat), W.heap = (W0.alloc (two o1 A1 k1 c1 R.t.lv o2 A2 k2 c2 Y.t.lv)).heap →
        Calls Tryz.prog 92 #[.string ⟨o.toArray⟩, .slice (some ⟨W0.heap.size, 0, none⟩) 2 2] W fun e w' => e = .returned (.agg #[.string ⟨o.toArray⟩, .slice (some ⟨W0.heap.size, 0, none⟩) 2 2, .int .i64 ((max R.t.lv Y.t.lv + 1 : Nat) : Int)]) ∧ Below W.heap.size W w') := Lib.hid fun W0 W o2 A2 k2 c2 hW =>
      makeNode_2 o W W0.heap.size _ o1 A1 k1 c1 R.t.lv o2 A2 k2 c2 _ (by rw [hW]; exact heap_new _ _) (by omega) (by omega)
    clear hs hf hfv hxv hcv hcl hf2 hx2 hG2 hL2
    go_wp2_with fail
    go_region_with (first
      | (go_at_call 92; refine (HM.out w3 _ o2 A2 k2 c2 (by rfl)).mono ?_; rintro e w4 ⟨rfl, hb4⟩; obtain ⟨y0, y1, y2, yf⟩ := c3 (blk4 (fin0 HV2.out.1 hgp) (by omega) hf3 (by rfl) hb4 (by rfl)); have yf0 := yf 0; have yf1 := yf 1; have yf2 := yf 2)
      | (go_at_call 113; refine (HQ2.out _ (by rfl)).mono ?_; rintro e w3 ⟨xv, u3, rfl, hx3, hs3, hf3⟩; obtain ⟨o2, A2, k2, c2, rfl⟩ := hx3.form; obtain ⟨t0, t1, t2, tf⟩ := c3 ((hf3.block w1.heap.size (lt_heap HV2.out.2.2) (by omega)).trans HV2.out.2.2)))
    all_goals
      have f3 : Fr gp w2.heap.size w2 w3 := ⟨hf3.os, hf3.tape, hf3.output, hf3.size, hf3.block⟩
      have hb : ∀ W : World, W.heap = (w3.alloc (two o1 A1 k1 c1 R.t.lv o2 A2 k2 c2 Y.t.lv)).heap → W.os = w3.os → W.tape = w3.tape → W.output = w3.output → Below W.heap.size W w4 → Below (w3.alloc (two o1 A1 k1 c1 R.t.lv o2 A2 k2 c2 Y.t.lv)).heap.size (w3.alloc (two o1 A1 k1 c1 R.t.lv o2 A2 k2 c2 Y.t.lv)) w4 :=
        fun W h1 h2 h3 h4 h5 => ⟨h5.os.trans h2, h5.tape.trans h3, h5.output.trans h4, by rw [← h1]; exact h5.size, fun i hi => by rw [← h1] at hi ⊢; exact h5.block i hi⟩
      have hb4' := hb _ rfl rfl rfl rfl hb4
      have hz3 := f3.size
      have B34 : Below w3.heap.size w3 w4 := ((Below.refl _ w3).alloc (Nat.le_refl _) _).trans (hb4'.mono (by simp))
      have F4 : Fr gp (w.heap.size + 1) (w.alloc zn) w4 := (HV2.out.1.trans f3 (by omega)).trans (Fr.of B34) (by omega)
      have hN4 := nd_bin (X := (w.heap.size + 1 ≤ ·)) o (by omega) (HV2.out.2.1.fr (by intro i hi; omega) f3) (hx3.imp fun i (hi : w2.heap.size ≤ i) => by omega) hb4'
      obtain ⟨y1, y2, y3, y4⟩ := fin (hs3.below B34) hgp hbt F4 hN4
      have Y1 := Lib.hid y1; have YY := Lib.hid (And.intro y2 (And.intro y3 y4))
      clear y1 y2 y3 y4 hN4 F4 B34 hb4' hb f3 hb4 hf3 hx3 hs3
      unfold set9 at Y1 YY
      have hm : (((max R.t.lv Y.t.lv + 1 : Nat) : Int)) = ((T.bin o R.t Y.t).lv : Int) := rfl
      have hm2 : (((max R.t.lv Y.t.lv : Nat) : Int)) + 1 = ((T.bin o R.t Y.t).lv : Int) := by rw [← hm]; simp
      try rw [hm2]
      generalize (((w4.setCell ⟨w.heap.size, 0, none⟩ (.string ⟨o.toArray⟩)).setCell ⟨w.heap.size, 1, none⟩ (.slice (some ⟨w3.heap.size, 0, none⟩) 2 2)).setCell ⟨w.heap.size, 2, none⟩ (.int .i64 ((T.bin o R.t Y.t).lv : Int))) = W9 at Y1 YY ⊢
      obtain ⟨q0, q1, q2, _⟩ := c3 Y1.out
      clear hm hm2
      go_wp2_with fail
      refine bodyPost_ret (v := .agg #[.string ⟨o.toArray⟩, .slice (some ⟨w3.heap.size, 0, none⟩) 2 2, .int .i64 ((T.bin o R.t Y.t).lv : Int)]) (by simp [results, Tryz.results93, go_sem, q0, q1, q2]) rfl ?_
      have e9 : RR = ⟨.bin o R.t Y.t, Y.r, Y.b⟩ := by
        have h := HGG.out
        rw [HQN.out] at h
        rw [← HY.out]; exact h
      rw [e9]
      exact ⟨_, _, rfl, YY.out.1, YY.out.2.1, YY.out.2.2⟩
end Go.Proofs.YtfocokjihbenmaaGreatDoor.Fo

namespace Go.Proofs.YtfocokjihbenmaaGreatDoor.Fo
open Go.RowKit Go.Proofs.YtfocokjihbenmaaGreatDoor.Nu
set_option linter.unusedVariables false
set_option linter.unusedSimpArgs false

theorem isDigit_any (c : UInt8) (w : World) : Calls Tryz.prog 48 #[.int .u8 c.toNat] w fun e w' => e = .returned (.bool (isD c)) ∧ w' = w := by
  have h1 := UInt8.toNat_lt c
  by_cases ha : 48 ≤ c.toNat
  · by_cases hb : c.toNat ≤ 57
    · have e : isD c = true := by unfold isD; rw [decide_eq_true_iff]; omega
      have HE := Lib.hid e; clear e
      have d1 : decide ((48 : Int) ≤ (c.toNat : Int)) = true := by rw [decide_eq_true_iff]; omega
      have d2 : decide ((c.toNat : Int) ≤ (57 : Int)) = true := by rw [decide_eq_true_iff]; omega
      go_enter Tryz.func48, Tryz.ntmps48
      go_wp2
      go_ret
      rw [HE.out]; simp
    · have e : isD c = false := by unfold isD; rw [decide_eq_false_iff_not]; omega
      have HE := Lib.hid e; clear e
      have d1 : decide ((48 : Int) ≤ (c.toNat : Int)) = true := by rw [decide_eq_true_iff]; omega
      have d2 : decide ((c.toNat : Int) ≤ (57 : Int)) = false := by rw [decide_eq_false_iff_not]; omega
      go_enter Tryz.func48, Tryz.ntmps48
      go_wp2
      go_ret
      rw [HE.out]; simp
  · have e : isD c = false := by unfold isD; rw [decide_eq_false_iff_not]; omega
    have HE := Lib.hid e; clear e
    have d1 : decide ((48 : Int) ≤ (c.toNat : Int)) = false := by rw [decide_eq_false_iff_not]; omega
    go_enter Tryz.func48, Tryz.ntmps48
    go_wp2
    go_ret
    rw [HE.out]; simp
-- PRIMARY
theorem G_8q (n : Nat) (x : T) (l : List Tok) (b : Bool) : G (n + 1) 8 x ([40] :: l) b = ⟨.un [40] (G n 0 .bad l b).t, expT [41] (G n 0 .bad l b).r, expB [41] (G n 0 .bad l b).r || (G n 0 .bad l b).b⟩ := by
  rw [G_8p]
  unfold expT expB
  cases h : next [[41]] (G n 0 .bad l b).r with
  | none => rfl
  | some y => rfl
theorem fr_sa {gp : Nat} {w : World} (v : Value) (hg : gp < w.heap.size) : Fr gp (w.heap.size + 1) (w.alloc zn) ((w.setCell ⟨gp, 0, none⟩ v).alloc zn) := by
  have hz : (w.setCell ⟨gp, 0, none⟩ v).heap.size = w.heap.size := by simp [World.setCell]
  refine ⟨rfl, rfl, rfl, by simp [World.setCell], fun k hk hne => ?_⟩
  rcases Nat.lt_or_ge k w.heap.size with h1 | h1
  · rw [Below.heap_alloc _ _ _ (by omega), Below.heap_setCell _ _ _ _ hne, Below.heap_alloc _ _ _ h1]
  · have : k = w.heap.size := by omega
    subst this
    rw [heap_new]
    have := heap_new (w.setCell ⟨gp, 0, none⟩ v) zn
    rwa [hz] at this
set_option maxRecDepth 100000 in
set_option maxHeartbeats 2000000 in
theorem lv_8 (n : Nat) (ih : ∀ m, m < n → Lv 33 m 0) : Lv 130 n 8 := by
  intro gp bt w v l b h hn hl
  obtain ⟨n, rfl⟩ : ∃ j, n = j + 1 := ⟨n - 1, by omega⟩
  have I1 := Lib.hid ih; clear ih
  cases l with
  | nil =>
    rw [G_8n]
    obtain ⟨A0, C0, rfl⟩ := h.t.nil
    have h2 := h.alloc zn
    have HX := Lib.hid (expect_any h2 [40] hl)
    have hgp := h.lt; have hbt := h.lb
    have c0 := h2.c0
    have hE : expT [40] [] = [] ∧ expB [40] [] = true := by exact ⟨rfl, rfl⟩
    rw [hE.1, hE.2] at HX
    unfold sv at HX
    clear hE h h2
    go_enter Tryz.func130, Tryz.ntmps130
    go_wp2_with fail
    (with_reducible refine HX.out.mono ?_)
    rintro e w1 ⟨rfl, ⟨u, hs⟩, hf⟩
    have hf1 : Fr gp (w.heap.size + 1) (w.alloc zn) w1 := hf.mono (by simp)
    obtain ⟨z0, z1, z2, zf⟩ := c3 (fin0 hf1 hgp)
    have zf0 := zf 0; have zf1 := zf 1; have zf2 := zf 2
    obtain ⟨y1, y2, y3, y4⟩ := fin (x := .bad) (o := ⟨#[]⟩) (A := none) (k := 0) (c := 0) hs hgp hbt hf1 rfl
    have Y1 := Lib.hid y1; have Y := Lib.hid (And.intro y2 (And.intro y3 y4))
    clear hs hf hf1 y1 y2 y3 y4
    unfold set9 at Y1 Y
    rw [show ((T.bad.lv : Nat) : Int) = 0 from rfl] at Y1 Y
    go_wp2_with fail
    generalize (((w1.setCell ⟨w.heap.size, 0, none⟩ (.string ⟨#[]⟩)).setCell ⟨w.heap.size, 1, none⟩ (.slice none 0 0)).setCell ⟨w.heap.size, 2, none⟩ (.int .i64 0)) = W9 at Y1 Y ⊢
    obtain ⟨q0, q1, q2, _⟩ := c3 Y1.out
    refine bodyPost_ret (v := .agg #[.string ⟨#[]⟩, .slice none 0 0, .int .i64 0]) (by simp [results, Tryz.results130, go_sem, q0, q1, q2]) rfl ?_
    exact ⟨_, _, rfl, Y.out.1, Y.out.2.1, Y.out.2.2⟩
  | cons t l =>
    obtain ⟨a, C, rfl, hC1, hC2, hct, htl⟩ := h.t.tail
    have hnz := h.nz t (by simp)
    simp only [List.length_cons] at hl hn
    obtain ⟨c, t', rfl⟩ : ∃ c t', t = c :: t' := by
      cases t with
      | nil => simp at hnz
      | cons c t' => exact ⟨c, t', rfl⟩
    have hct2 : (w.alloc zn).cell? ⟨bt, a, none⟩ = some (sv (c :: t')) := (World.cell?_of_block (w := w) (Below.heap_alloc _ _ _ h.lb)).trans hct
    unfold sv at hct2
    clear hct
    have hsz : (⟨(c :: t').toArray⟩ : ByteArray).size = t'.length + 1 := by simp [ByteArray.size]
    obtain ⟨S, hS⟩ : ∃ S : ByteArray, ⟨(c :: t').toArray⟩ = S := ⟨_, rfl⟩
    have h00 : ∀ (hh : 0 < S.size), (S[0]'hh) = c := by subst hS; intro _; rfl
    have h01 : 0 < S.size := by rw [← hS, hsz]; omega
    rw [hS] at hct2
    have hN : isNum (c :: t') = isD c := rfl
    have HK := Lib.hid htl
    clear htl
    cases hd : isD c with
    | true =>
      rw [G_8d _ _ _ _ _ (hN.trans hd)]
      have HD := Lib.hid hd
      have h2 := h.alloc zn
      have c0 := h2.c0
      have f0 := h2.f 0
      have HM : Hid (∀ W, Calls Tryz.prog 92 #[.string S, .slice none 0 0] W fun e w' => e = .returned (.agg #[.string S, .slice none 0 0, .int .i64 1]) ∧ Below W.heap.size W w') := Lib.hid fun W => by
        have := makeNode_0 (c :: t') W
        unfold mkv sv at this
        rw [hS] at this
        exact this
      have H2 := Lib.hid h
      have hgp := h.lt; have hbt := h.lb
      have HS := Lib.hid hS
      clear h h2 hd hN hS
      go_enter Tryz.func130, Tryz.ntmps130
      go_wp2_with fail
      (with_reducible refine (isDigit_any c _).mono ?_)
      rintro e w0 ⟨rfl, rfl⟩
      rw [HD.out]
      go_wp2_with fail
      all_goals
        (with_reducible refine (HM.out _).mono ?_)
        rintro e w1 ⟨rfl, hb⟩
        have hs : ∃ u, St gp bt w1 u l b := by
          first
            | exact ⟨_, ((H2.out.set HK.out (fun _ q => List.mem_cons_of_mem _ q)).alloc zn).below hb⟩
            | exact ⟨_, ((H2.out.set (TS.none0 (by omega)) (fun _ q => List.mem_cons_of_mem _ q)).alloc zn).below hb⟩
        obtain ⟨u, hs⟩ := hs
        have hf1 : Fr gp (w.heap.size + 1) (w.alloc zn) w1 := (fr_sa _ hgp).trans (Fr.of (hb.mono (by simp [World.setCell]))) (Nat.le_refl _)
        obtain ⟨z0, z1, z2, zf⟩ := c3 (fin0 hf1 hgp)
        have zf0 := zf 0; have zf1 := zf 1; have zf2 := zf 2
        obtain ⟨y1, y2, y3, y4⟩ := fin (x := .num (c :: t')) (o := S) (A := none) (k := 0) (c := 0) hs hgp hbt hf1 (by rw [← HS.out]; rfl)
        have Y1 := Lib.hid y1; have Y := Lib.hid (And.intro y2 (And.intro y3 y4))
        clear hs hf1 y1 y2 y3 y4 hb
        unfold set9 at Y1 Y
        rw [show (((T.num (c :: t')).lv : Nat) : Int) = 1 from rfl] at Y1 Y
        go_wp2_with fail
        generalize (((w1.setCell ⟨w.heap.size, 0, none⟩ (.string S)).setCell ⟨w.heap.size, 1, none⟩ (.slice none 0 0)).setCell ⟨w.heap.size, 2, none⟩ (.int .i64 1)) = W9 at Y1 Y ⊢
        obtain ⟨q0, q1, q2, _⟩ := c3 Y1.out
        refine bodyPost_ret (v := .agg #[.string S, .slice none 0 0, .int .i64 1]) (by simp [results, Tryz.results130, go_sem, q0, q1, q2]) rfl ?_
        exact ⟨_, _, rfl, Y.out.1, Y.out.2.1, Y.out.2.2⟩
    | false =>
      have HD := Lib.hid hd
      by_cases hp : c :: t' = [40]
      · rw [hp, G_8q]
        have h2 := h.alloc zn
        have HX := Lib.hid (expect_any h2 [40] hl)
        have hgp := h.lt; have hbt := h.lb
        have c0 := h2.c0
        have hE : expT [40] ((c :: t') :: l) = l ∧ expB [40] ((c :: t') :: l) = false := by rw [hp]; exact ⟨rfl, rfl⟩
        rw [hE.1, hE.2] at HX
        unfold sv at HX
        clear hE h h2 hN hd
        have I0 := I1.out n (by omega)
        have hG := G_sz n 0 .bad l b
        have hL := T.lv_sz (G n 0 .bad l b).t
        simp only [T.sz] at hG
        clear I1
        have I1 : Hid (∀ W v, St gp bt W v l b → Calls Tryz.prog 33 #[.pointer (some ⟨gp, 0, none⟩)] W (Post gp bt W (G n 0 .bad l b))) := Lib.hid fun W v h => I0 gp bt W v l b h (by omega) (by omega)
        clear I0
        generalize G n 0 .bad l b = Y at I1 hG hL ⊢
        go_enter Tryz.func130, Tryz.ntmps130
        go_wp2_with fail
        (with_reducible refine (isDigit_any c _).mono ?_)
        rintro e w0 ⟨rfl, rfl⟩
        rw [HD.out]
        go_wp2_with fail
        (with_reducible refine HX.out.mono ?_)
        rintro e w1 ⟨rfl, ⟨u, hs⟩, hf⟩
        have HF1 : Hid (Fr gp (w.heap.size + 1) (w.alloc zn) w1) := Lib.hid (hf.mono (by simp))
        have hz1 := hf.size
        simp only [World.size_alloc] at hz1
        have HS1 := Lib.hid hs
        clear hs hf
        go_wp2_with fail
        (with_reducible refine (I1.out _ _ HS1.out).mono ?_)
        rintro e w3 ⟨xv, u3, rfl, hx3, hs3, hf3⟩
        obtain ⟨o2, A2, k2, c2, rfl⟩ := hx3.form
        have hz3 := hf3.size
        have HX2 := Lib.hid (expect_any (hs3.alloc (one o2 A2 k2 c2 Y.t.lv)) [41] (by omega))
        have HF3 : Hid (Fr gp (w.heap.size + 1) (w.alloc zn) (w3.alloc (one o2 A2 k2 c2 Y.t.lv))) := Lib.hid ((HF1.out.trans hf3 (by omega)).alloc (by omega) _)
        have HN3 : Hid (Nd (w.heap.size + 1 ≤ ·) (w3.alloc (one o2 A2 k2 c2 Y.t.lv)) Y.t (.agg #[.string o2, .slice A2 k2 c2, .int .i64 (Y.t.lv : Int)])) := Lib.hid ((hx3.imp fun i (hi : w1.heap.size ≤ i) => by omega).below ((Below.refl _ w3).alloc (Nat.le_refl _) _))
        have hcI : (w3.alloc (one o2 A2 k2 c2 Y.t.lv)).heap[w3.heap.size]? = some (one o2 A2 k2 c2 Y.t.lv) := heap_new _ _
        obtain ⟨W3, hW3⟩ : ∃ W3, w3.alloc (one o2 A2 k2 c2 Y.t.lv) = W3 := ⟨_, rfl⟩
        have hzW3 : W3.heap.size = w3.heap.size + 1 := by rw [← hW3]; simp
        rw [hW3] at HX2 HF3 HN3 hcI
        have HCI := Lib.hid hcI
        clear hx3 hs3 hf3 hcI
        unfold one at hW3
        unfold sv at HX2
        go_wp2_with fail
        (with_reducible refine HX2.out.mono ?_)
        rintro e w4 ⟨rfl, ⟨u4, hs4⟩, hf4⟩
        have hz4 := hf4.size
        have hcI4 : w4.heap[w3.heap.size]? = some (one o2 A2 k2 c2 Y.t.lv) := (hf4.block _ (by omega) (by omega)).trans HCI.out
        obtain ⟨i0, i1, i2, _⟩ := c3 hcI4
        have HM := Lib.hid (makeNode_1 [40] (w4.alloc (one o2 A2 k2 c2 Y.t.lv)) w4.heap.size _ o2 A2 k2 c2 Y.t.lv (heap_new _ _) (by omega))
        have HF4 := Lib.hid (HF3.out.trans hf4 (by omega))
        have HN4 := Lib.hid (HN3.out.fr (by intro i hi; omega) hf4)
        have HS4 := Lib.hid hs4
        clear hs4 hf4 hcI4
        unfold one mkv sv at HM
        go_wp2_with fail
        (with_reducible refine HM.out.mono ?_)
        rintro e w5 ⟨rfl, hb5⟩
        have B34 : Below w4.heap.size w4 w5 := ((Below.refl _ w4).alloc (Nat.le_refl _) _).trans (hb5.mono (by simp))
        have F5 : Fr gp (w.heap.size + 1) (w.alloc zn) w5 := HF4.out.trans (Fr.of B34) (by omega)
        have hN5 := nd_un (X := (w.heap.size + 1 ≤ ·)) [40] (by omega) HN4.out hb5
        obtain ⟨z0, z1, z2, zf⟩ := c3 (fin0 F5 hgp)
        have zf0 := zf 0; have zf1 := zf 1; have zf2 := zf 2
        obtain ⟨y1, y2, y3, y4⟩ := fin (HS4.out.below B34) hgp hbt F5 hN5
        have Y1 := Lib.hid y1; have YY := Lib.hid (And.intro y2 (And.intro y3 y4))
        clear y1 y2 y3 y4 hN5 F5 B34 hb5
        unfold set9 at Y1 YY
        have hm2 : ((Y.t.lv : Nat) : Int) + 1 = ((T.un [40] Y.t).lv : Int) := by show _ = ((Y.t.lv + 1 : Nat) : Int); simp
        go_wp2_with fail
        generalize (((w5.setCell ⟨w.heap.size, 0, none⟩ (.string ⟨[40].toArray⟩)).setCell ⟨w.heap.size, 1, none⟩ (.slice (some ⟨w4.heap.size, 0, none⟩) 1 1)).setCell ⟨w.heap.size, 2, none⟩ (.int .i64 ((T.un [40] Y.t).lv : Int))) = W9 at Y1 YY ⊢
        obtain ⟨q0, q1, q2, _⟩ := c3 Y1.out
        refine bodyPost_ret (v := .agg #[.string ⟨#[40]⟩, .slice (some ⟨w4.heap.size, 0, none⟩) 1 1, .int .i64 ((T.un [40] Y.t).lv : Int)]) (by simp [results, Tryz.results130, go_sem, q0, q1, q2]) rfl ?_
        exact ⟨_, _, rfl, YY.out.1, YY.out.2.1, YY.out.2.2⟩
      · rw [G_8x _ _ _ _ _ (hN.trans hd) hp]
        clear hN hd
        have h2 := h.alloc zn
        have HX := Lib.hid (expect_any h2 [40] hl)
        have hgp := h.lt; have hbt := h.lb
        have c0 := h2.c0
        have hE : expT [40] ((c :: t') :: l) = ((c :: t') :: l) ∧ expB [40] ((c :: t') :: l) = true := by unfold expT expB; rw [show next [[40]] ((c :: t') :: l) = none from if_neg (by simpa using hp)]; exact ⟨rfl, rfl⟩
        rw [hE.1, hE.2] at HX
        unfold sv at HX
        clear hE h h2
        go_enter Tryz.func130, Tryz.ntmps130
        go_wp2_with fail
        (with_reducible refine (isDigit_any c _).mono ?_)
        rintro e w0 ⟨rfl, rfl⟩
        rw [HD.out]
        go_wp2_with fail
        (with_reducible refine HX.out.mono ?_)
        rintro e w1 ⟨rfl, ⟨u, hs⟩, hf⟩
        have hf1 : Fr gp (w.heap.size + 1) (w.alloc zn) w1 := hf.mono (by simp)
        obtain ⟨z0, z1, z2, zf⟩ := c3 (fin0 hf1 hgp)
        have zf0 := zf 0; have zf1 := zf 1; have zf2 := zf 2
        obtain ⟨y1, y2, y3, y4⟩ := fin (x := .bad) (o := ⟨#[]⟩) (A := none) (k := 0) (c := 0) hs hgp hbt hf1 rfl
        have Y1 := Lib.hid y1; have Y := Lib.hid (And.intro y2 (And.intro y3 y4))
        clear hs hf hf1 y1 y2 y3 y4
        unfold set9 at Y1 Y
        rw [show ((T.bad.lv : Nat) : Int) = 0 from rfl] at Y1 Y
        go_wp2_with fail
        generalize (((w1.setCell ⟨w.heap.size, 0, none⟩ (.string ⟨#[]⟩)).setCell ⟨w.heap.size, 1, none⟩ (.slice none 0 0)).setCell ⟨w.heap.size, 2, none⟩ (.int .i64 0)) = W9 at Y1 Y ⊢
        obtain ⟨q0, q1, q2, _⟩ := c3 Y1.out
        refine bodyPost_ret (v := .agg #[.string ⟨#[]⟩, .slice none 0 0, .int .i64 0]) (by simp [results, Tryz.results130, go_sem, q0, q1, q2]) rfl ?_
        exact ⟨_, _, rfl, Y.out.1, Y.out.2.1, Y.out.2.2⟩
end Go.Proofs.YtfocokjihbenmaaGreatDoor.Fo

namespace Go.Proofs.YtfocokjihbenmaaGreatDoor.Fo
open Go.RowKit Go.Proofs.YtfocokjihbenmaaGreatDoor.Nu
set_option linter.unusedVariables false
set_option linter.unusedSimpArgs false

structure All (n : Nat) : Prop where
  l0 : Lv 33 n 0
  l1 : Lv 54 n 1
  l2 : Lv 93 n 2
  l3 : Lv 113 n 3
  l4 : Lv 122 n 4
  l5 : Lv 125 n 5
  l6 : Lv 128 n 6
  l7 : Lv 129 n 7
  l8 : Lv 130 n 8
theorem all (n : Nat) : All n := by
  induction n using Nat.strongRecOn with
  | _ n ih =>
    exact ⟨lv_0 n fun m hm => (ih m hm).l1, lv_1 n fun m hm => (ih m hm).l2, lv_2 n (fun m hm => (ih m hm).l3) fun m hm => (ih m hm).l3, lv_3 n fun m hm => (ih m hm).l4,
      lv_4 n fun m hm => (ih m hm).l5, lv_5 n fun m hm => (ih m hm).l6, lv_6 n (fun m hm => (ih m hm).l6) fun m hm => (ih m hm).l7, lv_7 n (fun m hm => (ih m hm).l8) (fun m hm => (ih m hm).l6), lv_8 n fun m hm => (ih m hm).l0⟩
def topB (l : List Tok) : Bool := !(top l).b && (top l).r.isEmpty
theorem parse_fin {w W w1 : World} {R : T} {o1 : ByteArray} {A1 : Option Addr} {k1 c1 : Nat} (hB : Below w.heap.size w W) (hF : Fr (w.heap.size + 1) W.heap.size W w1) (hz : W.heap.size = w.heap.size + 2) (hr : W.heap[w.heap.size]? = some zn)
    (hx : Nd (W.heap.size ≤ ·) w1 R (.agg #[.string o1, .slice A1 k1 c1, .int .i64 (R.lv : Int)])) :
    (((set9 w1 w.heap.size o1 A1 k1 c1 R.lv).alloc (.cells #[.string o1, .slice A1 k1 c1, .int .i64 (R.lv : Int)] 44)).drew).heap[w.heap.size]? = some (.cells #[.string o1, .slice A1 k1 c1, .int .i64 (R.lv : Int)] 44) ∧
    Nd (w.heap.size ≤ ·) (((set9 w1 w.heap.size o1 A1 k1 c1 R.lv).alloc (.cells #[.string o1, .slice A1 k1 c1, .int .i64 (R.lv : Int)] 44)).drew) R (.agg #[.string o1, .slice A1 k1 c1, .int .i64 (R.lv : Int)]) ∧
    Below w.heap.size w (((set9 w1 w.heap.size o1 A1 k1 c1 R.lv).alloc (.cells #[.string o1, .slice A1 k1 c1, .int .i64 (R.lv : Int)] 44)).drew) := by
  have hz1 := hF.size
  have h0 : w1.heap[w.heap.size]? = some zn := (hF.block _ (by omega) (by omega)).trans hr
  have zs : (set9 w1 w.heap.size o1 A1 k1 c1 R.lv).heap.size = w1.heap.size := by simp [set9, World.setCell]
  have B9 : Below w.heap.size w1 (set9 w1 w.heap.size o1 A1 k1 c1 R.lv) := (((Below.refl w.heap.size w1).setCell (Nat.le_refl _) _).setCell (Nat.le_refl _) _).setCell (Nat.le_refl _) _
  refine ⟨?_, ?_, ?_⟩
  · show ((set9 w1 w.heap.size o1 A1 k1 c1 R.lv).alloc _).heap[w.heap.size]? = _
    rw [Below.heap_alloc _ _ _ (by omega)]
    exact set3 h0 _ _ _
  · refine Nd.keep (X := fun i => W.heap.size ≤ i) (fun i hi hl => ?_) (fun i hi _ => by omega) _ _ hx
    show ((set9 w1 w.heap.size o1 A1 k1 c1 R.lv).alloc _).heap[i]? = _
    rw [Below.heap_alloc _ _ _ (by omega)]
    exact set3_ne (by omega) _ _ _
  · exact ((hB.trans (((hF.mono (by omega)).below (by omega)).trans B9)).alloc (by omega) _).drew
set_option maxRecDepth 100000 in
set_option maxHeartbeats 2000000 in
theorem parse_tok (w : World) (bt : Nat) (v : Value) (l : List Tok) (ht : TS bt w v l) (hbt : bt < w.heap.size) (hz : ∀ t ∈ l, 0 < t.length ∧ t.length ≤ 19) (hl : l.length ≤ 400) :
    Calls Tryz.prog 20 #[v] w fun e w' => ∃ x, e = .returned (.tuple #[x, .bool (topB l)]) ∧ Nd (w.heap.size ≤ ·) w' (top l).t x ∧ Below w.heap.size w w' := by
  obtain ⟨W, hW⟩ : ∃ W, (w.alloc zn).alloc (pobj v false) = W := ⟨_, rfl⟩
  have B0 : Below w.heap.size w W := hW ▸ ((Below.refl _ w).alloc (Nat.le_refl _) _).alloc (by simp) _
  have hzW : W.heap.size = w.heap.size + 2 := by rw [← hW]; simp
  have hS : St (w.heap.size + 1) bt W v l false := by
    refine ⟨?_, ht.keep (B0.block _ hbt), by omega, by omega, hz⟩
    rw [← hW]
    have := heap_new (w.alloc zn) (pobj v false)
    rwa [World.size_alloc] at this
  have hr : W.heap[w.heap.size]? = some zn := by rw [← hW, Below.heap_alloc _ _ _ (by simp)]; exact heap_new _ _
  have HQ := Lib.hid ((all (fuel l)).l0 (w.heap.size + 1) bt W v l false hS (by unfold fuel; omega) hl)
  have HR : Hid (G (fuel l) 0 .bad l false = top l) := Lib.hid rfl
  rw [HR.out] at HQ
  have HB0 := Lib.hid B0
  have HHr := Lib.hid hr
  obtain ⟨A, C, rfl, _⟩ := ht
  clear hS hr B0 HR
  unfold pobj at hW
  have HW := Lib.hid hW
  clear hW
  go_enter Tryz.func20, Tryz.ntmps20
  go_wp2_with fail
  rw [HW.out]
  (with_reducible refine HQ.out.mono ?_)
  rintro e w1 ⟨x, u, rfl, hx, hs, hf⟩
  obtain ⟨o1, A1, k1, c1, rfl⟩ := hx.form
  obtain ⟨A2, C2, rfl, hu⟩ := hs.t
  have hz1 := hf.size
  have hlt0 : w.heap.size < w1.heap.size := by omega
  have hlt1 : w.heap.size + 1 < w1.heap.size := by omega
  have b0 := hs.c0
  have b1 := hs.c1
  obtain ⟨z0, z1, z2, zf⟩ := c3 ((hf.block w.heap.size (by omega) (by omega)).trans HHr.out)
  have zf0 := zf 0; have zf1 := zf 1; have zf2 := zf 2
  have HX := Lib.hid hx
  have HF := Lib.hid hf
  clear hx hs hf hu
  cases hb : (top l).b with
  | true =>
    rw [hb] at b1
    go_wp2_with fail
    go_region
    go_wp2_with fail
    have F := parse_fin HB0.out HF.out hzW HHr.out HX.out
    unfold set9 at F
    generalize ((((w1.setCell ⟨w.heap.size, 0, none⟩ (.string o1)).setCell ⟨w.heap.size, 1, none⟩ (.slice A1 k1 c1)).setCell ⟨w.heap.size, 2, none⟩ (.int .i64 ((top l).t.lv : Int))).alloc (.cells #[.string o1, .slice A1 k1 c1, .int .i64 ((top l).t.lv : Int)] 44)).drew = W9 at F ⊢
    obtain ⟨f1, f2, f3⟩ := F
    obtain ⟨q0, q1, q2, _⟩ := c3 f1
    clear f1 z0 z1 z2 b0 b1
    refine bodyPost_ret (v := .tuple #[.agg #[.string o1, .slice A1 k1 c1, .int .i64 ((top l).t.lv : Int)], .bool false]) (by simp [results, Tryz.results20, go_sem, q0, q1, q2] <;> omega) rfl ?_
    rw [show topB l = false by unfold topB; rw [hb]; rfl]
    exact ⟨_, rfl, f2, f3⟩
  | false =>
    rw [hb] at b1
    cases hr : (top l).r with
    | nil =>
      rw [hr] at b0
      simp only [List.length_nil] at b0
      go_wp2_with fail
      go_region
      go_wp2_with fail
      have F := parse_fin HB0.out HF.out hzW HHr.out HX.out
      unfold set9 at F
      generalize ((((w1.setCell ⟨w.heap.size, 0, none⟩ (.string o1)).setCell ⟨w.heap.size, 1, none⟩ (.slice A1 k1 c1)).setCell ⟨w.heap.size, 2, none⟩ (.int .i64 ((top l).t.lv : Int))).alloc (.cells #[.string o1, .slice A1 k1 c1, .int .i64 ((top l).t.lv : Int)] 44)).drew = W9 at F ⊢
      obtain ⟨f1, f2, f3⟩ := F
      obtain ⟨q0, q1, q2, _⟩ := c3 f1
      clear f1 z0 z1 z2 b0 b1
      refine bodyPost_ret (v := .tuple #[.agg #[.string o1, .slice A1 k1 c1, .int .i64 ((top l).t.lv : Int)], .bool true]) (by simp [results, Tryz.results20, go_sem, q0, q1, q2] <;> omega) rfl ?_
      rw [show topB l = true by unfold topB; rw [hb, hr]; rfl]
      exact ⟨_, rfl, f2, f3⟩
    | cons t r =>
      rw [hr] at b0
      simp only [List.length_cons] at b0
      have hne : decide (((r.length : Int) + 1) = 0) = false := by rw [decide_eq_false_iff_not]; omega
      go_wp2_with fail
      go_region
      go_wp2_with fail
      have F := parse_fin HB0.out HF.out hzW HHr.out HX.out
      unfold set9 at F
      generalize ((((w1.setCell ⟨w.heap.size, 0, none⟩ (.string o1)).setCell ⟨w.heap.size, 1, none⟩ (.slice A1 k1 c1)).setCell ⟨w.heap.size, 2, none⟩ (.int .i64 ((top l).t.lv : Int))).alloc (.cells #[.string o1, .slice A1 k1 c1, .int .i64 ((top l).t.lv : Int)] 44)).drew = W9 at F ⊢
      obtain ⟨f1, f2, f3⟩ := F
      obtain ⟨q0, q1, q2, _⟩ := c3 f1
      clear f1 z0 z1 z2 b0 b1
      refine bodyPost_ret (v := .tuple #[.agg #[.string o1, .slice A1 k1 c1, .int .i64 ((top l).t.lv : Int)], .bool false]) (by simp [results, Tryz.results20, go_sem, q0, q1, q2] <;> omega) rfl ?_
      rw [show topB l = false by unfold topB; rw [hb, hr]; rfl]
      exact ⟨_, rfl, f2, f3⟩
end Go.Proofs.YtfocokjihbenmaaGreatDoor.Fo
