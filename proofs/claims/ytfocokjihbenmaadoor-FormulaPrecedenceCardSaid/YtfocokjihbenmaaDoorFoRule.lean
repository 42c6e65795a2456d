/-
  The rules of the grammar that are no chains.
-/
import Derived.Test.YtfocokjihbenmaaDoorFoFin
namespace Go.Proofs.YtfocokjihbenmaaDoor.Fo
open Go.RowKit Go.Proofs.YtfocokjihbenmaaDoor.Nu
set_option linter.unusedVariables false
set_option linter.unusedSimpArgs false

def one (o1 : ByteArray) (A1 : Option Addr) (k1 c1 : Nat) (n1 : Nat) : Obj := .cells #[.string o1, .slice A1 k1 c1, .int .i64 (n1 : Int)] 45
theorem blk4 {gp g : Nat} {w2 w3 w4 W0 W4 : World} {O o : Obj} (h : w2.heap[g]? = some o) (hg : g ≠ gp) (h3 : Fr gp W0.heap.size W0 w3) (hW : W0.heap = w2.heap) (h4 : Below W4.heap.size W4 w4) (hW4 : W4.heap = (w3.alloc O).heap) : w4.heap[g]? = some o := by
  have h2 : g < W0.heap.size := by rw [hW]; exact lt_heap h
  have h5 := h3.size
  rw [h4.block g (by rw [hW4]; simp; omega), hW4, Below.heap_alloc _ _ _ (by omega), h3.block g h2 hg, hW]
  exact h
section
variable {gp bt : Nat} {w w3 w4 : World} {X : Nat → Prop} {x y : T} {o1 o2 : ByteArray} {A1 A2 : Option Addr} {k1 c1 k2 c2 : Nat}
theorem nd_bin (o : Tok) (hX : X w3.heap.size) (hx : Nd X w3 x (.agg #[.string o1, .slice A1 k1 c1, .int .i64 (x.lv : Int)])) (hy : Nd X w3 y (.agg #[.string o2, .slice A2 k2 c2, .int .i64 (y.lv : Int)]))
    (hb4 : Below (w3.alloc (two o1 A1 k1 c1 x.lv o2 A2 k2 c2 y.lv)).heap.size (w3.alloc (two o1 A1 k1 c1 x.lv o2 A2 k2 c2 y.lv)) w4) :
    Nd X w4 (.bin o x y) (.agg #[.string ⟨o.toArray⟩, .slice (some ⟨w3.heap.size, 0, none⟩) 2 2, .int .i64 ((max x.lv y.lv + 1 : Nat) : Int)]) := by
  have B34 : Below w3.heap.size w3 w4 := ((Below.refl _ w3).alloc (Nat.le_refl _) _).trans (hb4.mono (by simp))
  exact ⟨w3.heap.size, _, _, _, _, _, _, _, rfl, hX, (hb4.block w3.heap.size (by simp)).trans (heap_new _ _), hx.below B34, hy.below B34⟩
theorem nd_un (o : Tok) (hX : X w3.heap.size) (hx : Nd X w3 x (.agg #[.string o1, .slice A1 k1 c1, .int .i64 (x.lv : Int)]))
    (hb4 : Below (w3.alloc (one o1 A1 k1 c1 x.lv)).heap.size (w3.alloc (one o1 A1 k1 c1 x.lv)) w4) :
    Nd X w4 (.un o x) (.agg #[.string ⟨o.toArray⟩, .slice (some ⟨w3.heap.size, 0, none⟩) 1 1, .int .i64 ((x.lv + 1 : Nat) : Int)]) := by
  have B34 : Below w3.heap.size w3 w4 := ((Below.refl _ w3).alloc (Nat.le_refl _) _).trans (hb4.mono (by simp))
  exact ⟨w3.heap.size, _, _, _, _, rfl, hX, (hb4.block w3.heap.size (by simp)).trans (heap_new _ _), hx.below B34⟩
end
-- RULES
set_option maxRecDepth 100000 in
set_option maxHeartbeats 2000000 in
theorem lv_6 (n : Nat) (ih1 : ∀ m, m < n → Lv 107 m 6) (ih2 : ∀ m, m < n → Lv 108 m 7) : Lv 107 n 6 := by
  intro gp bt w v l b h hn hl
  obtain ⟨n, rfl⟩ : ∃ j, n = j + 1 := ⟨n - 1, by omega⟩
  have hGG := G_6 n .bad l b
  generalize G (n + 1) 6 .bad l b = RR at hGG ⊢
  have HGG := Lib.hid hGG
  have hgp := h.lt
  have hbt := h.lb
  have I1 := Lib.hid ih1; have I2 := Lib.hid ih2
  obtain ⟨W, hW⟩ : ∃ W, (w.alloc zn).alloc (row uns 9) = W := ⟨_, rfl⟩
  have HT := Lib.hid (take_any ((h.alloc zn).alloc (row uns 9)) (w.heap.size + 1) uns (row_at' (w.alloc zn) _ (by simp) _ _) (by decide) (by omega))
  have HV : Hid (Fr gp (w.heap.size + 1) (w.alloc zn) W) := Lib.hid (hW ▸ (Fr.refl _ _ _).alloc (by simp) _)
  have hzW : W.heap.size = w.heap.size + 2 := by rw [← hW]; simp
  rw [hW] at HT
  rw [show (uns : List Tok).length = 4 from rfl] at HT
  clear h hGG ih1 ih2
  unfold row sv at hW
  simp only [uns, List.map_cons, List.map_nil] at hW
  cases hq : next uns l with
  | none =>
    rw [hq] at HT
    have HQN := Lib.hid hq
    clear hq
    go_enter Tryd.func107, Tryd.ntmps107
    go_wp2_with fail
    (with_reducible refine HT.out.mono ?_)
    rintro e w2 ⟨rfl, hs, hf⟩
    have hz2 := hf.size
    have HF2 := Lib.hid (HV.out.trans hf (by omega))
    have HQ2 := Lib.hid (I2.out n (by omega) gp bt w2 v l b hs (by omega) (by omega))
    have e9 : RR = G n 7 .bad l b := by
      have h := HGG.out
      rw [HQN.out] at h
      exact h
    rw [← e9] at HQ2
    have E9 := Lib.hid e9
    clear hs hf e9
    go_wp2_with fail
    (with_reducible refine HQ2.out.mono ?_)
    rintro e w3 ⟨xv, u3, rfl, hx3, hs3, hf3⟩
    obtain ⟨o2, A2, k2, c2, rfl⟩ := hx3.form
    have hf4 := HF2.out.trans hf3 (by omega)
    obtain ⟨z0, z1, z2, zf⟩ := c3 (fin0 hf4 hgp)
    have zf0 := zf 0; have zf1 := zf 1; have zf2 := zf 2
    obtain ⟨y1, y2, y3, y4⟩ := fin hs3 hgp hbt hf4 (hx3.imp fun i (hi : w2.heap.size ≤ i) => by omega)
    have Y1 := Lib.hid y1; have Y := Lib.hid (And.intro y2 (And.intro y3 y4))
    clear hs3 hf3 hx3 hf4 y1 y2 y3 y4
    unfold set9 at Y1 Y
    go_wp2_with fail
    generalize (((w3.setCell ⟨w.heap.size, 0, none⟩ (.string o2)).setCell ⟨w.heap.size, 1, none⟩ (.slice A2 k2 c2)).setCell ⟨w.heap.size, 2, none⟩ (.int .i64 (RR.t.lv : Int))) = W9 at Y1 Y ⊢
    obtain ⟨q0, q1, q2, _⟩ := c3 Y1.out
    refine bodyPost_ret (v := .agg #[.string o2, .slice A2 k2 c2, .int .i64 (RR.t.lv : Int)]) (by simp [results, Tryd.results107, go_sem, q0, q1, q2]) rfl ?_
    exact ⟨_, _, rfl, Y.out.1, Y.out.2.1, Y.out.2.2⟩
  | some y =>
    obtain ⟨o, r⟩ := y
    rw [hq] at HT
    have hlr : l.length = r.length + 1 := by rw [(next_le hq).1]; rfl
    have HQN := Lib.hid hq
    clear hq
    go_enter Tryd.func107, Tryd.ntmps107
    go_wp2_with fail
    (with_reducible refine HT.out.mono ?_)
    rintro e w2 ⟨rfl, u2, hs, hf⟩
    unfold sv
    have hz2 := hf.size
    have HF2 := Lib.hid (HV.out.trans hf (by omega))
    have HQ2 := Lib.hid (I1.out n (by omega) gp bt w2 u2 r b hs (by omega) (by omega))
    have hG2 := G_sz n 6 .bad r b
    have hL2 := T.lv_sz (G n 6 .bad r b).t
    simp only [T.sz] at hG2
    have e9 : RR = ⟨.un o (G n 6 .bad r b).t, (G n 6 .bad r b).r, (G n 6 .bad r b).b⟩ := by
      have h := HGG.out
      rw [HQN.out] at h
      exact h
    generalize G n 6 .bad r b = Y at HQ2 hG2 hL2 e9
    have E9 := Lib.hid e9
    clear hs hf e9
    go_wp2_with fail
    (with_reducible refine HQ2.out.mono ?_)
    rintro e w3 ⟨xv, u3, rfl, hx3, hs3, hf3⟩
    obtain ⟨o2, A2, k2, c2, rfl⟩ := hx3.form
    have H3 := Lib.hid (And.intro hx3 (And.intro hs3 hf3))
    have hz3 := hf3.size
    have HM := Lib.hid (makeNode_1 o (w3.alloc (one o2 A2 k2 c2 Y.t.lv)) w3.heap.size _ o2 A2 k2 c2 Y.t.lv (heap_new _ _) (by omega))
    clear hx3 hs3 hf3
    unfold one mkv sv at HM
    go_wp2_with fail
    (with_reducible refine HM.out.mono ?_)
    rintro e w4 ⟨rfl, hb4⟩
    have B34 : Below w3.heap.size w3 w4 := ((Below.refl _ w3).alloc (Nat.le_refl _) _).trans (hb4.mono (by simp))
    have F4 : Fr gp (w.heap.size + 1) (w.alloc zn) w4 := (HF2.out.trans H3.out.2.2 (by omega)).trans (Fr.of B34) (by omega)
    have hN4 := nd_un (X := (w.heap.size + 1 ≤ ·)) o (by omega) (H3.out.1.imp fun i (hi : w2.heap.size ≤ i) => by omega) hb4
    obtain ⟨z0, z1, z2, zf⟩ := c3 (fin0 F4 hgp)
    have zf0 := zf 0; have zf1 := zf 1; have zf2 := zf 2
    obtain ⟨y1, y2, y3, y4⟩ := fin (H3.out.2.1.below B34) hgp hbt F4 hN4
    have Y1 := Lib.hid y1; have YY := Lib.hid (And.intro y2 (And.intro y3 y4))
    clear y1 y2 y3 y4 hN4 F4 B34 hb4
    unfold set9 at Y1 YY
    have hm2 : ((Y.t.lv : Nat) : Int) + 1 = ((T.un o Y.t).lv : Int) := by show _ = ((Y.t.lv + 1 : Nat) : Int); simp
    go_wp2_with fail
    generalize (((w4.setCell ⟨w.heap.size, 0, none⟩ (.string ⟨o.toArray⟩)).setCell ⟨w.heap.size, 1, none⟩ (.slice (some ⟨w3.heap.size, 0, none⟩) 1 1)).setCell ⟨w.heap.size, 2, none⟩ (.int .i64 ((T.un o Y.t).lv : Int))) = W9 at Y1 YY ⊢
    obtain ⟨q0, q1, q2, _⟩ := c3 Y1.out
    refine bodyPost_ret (v := .agg #[.string ⟨o.toArray⟩, .slice (some ⟨w3.heap.size, 0, none⟩) 1 1, .int .i64 ((T.un o Y.t).lv : Int)]) (by simp [results, Tryd.results107, go_sem, q0, q1, q2]) rfl ?_
    rw [E9.out]
    exact ⟨_, _, rfl, YY.out.1, YY.out.2.1, YY.out.2.2⟩
end Go.Proofs.YtfocokjihbenmaaDoor.Fo
