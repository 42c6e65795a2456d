/-
  The rule primary of the grammar.
-/
import Derived.Test.YtfocokjihbenmaaDoorFoRule
namespace Go.Proofs.YtfocokjihbenmaaDoor.Fo
open Go.RowKit Go.Proofs.YtfocokjihbenmaaDoor.Nu
set_option linter.unusedVariables false
set_option linter.unusedSimpArgs false

theorem isDigit_any (c : UInt8) (w : World) : Calls Tryd.prog 41 #[.int .u8 c.toNat] w fun e w' => e = .returned (.bool (isD c)) ∧ w' = w := by
  have h1 := UInt8.toNat_lt c
  by_cases ha : 48 ≤ c.toNat
  · by_cases hb : c.toNat ≤ 57
    · have e : isD c = true := by unfold isD; rw [decide_eq_true_iff]; omega
      have HE := Lib.hid e; clear e
      have d1 : decide ((48 : Int) ≤ (c.toNat : Int)) = true := by rw [decide_eq_true_iff]; omega
      have d2 : decide ((c.toNat : Int) ≤ (57 : Int)) = true := by rw [decide_eq_true_iff]; omega
      go_enter Tryd.func41, Tryd.ntmps41
      go_wp2
      go_ret
      rw [HE.out]; simp
    · have e : isD c = false := by unfold isD; rw [decide_eq_false_iff_not]; omega
      have HE := Lib.hid e; clear e
      have d1 : decide ((48 : Int) ≤ (c.toNat : Int)) = true := by rw [decide_eq_true_iff]; omega
      have d2 : decide ((c.toNat : Int) ≤ (57 : Int)) = false := by rw [decide_eq_false_iff_not]; omega
      go_enter Tryd.func41, Tryd.ntmps41
      go_wp2
      go_ret
      rw [HE.out]; simp
  · have e : isD c = false := by unfold isD; rw [decide_eq_false_iff_not]; omega
    have HE := Lib.hid e; clear e
    have d1 : decide ((48 : Int) ≤ (c.toNat : Int)) = false := by rw [decide_eq_false_iff_not]; omega
    go_enter Tryd.func41, Tryd.ntmps41
    go_wp2
    go_ret
    rw [HE.out]; simp
-- PRIMARY
theorem G_8q (n : Nat) (x : T) (l : List Tok) (b : Bool) : G (n + 1) 8 x ([40] :: l) b = ⟨.un [40] (G n 0 .bad l b).t, expT [41] (G n 0 .bad l b).r, expB [41] (G n 0 .bad l b).r || (G n 0 .bad l b).b⟩ := by
  rw [G_8p]
  unfold expT expB
  cases h : next [[41]] (G n 0 .bad l b).r with
  | none => rfl
  | some y => rfl
theorem fr_sa {gp : Nat} {w : World} (v : Value) (hg : gp < w.heap.size) : Fr gp (w.heap.size + 1) (w.alloc zn) ((w.setCell ⟨gp, 0, none⟩ v).alloc zn) := by
  have hz : (w.setCell ⟨gp, 0, none⟩ v).heap.size = w.heap.size := by simp [World.setCell]
  refine ⟨rfl, rfl, rfl, by simp [World.setCell], fun k hk hne => ?_⟩
  rcases Nat.lt_or_ge k w.heap.size with h1 | h1
  · rw [Below.heap_alloc _ _ _ (by omega), Below.heap_setCell _ _ _ _ hne, Below.heap_alloc _ _ _ h1]
  · have : k = w.heap.size := by omega
    subst this
    rw [heap_new]
    have := heap_new (w.setCell ⟨gp, 0, none⟩ v) zn
    rwa [hz] at this
set_option maxRecDepth 100000 in
set_option maxHeartbeats 2000000 in
theorem lv_8 (n : Nat) (ih : ∀ m, m < n → Lv 28 m 0) : Lv 109 n 8 := by
  intro gp bt w v l b h hn hl
  obtain ⟨n, rfl⟩ : ∃ j, n = j + 1 := ⟨n - 1, by omega⟩
  have I1 := Lib.hid ih; clear ih
  cases l with
  | nil =>
    rw [G_8n]
    obtain ⟨A0, C0, rfl⟩ := h.t.nil
    have h2 := h.alloc zn
    have HX := Lib.hid (expect_any h2 [40] hl)
    have hgp := h.lt; have hbt := h.lb
    have c0 := h2.c0
    have hE : expT [40] [] = [] ∧ expB [40] [] = true := by exact ⟨rfl, rfl⟩
    rw [hE.1, hE.2] at HX
    unfold sv at HX
    clear hE h h2
    go_enter Tryd.func109, Tryd.ntmps109
    go_wp2_with fail
    (with_reducible refine HX.out.mono ?_)
    rintro e w1 ⟨rfl, ⟨u, hs⟩, hf⟩
    have hf1 : Fr gp (w.heap.size + 1) (w.alloc zn) w1 := hf.mono (by simp)
    obtain ⟨z0, z1, z2, zf⟩ := c3 (fin0 hf1 hgp)
    have zf0 := zf 0; have zf1 := zf 1; have zf2 := zf 2
    obtain ⟨y1, y2, y3, y4⟩ := fin (x := .bad) (o := ⟨#[]⟩) (A := none) (k := 0) (c := 0) hs hgp hbt hf1 rfl
    have Y1 := Lib.hid y1; have Y := Lib.hid (And.intro y2 (And.intro y3 y4))
    clear hs hf hf1 y1 y2 y3 y4
    unfold set9 at Y1 Y
    rw [show ((T.bad.lv : Nat) : Int) = 0 from rfl] at Y1 Y
    go_wp2_with fail
    generalize (((w1.setCell ⟨w.heap.size, 0, none⟩ (.string ⟨#[]⟩)).setCell ⟨w.heap.size, 1, none⟩ (.slice none 0 0)).setCell ⟨w.heap.size, 2, none⟩ (.int .i64 0)) = W9 at Y1 Y ⊢
    obtain ⟨q0, q1, q2, _⟩ := c3 Y1.out
    refine bodyPost_ret (v := .agg #[.string ⟨#[]⟩, .slice none 0 0, .int .i64 0]) (by simp [results, Tryd.results109, go_sem, q0, q1, q2]) rfl ?_
    exact ⟨_, _, rfl, Y.out.1, Y.out.2.1, Y.out.2.2⟩
  | cons t l =>
    obtain ⟨a, C, rfl, hC1, hC2, hct, htl⟩ := h.t.tail
    have hnz := h.nz t (by simp)
    simp only [List.length_cons] at hl hn
    obtain ⟨c, t', rfl⟩ : ∃ c t', t = c :: t' := by
      cases t with
      | nil => simp at hnz
      | cons c t' => exact ⟨c, t', rfl⟩
    have hct2 : (w.alloc zn).cell? ⟨bt, a, none⟩ = some (sv (c :: t')) := (World.cell?_of_block (w := w) (Below.heap_alloc _ _ _ h.lb)).trans hct
    unfold sv at hct2
    clear hct
    have hsz : (⟨(c :: t').toArray⟩ : ByteArray).size = t'.length + 1 := by simp [ByteArray.size]
    obtain ⟨S, hS⟩ : ∃ S : ByteArray, ⟨(c :: t').toArray⟩ = S := ⟨_, rfl⟩
    have h00 : ∀ (hh : 0 < S.size), (S[0]'hh) = c := by subst hS; intro _; rfl
    have h01 : 0 < S.size := by rw [← hS, hsz]; omega
    rw [hS] at hct2
    have hN : isNum (c :: t') = isD c := rfl
    have HK := Lib.hid htl
    clear htl
    cases hd : isD c with
    | true =>
      rw [G_8d _ _ _ _ _ (hN.trans hd)]
      have HD := Lib.hid hd
      have h2 := h.alloc zn
      have c0 := h2.c0
      have f0 := h2.f 0
      have HM : Hid (∀ W, Calls Tryd.prog 75 #[.string S, .slice none 0 0] W fun e w' => e = .returned (.agg #[.string S, .slice none 0 0, .int .i64 1]) ∧ Below W.heap.size W w') := Lib.hid fun W => by
        have := makeNode_0 (c :: t') W
        unfold mkv sv at this
        rw [hS] at this
        exact this
      have H2 := Lib.hid h
      have hgp := h.lt; have hbt := h.lb
      have HS := Lib.hid hS
      clear h h2 hd hN hS
      go_enter Tryd.func109, Tryd.ntmps109
      go_wp2_with fail
      (with_reducible refine (isDigit_any c _).mono ?_)
      rintro e w0 ⟨rfl, rfl⟩
      rw [HD.out]
      go_wp2_with fail
      all_goals
        (with_reducible refine (HM.out _).mono ?_)
        rintro e w1 ⟨rfl, hb⟩
        have hs : ∃ u, St gp bt w1 u l b := by
          first
            | exact ⟨_, ((H2.out.set HK.out (fun _ q => List.mem_cons_of_mem _ q)).alloc zn).below hb⟩
            | exact ⟨_, ((H2.out.set (TS.none0 (by omega)) (fun _ q => List.mem_cons_of_mem _ q)).alloc zn).below hb⟩
        obtain ⟨u, hs⟩ := hs
        have hf1 : Fr gp (w.heap.size + 1) (w.alloc zn) w1 := (fr_sa _ hgp).trans (Fr.of (hb.mono (by simp [World.setCell]))) (Nat.le_refl _)
        obtain ⟨z0, z1, z2, zf⟩ := c3 (fin0 hf1 hgp)
        have zf0 := zf 0; have zf1 := zf 1; have zf2 := zf 2
        obtain ⟨y1, y2, y3, y4⟩ := fin (x := .num (c :: t')) (o := S) (A := none) (k := 0) (c := 0) hs hgp hbt hf1 (by rw [← HS.out]; rfl)
        have Y1 := Lib.hid y1; have Y := Lib.hid (And.intro y2 (And.intro y3 y4))
        clear hs hf1 y1 y2 y3 y4 hb
        unfold set9 at Y1 Y
        rw [show (((T.num (c :: t')).lv : Nat) : Int) = 1 from rfl] at Y1 Y
        go_wp2_with fail
        generalize (((w1.setCell ⟨w.heap.size, 0, none⟩ (.string S)).setCell ⟨w.heap.size, 1, none⟩ (.slice none 0 0)).setCell ⟨w.heap.size, 2, none⟩ (.int .i64 1)) = W9 at Y1 Y ⊢
        obtain ⟨q0, q1, q2, _⟩ := c3 Y1.out
        refine bodyPost_ret (v := .agg #[.string S, .slice none 0 0, .int .i64 1]) (by simp [results, Tryd.results109, go_sem, q0, q1, q2]) rfl ?_
        exact ⟨_, _, rfl, Y.out.1, Y.out.2.1, Y.out.2.2⟩
    | false =>
      have HD := Lib.hid hd
      by_cases hp : c :: t' = [40]
      · rw [hp, G_8q]
        have h2 := h.alloc zn
        have HX := Lib.hid (expect_any h2 [40] hl)
        have hgp := h.lt; have hbt := h.lb
        have c0 := h2.c0
        have hE : expT [40] ((c :: t') :: l) = l ∧ expB [40] ((c :: t') :: l) = false := by rw [hp]; exact ⟨rfl, rfl⟩
        rw [hE.1, hE.2] at HX
        unfold sv at HX
        clear hE h h2 hN hd
        have I0 := I1.out n (by omega)
        have hG := G_sz n 0 .bad l b
        have hL := T.lv_sz (G n 0 .bad l b).t
        simp only [T.sz] at hG
        clear I1
        have I1 : Hid (∀ W v, St gp bt W v l b → Calls Tryd.prog 28 #[.pointer (some ⟨gp, 0, none⟩)] W (Post gp bt W (G n 0 .bad l b))) := Lib.hid fun W v h => I0 gp bt W v l b h (by omega) (by omega)
        clear I0
        generalize G n 0 .bad l b = Y at I1 hG hL ⊢
        go_enter Tryd.func109, Tryd.ntmps109
        go_wp2_with fail
        (with_reducible refine (isDigit_any c _).mono ?_)
        rintro e w0 ⟨rfl, rfl⟩
        rw [HD.out]
        go_wp2_with fail
        (with_reducible refine HX.out.mono ?_)
        rintro e w1 ⟨rfl, ⟨u, hs⟩, hf⟩
        have HF1 : Hid (Fr gp (w.heap.size + 1) (w.alloc zn) w1) := Lib.hid (hf.mono (by simp))
        have hz1 := hf.size
        simp only [World.size_alloc] at hz1
        have HS1 := Lib.hid hs
        clear hs hf
        go_wp2_with fail
        (with_reducible refine (I1.out _ _ HS1.out).mono ?_)
        rintro e w3 ⟨xv, u3, rfl, hx3, hs3, hf3⟩
        obtain ⟨o2, A2, k2, c2, rfl⟩ := hx3.form
        have hz3 := hf3.size
        have HX2 := Lib.hid (expect_any (hs3.alloc (one o2 A2 k2 c2 Y.t.lv)) [41] (by omega))
        have HF3 : Hid (Fr gp (w.heap.size + 1) (w.alloc zn) (w3.alloc (one o2 A2 k2 c2 Y.t.lv))) := Lib.hid ((HF1.out.trans hf3 (by omega)).alloc (by omega) _)
        have HN3 : Hid (Nd (w.heap.size + 1 ≤ ·) (w3.alloc (one o2 A2 k2 c2 Y.t.lv)) Y.t (.agg #[.string o2, .slice A2 k2 c2, .int .i64 (Y.t.lv : Int)])) := Lib.hid ((hx3.imp fun i (hi : w1.heap.size ≤ i) => by omega).below ((Below.refl _ w3).alloc (Nat.le_refl _) _))
        have hcI : (w3.alloc (one o2 A2 k2 c2 Y.t.lv)).heap[w3.heap.size]? = some (one o2 A2 k2 c2 Y.t.lv) := heap_new _ _
        obtain ⟨W3, hW3⟩ : ∃ W3, w3.alloc (one o2 A2 k2 c2 Y.t.lv) = W3 := ⟨_, rfl⟩
        have hzW3 : W3.heap.size = w3.heap.size + 1 := by rw [← hW3]; simp
        rw [hW3] at HX2 HF3 HN3 hcI
        have HCI := Lib.hid hcI
        clear hx3 hs3 hf3 hcI
        unfold one at hW3
        unfold sv at HX2
        go_wp2_with fail
        (with_reducible refine HX2.out.mono ?_)
        rintro e w4 ⟨rfl, ⟨u4, hs4⟩, hf4⟩
        have hz4 := hf4.size
        have hcI4 : w4.heap[w3.heap.size]? = some (one o2 A2 k2 c2 Y.t.lv) := (hf4.block _ (by omega) (by omega)).trans HCI.out
        obtain ⟨i0, i1, i2, _⟩ := c3 hcI4
        have HM := Lib.hid (makeNode_1 [40] (w4.alloc (one o2 A2 k2 c2 Y.t.lv)) w4.heap.size _ o2 A2 k2 c2 Y.t.lv (heap_new _ _) (by omega))
        have HF4 := Lib.hid (HF3.out.trans hf4 (by omega))
        have HN4 := Lib.hid (HN3.out.fr (by intro i hi; omega) hf4)
        have HS4 := Lib.hid hs4
        clear hs4 hf4 hcI4
        unfold one mkv sv at HM
        go_wp2_with fail
        (with_reducible refine HM.out.mono ?_)
        rintro e w5 ⟨rfl, hb5⟩
        have B34 : Below w4.heap.size w4 w5 := ((Below.refl _ w4).alloc (Nat.le_refl _) _).trans (hb5.mono (by simp))
        have F5 : Fr gp (w.heap.size + 1) (w.alloc zn) w5 := HF4.out.trans (Fr.of B34) (by omega)
        have hN5 := nd_un (X := (w.heap.size + 1 ≤ ·)) [40] (by omega) HN4.out hb5
        obtain ⟨z0, z1, z2, zf⟩ := c3 (fin0 F5 hgp)
        have zf0 := zf 0; have zf1 := zf 1; have zf2 := zf 2
        obtain ⟨y1, y2, y3, y4⟩ := fin (HS4.out.below B34) hgp hbt F5 hN5
        have Y1 := Lib.hid y1; have YY := Lib.hid (And.intro y2 (And.intro y3 y4))
        clear y1 y2 y3 y4 hN5 F5 B34 hb5
        unfold set9 at Y1 YY
        have hm2 : ((Y.t.lv : Nat) : Int) + 1 = ((T.un [40] Y.t).lv : Int) := by show _ = ((Y.t.lv + 1 : Nat) : Int); simp
        go_wp2_with fail
        generalize (((w5.setCell ⟨w.heap.size, 0, none⟩ (.string ⟨[40].toArray⟩)).setCell ⟨w.heap.size, 1, none⟩ (.slice (some ⟨w4.heap.size, 0, none⟩) 1 1)).setCell ⟨w.heap.size, 2, none⟩ (.int .i64 ((T.un [40] Y.t).lv : Int))) = W9 at Y1 YY ⊢
        obtain ⟨q0, q1, q2, _⟩ := c3 Y1.out
        refine bodyPost_ret (v := .agg #[.string ⟨#[40]⟩, .slice (some ⟨w4.heap.size, 0, none⟩) 1 1, .int .i64 ((T.un [40] Y.t).lv : Int)]) (by simp [results, Tryd.results109, go_sem, q0, q1, q2]) rfl ?_
        exact ⟨_, _, rfl, YY.out.1, YY.out.2.1, YY.out.2.2⟩
      · rw [G_8x _ _ _ _ _ (hN.trans hd) hp]
        clear hN hd
        have h2 := h.alloc zn
        have HX := Lib.hid (expect_any h2 [40] hl)
        have hgp := h.lt; have hbt := h.lb
        have c0 := h2.c0
        have hE : expT [40] ((c :: t') :: l) = ((c :: t') :: l) ∧ expB [40] ((c :: t') :: l) = true := by unfold expT expB; rw [show next [[40]] ((c :: t') :: l) = none from if_neg (by simpa using hp)]; exact ⟨rfl, rfl⟩
        rw [hE.1, hE.2] at HX
        unfold sv at HX
        clear hE h h2
        go_enter Tryd.func109, Tryd.ntmps109
        go_wp2_with fail
        (with_reducible refine (isDigit_any c _).mono ?_)
        rintro e w0 ⟨rfl, rfl⟩
        rw [HD.out]
        go_wp2_with fail
        (with_reducible refine HX.out.mono ?_)
        rintro e w1 ⟨rfl, ⟨u, hs⟩, hf⟩
        have hf1 : Fr gp (w.heap.size + 1) (w.alloc zn) w1 := hf.mono (by simp)
        obtain ⟨z0, z1, z2, zf⟩ := c3 (fin0 hf1 hgp)
        have zf0 := zf 0; have zf1 := zf 1; have zf2 := zf 2
        obtain ⟨y1, y2, y3, y4⟩ := fin (x := .bad) (o := ⟨#[]⟩) (A := none) (k := 0) (c := 0) hs hgp hbt hf1 rfl
        have Y1 := Lib.hid y1; have Y := Lib.hid (And.intro y2 (And.intro y3 y4))
        clear hs hf hf1 y1 y2 y3 y4
        unfold set9 at Y1 Y
        rw [show ((T.bad.lv : Nat) : Int) = 0 from rfl] at Y1 Y
        go_wp2_with fail
        generalize (((w1.setCell ⟨w.heap.size, 0, none⟩ (.string ⟨#[]⟩)).setCell ⟨w.heap.size, 1, none⟩ (.slice none 0 0)).setCell ⟨w.heap.size, 2, none⟩ (.int .i64 0)) = W9 at Y1 Y ⊢
        obtain ⟨q0, q1, q2, _⟩ := c3 Y1.out
        refine bodyPost_ret (v := .agg #[.string ⟨#[]⟩, .slice none 0 0, .int .i64 0]) (by simp [results, Tryd.results109, go_sem, q0, q1, q2]) rfl ?_
        exact ⟨_, _, rfl, Y.out.1, Y.out.2.1, Y.out.2.2⟩
end Go.Proofs.YtfocokjihbenmaaDoor.Fo
