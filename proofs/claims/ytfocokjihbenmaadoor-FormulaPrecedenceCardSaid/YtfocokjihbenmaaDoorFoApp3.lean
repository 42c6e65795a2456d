/-
  The contracts of roundTo, raise and the operators in front of their operand.
-/
import Derived.Test.YtfocokjihbenmaaDoorFoApp
namespace Go.Proofs.YtfocokjihbenmaaDoor.Fo
open Go.RowKit Go.Proofs.YtfocokjihbenmaaDoor.Nu
set_option linter.unusedVariables false
set_option linter.unusedSimpArgs false

theorem roundTo_any (a p b q : Int) (w : World) : Calls Tryd.prog 63 #[.agg #[.int .i64 a, .int .i64 p], .agg #[.int .i64 b, .int .i64 q]] w fun e w' => e = .returned (res (rndF ⟨a, p, 0⟩ ⟨b, q, 0⟩)) ∧ Below w.heap.size w w' := by
  by_cases hq : q = 1
  · subst hq
    have e1 : rndF ⟨a, p, 0⟩ ⟨b, 1, 0⟩ = rnd a p b := if_pos rfl
    rw [e1]
    clear e1
    go_enter Tryd.func63, Tryd.ntmps63
    go_wp2_with fail
    refine (Round_any a p b _).mono ?_
    rintro e w1 ⟨rfl, hb⟩
    obtain ⟨hc, hf⟩ := bcell hb
    obtain ⟨z0, z1, z2⟩ := size3 hb
    have HB := Lib.hid (below3 hb)
    go_wp2
    exact bodyPost_ret (v := res (rnd a p b)) (by simp [results, Tryd.results63, go_sem, hc, res]) rfl ⟨rfl, two3 HB.out _ _⟩
  · have e1 : rndF ⟨a, p, 0⟩ ⟨b, q, 0⟩ = ⟨0, 0, 2⟩ := if_neg hq
    rw [e1]
    have hd : (q == 1) = false := by simpa using hq
    clear e1 hq
    go_enter Tryd.func63, Tryd.ntmps63
    go_wp2
    exact bodyPost_ret (v := res ⟨0, 0, 2⟩) (by simp [results, Tryd.results63, go_sem, res]) rfl ⟨rfl, (((Below.refl _ w).alloc (Nat.le_refl _) _).alloc (by simp) _).alloc (by simp; omega) _⟩
theorem fit_err (n d : Int) (h : (fit n d).e ≠ 0) : fit n d = ⟨0, 0, (fit n d).e⟩ := by
  unfold fit at h ⊢
  cases hb : fitB n d
  · rfl
  · rw [hb] at h; exact absurd rfl h
theorem mul_err (a p b q : Int) (h : (mul a p b q).e ≠ 0) : mul a p b q = ⟨0, 0, (mul a p b q).e⟩ := by
  unfold mul at h ⊢
  cases hb : (okB a p && okB b q)
  · rfl
  · rw [hb] at h; exact fit_err _ _ h
theorem pwr_stop (a : R3) (k : Nat) (h : (pwr a k).e ≠ 0) : ∀ j, pwr a (k + j) = pwr a k
  | 0 => rfl
  | j + 1 => by rw [← Nat.add_assoc, pwr, pwr_stop a k h j]; exact if_neg h
theorem pwr_succ (a : R3) (k : Nat) (h : (pwr a k).e = 0) : pwr a (k + 1) = mul (pwr a k).n (pwr a k).d a.n a.d := if_pos h
def nb (n d : Int) : Obj := .cells #[.int .i64 n, .int .i64 d] 23
theorem lt_heap3 {W : World} {g : Nat} {o : Obj} (h : W.heap[g]? = some o) : g < W.heap.size := (Array.getElem?_eq_some_iff.1 h).1
theorem c2 {W : World} {c : Nat} {n d : Int} (h : W.heap[c]? = some (nb n d)) : W.cell? ⟨c, 0, none⟩ = some (.int .i64 n) ∧ W.cell? ⟨c, 1, none⟩ = some (.int .i64 d) ∧ W.frozen? ⟨c, 0, none⟩ = false ∧ W.frozen? ⟨c, 1, none⟩ = false := by
  refine ⟨?_, ?_, ?_, ?_⟩
  · unfold World.cell?; rw [h]; rfl
  · unfold World.cell?; rw [h]; rfl
  · unfold World.frozen?; rw [h]; rfl
  · unfold World.frozen?; rw [h]; rfl
theorem s2 {W : World} {c : Nat} {n d : Int} (h : W.heap[c]? = some (nb n d)) (n' d' : Int) : ((W.setCell ⟨c, 0, none⟩ (.int .i64 n')).setCell ⟨c, 1, none⟩ (.int .i64 d')).heap[c]? = some (nb n' d') := by
  simp only [World.setCell, Array.getElem?_modify, if_pos, h]
  rfl
theorem s2_ne {W : World} {c g : Nat} (h : g ≠ c) (u v : Value) : ((W.setCell ⟨c, 0, none⟩ u).setCell ⟨c, 1, none⟩ v).heap[g]? = W.heap[g]? := by
  rw [Below.heap_setCell _ _ _ _ h, Below.heap_setCell _ _ _ _ h]
theorem nh (w : World) (o : Obj) : (w.alloc o).heap[w.heap.size]? = some o := by
  show (w.heap.push o)[w.heap.size]? = _
  rw [Array.getElem?_push, if_pos rfl]
theorem hp3 (w : World) (A B C : Obj) : (((w.alloc A).alloc B).alloc C).heap[w.heap.size]? = some A ∧ (((w.alloc A).alloc B).alloc C).heap[w.heap.size + 2]? = some C := by
  constructor
  · rw [Below.heap_alloc _ _ _ (by simp; omega), Below.heap_alloc _ _ _ (by simp)]; exact nh _ _
  · have := nh ((w.alloc A).alloc B) C
    simp only [World.size_alloc] at this
    exact this
/-- What holds ahead of a round of raise: the operand, the result, the product. -/
structure Rz (w wr : World) (pb : Nat) (a p n d : Int) : Prop where
  x : wr.heap[w.heap.size]? = some (nb a p)
  r : wr.heap[w.heap.size + 2]? = some (nb 0 0)
  g : wr.heap[pb]? = some (nb n d)
  bl : Below w.heap.size w wr
set_option maxRecDepth 100000 in
set_option maxHeartbeats 4000000 in
theorem raise_any (a p b q : Int) (w : World) : Calls Tryd.prog 64 #[.agg #[.int .i64 a, .int .i64 p], .agg #[.int .i64 b, .int .i64 q]] w fun e w' => e = .returned (res (pwF ⟨a, p, 0⟩ ⟨b, q, 0⟩)) ∧ Below w.heap.size w w' := by
  by_cases hq : q = 1 ∧ 0 ≤ b ∧ b ≤ 30
  · obtain ⟨rfl, h0, h30⟩ := hq
    have e1 : pwF ⟨a, p, 0⟩ ⟨b, 1, 0⟩ = pwr ⟨a, p, 0⟩ b.toNat := if_pos ⟨rfl, h0, h30⟩
    rw [e1]
    clear e1
    obtain ⟨B, rfl⟩ : ∃ B : Nat, b = (B : Int) := ⟨b.toNat, by omega⟩
    rw [Int.toNat_natCast]
    have d1 : decide ((B : Int) < 0) = false := by rw [decide_eq_false_iff_not]; omega
    have d2 : decide ((B : Int) > 30) = false := by rw [decide_eq_false_iff_not]; omega
    have hB30 : B ≤ 30 := by omega
    clear h0 h30
    go_enter Tryd.func64, Tryd.ntmps64
    go_wp2_with fail
    refine (integer_any 1 _).mono ?_
    rintro e w1 ⟨rfl, hb⟩
    have hz1 := hb.size
    simp only [World.size_alloc] at hz1
    obtain ⟨hc, hf⟩ := bcell hb
    have J0 : Hid (∃ k : Nat, 0 = (k : Int) ∧ k ≤ B ∧ (pwr ⟨a, p, 0⟩ k).e = 0 ∧ Rz w (w1.alloc (nb 1 1)) w1.heap.size a p (pwr ⟨a, p, 0⟩ k).n (pwr ⟨a, p, 0⟩ k).d) := Lib.hid ⟨0, rfl, Nat.zero_le _, rfl, (Below.heap_alloc _ _ _ (by omega)).trans ((hb.block _ (by simp; omega)).trans (hp3 w _ _ _).1), (Below.heap_alloc _ _ _ (by omega)).trans ((hb.block _ (by simp)).trans (hp3 w _ _ _).2), nh _ _, (below3 hb).alloc (by omega) _⟩
    unfold nb at J0
    have hlt0 : w.heap.size < w1.heap.size := by omega
    have hlt1 : w.heap.size + 1 < w1.heap.size := by omega
    clear hb
    have HL := Lib.hid hlt0
    go_wp2_with fail
    clear hc hf
    go_loopw [26] (fun i wr => ∃ k : Nat, i = .int .i64 k ∧ k ≤ B ∧ Hid ((pwr ⟨a, p, 0⟩ k).e = 0 ∧ Rz w wr w1.heap.size a p (pwr ⟨a, p, 0⟩ k).n (pwr ⟨a, p, 0⟩ k).d)) (fun i _ => B - (intOf i).toNat)
    case atStart =>
      obtain ⟨k, hk0, hk, h1, h2⟩ := J0.out
      have : k = 0 := by omega
      subst this
      exact ⟨0, rfl, hk, Lib.hid ⟨h1, h2⟩⟩
    case round =>
      obtain ⟨k, rfl, hk, hS⟩ := hrel
      clear J0
      obtain ⟨he, hz⟩ := hS.out
      clear hS
      obtain ⟨g0, g1, g2, g3⟩ := c2 hz.g
      obtain ⟨x0, x1, x2, x3⟩ := c2 hz.x
      obtain ⟨r0, r1, r2, r3⟩ := c2 hz.r
      have hgl := lt_heap3 hz.g
      by_cases hlt : k < B
      · have hd : decide ((k : Int) < (B : Int)) = true := by rw [decide_eq_true_iff]; omega
        have hs := pwr_succ ⟨a, p, 0⟩ k he
        have HE := Lib.hid he
        have HZ := Lib.hid hz
        generalize hN : (pwr ⟨a, p, 0⟩ k).n = n at *
        generalize hD : (pwr ⟨a, p, 0⟩ k).d = d at *
        have HS := Lib.hid hs
        clear he hz hs
        go_wp2_with fail
        refine (Mul_any n d a p _).mono ?_
        rintro e w2 ⟨rfl, hb2⟩
        have hz2 := hb2.size
        have kp : ∀ i, i < wr.heap.size → w2.heap[i]? = wr.heap[i]? := fun i hi => hb2.block i hi
        have hw12 : w1.heap.size < w2.heap.size := by omega
        have hw22 : w.heap.size + 1 + 1 < w2.heap.size := by have := lt_heap3 HZ.out.r; omega
        have HB2 := Lib.hid hb2
        have hg2 := (kp _ (lt_heap3 HZ.out.g)).trans HZ.out.g
        have hx2 := (kp _ (lt_heap3 HZ.out.x)).trans HZ.out.x
        have hr2 := (kp _ (lt_heap3 HZ.out.r)).trans HZ.out.r
        have HG2 := Lib.hid hg2; have HX2 := Lib.hid hx2; have HR2 := Lib.hid hr2
        obtain ⟨m0, m1, m2, m3⟩ := c2 hg2
        obtain ⟨n0, n1, n2, n3⟩ := c2 hr2
        clear hb2 kp hg2 hx2 hr2 g0 g1 g2 g3 x0 x1 x2 x3 r0 r1 r2 r3
        by_cases hm : (mul n d a p).e = 0
        · have HM := Lib.hid hm
          have hr : Hid (∀ W : World, W.heap.size = w2.heap.size + 1 → (∀ i, i < w2.heap.size → i ≠ w1.heap.size → W.heap[i]? = w2.heap[i]?) → W.heap[w1.heap.size]? = some (nb (mul n d a p).n (mul n d a p).d) → W.os = w2.os → W.tape = w2.tape → W.output = w2.output →
              (pwr ⟨a, p, 0⟩ (k + 1)).e = 0 ∧ Rz w W w1.heap.size a p (pwr ⟨a, p, 0⟩ (k + 1)).n (pwr ⟨a, p, 0⟩ (k + 1)).d) := Lib.hid fun W q1 q2 q3 q4 q5 q6 => by
            have bl := HZ.out.bl.trans (HB2.out.mono HZ.out.bl.size)
            rw [HS.out]
            exact ⟨HM.out, (q2 _ (by omega) (by omega)).trans HX2.out, (q2 _ (by omega) (by omega)).trans HR2.out, q3, ⟨q4.trans bl.os, q5.trans bl.tape, q6.trans bl.output, by rw [q1]; omega, fun i hi => (q2 i (by omega) (by omega)).trans (bl.block i hi)⟩⟩
          go_wp2_with fail
          go_roundw
          case rel =>
            refine ⟨k + 1, by simp, by omega, Lib.hid (hr.out _ (by simp [World.setCell]) (fun i hi hne => ?_) ?_ rfl rfl rfl)⟩
            · rw [Below.heap_alloc _ _ _ (by simp [World.setCell]; exact hi)]; exact s2_ne hne _ _
            · rw [Below.heap_alloc _ _ _ (by simp [World.setCell]; omega)]; exact s2 HG2.out _ _
          case measure => simp [intOf]; omega
        · have HM := Lib.hid (mul_err n d a p hm)
          have hd2 : ((mul n d a p).e == 0) = false := by simpa using hm
          have hstop : pwr ⟨a, p, 0⟩ B = ⟨0, 0, (mul n d a p).e⟩ := by
            have e2 : B = (k + 1) + (B - (k + 1)) := by omega
            rw [e2, pwr_stop ⟨a, p, 0⟩ (k + 1) (by rw [HS.out]; exact hm), HS.out]
            exact HM.out
          have HT := Lib.hid hstop
          clear hm hstop
          have bl := HZ.out.bl.trans (HB2.out.mono HZ.out.bl.size)
          have HBL := Lib.hid bl
          clear bl
          go_wp2_with fail
          exact bodyPost_ret (v := res ⟨0, 0, (mul n d a p).e⟩) (by simp [results, Tryd.results64, go_sem, hw22, n0, n1, res]) rfl ⟨by rw [HT.out], (two3 HBL.out _ _).alloc (by simp [World.setCell]; omega) _⟩
      · have ek : k = B := by omega
        subst ek
        have hd : decide ((k : Int) < (k : Int)) = false := by simp
        have HE := Lib.hid he
        have HZ := Lib.hid hz
        clear he hz
        go_wp2_with fail
        exact bodyPost_ret (v := .tuple #[.agg #[.int .i64 (pwr ⟨a, p, 0⟩ k).n, .int .i64 (pwr ⟨a, p, 0⟩ k).d], .int .i64 0]) (by simp [results, Tryd.results64, go_sem, r0, r1]) rfl ⟨by unfold res; rw [HE.out], two3 HZ.out.bl _ _⟩
  · have e1 : pwF ⟨a, p, 0⟩ ⟨b, q, 0⟩ = ⟨0, 0, 2⟩ := if_neg hq
    rw [e1]
    clear e1
    by_cases h1 : q = 1
    · subst h1
      by_cases h2 : b < 0
      · have d1 : decide (b < 0) = true := decide_eq_true h2
        clear hq
        go_enter Tryd.func64, Tryd.ntmps64
        go_wp2
        exact bodyPost_ret (v := res ⟨0, 0, 2⟩) (by simp [results, Tryd.results64, go_sem, res]) rfl ⟨rfl, (((Below.refl _ w).alloc (Nat.le_refl _) _).alloc (by simp) _).alloc (by simp; omega) _⟩
      · have d1 : decide (b < 0) = false := decide_eq_false h2
        have d2 : decide (b > 30) = true := by rw [decide_eq_true_iff]; omega
        clear hq h2
        go_enter Tryd.func64, Tryd.ntmps64
        go_wp2
        exact bodyPost_ret (v := res ⟨0, 0, 2⟩) (by simp [results, Tryd.results64, go_sem, res]) rfl ⟨rfl, (((Below.refl _ w).alloc (Nat.le_refl _) _).alloc (by simp) _).alloc (by simp; omega) _⟩
    · have hd : (q == 1) = false := by simpa using h1
      clear hq
      go_enter Tryd.func64, Tryd.ntmps64
      go_wp2
      exact bodyPost_ret (v := res ⟨0, 0, 2⟩) (by simp [results, Tryd.results64, go_sem, res]) rfl ⟨rfl, (((Below.refl _ w).alloc (Nat.le_refl _) _).alloc (by simp) _).alloc (by simp; omega) _⟩
set_option maxRecDepth 100000 in
set_option maxHeartbeats 2000000 in
theorem ap_rnd (a p b q : Int) (w : World) : Calls Tryd.prog 31 #[.string ⟨#[114, 111, 117, 110, 100]⟩, .agg #[.int .i64 a, .int .i64 p], .agg #[.int .i64 b, .int .i64 q]] w fun e w' => e = .returned (res (rndF ⟨a, p, 0⟩ ⟨b, q, 0⟩)) ∧ Below w.heap.size w w' := by
  have HC := Lib.hid (fun w => roundTo_any a p b q w)
  generalize rndF ⟨a, p, 0⟩ ⟨b, q, 0⟩ = r at HC ⊢
  unfold res at HC
  go_enter Tryd.func31, Tryd.ntmps31
  go_wp2_with fail
  refine (HC.out _).mono ?_
  rintro e w1 ⟨rfl, hb⟩
  obtain ⟨hc, hf⟩ := bcell hb
  obtain ⟨z0, z1, z2⟩ := size3 hb
  have HB := Lib.hid (below3 hb)
  go_wp2
  exact bodyPost_ret (v := res r) (by simp [results, Tryd.results31, go_sem, hc, res]) rfl ⟨rfl, two3 HB.out _ _⟩
set_option maxRecDepth 100000 in
set_option maxHeartbeats 2000000 in
theorem ap_pow (a p b q : Int) (w : World) : Calls Tryd.prog 31 #[.string ⟨#[94]⟩, .agg #[.int .i64 a, .int .i64 p], .agg #[.int .i64 b, .int .i64 q]] w fun e w' => e = .returned (res (pwF ⟨a, p, 0⟩ ⟨b, q, 0⟩)) ∧ Below w.heap.size w w' := by
  have HC := Lib.hid (fun w => raise_any a p b q w)
  generalize pwF ⟨a, p, 0⟩ ⟨b, q, 0⟩ = r at HC ⊢
  unfold res at HC
  go_enter Tryd.func31, Tryd.ntmps31
  go_wp2_with fail
  refine (HC.out _).mono ?_
  rintro e w1 ⟨rfl, hb⟩
  obtain ⟨hc, hf⟩ := bcell hb
  obtain ⟨z0, z1, z2⟩ := size3 hb
  have HB := Lib.hid (below3 hb)
  go_wp2
  exact bodyPost_ret (v := res r) (by simp [results, Tryd.results31, go_sem, hc, res]) rfl ⟨rfl, two3 HB.out _ _⟩
theorem two2 {w W : World} (h : Below w.heap.size w W) (u v : Value) : Below w.heap.size w ((W.setCell ⟨w.heap.size + 1, 0, none⟩ u).setCell ⟨w.heap.size + 1, 1, none⟩ v) :=
  (h.setCell (by show _ ≤ w.heap.size + 1; omega) _).setCell (by show _ ≤ w.heap.size + 1; omega) _
theorem below2 {w w1 : World} {A B : Obj} (hb : Below ((w.alloc A).alloc B).heap.size ((w.alloc A).alloc B) w1) : Below w.heap.size w w1 :=
  (((Below.refl _ w).alloc (Nat.le_refl _) A).alloc (by simp) B).trans (hb.mono (by simp; omega))
theorem size2 {w w1 : World} {A B : Obj} (hb : Below ((w.alloc A).alloc B).heap.size ((w.alloc A).alloc B) w1) : w.heap.size < w1.heap.size ∧ w.heap.size + 1 < w1.heap.size := by
  have := hb.size; simp at this; omega
theorem pre_plus (o : ByteArray) (ho : o = ⟨#[43]⟩ ∨ o = ⟨#[40]⟩) (a p : Int) (w : World) : Calls Tryd.prog 30 #[.string o, .agg #[.int .i64 a, .int .i64 p]] w fun e w' => e = .returned (res ⟨a, p, 0⟩) ∧ Below w.heap.size w w' := by
  rcases ho with rfl | rfl
  all_goals
    go_enter Tryd.func30, Tryd.ntmps30
    go_wp2
    exact bodyPost_ret (v := res ⟨a, p, 0⟩) (by simp [results, Tryd.results30, go_sem, res]) rfl ⟨rfl, ((Below.refl _ w).alloc (Nat.le_refl _) _).alloc (by simp) _⟩
theorem pre_not (a p : Int) (w : World) : Calls Tryd.prog 30 #[.string ⟨#[110, 111, 116]⟩, .agg #[.int .i64 a, .int .i64 p]] w fun e w' => e = .returned (res (tr (decide (a = 0)))) ∧ Below w.heap.size w w' := by
  have hn : decide (a = 0) = !decide (a ≠ 0) := by by_cases h : a = 0 <;> simp [h]
  rw [hn]
  clear hn
  cases ha : decide (a ≠ 0)
  all_goals
    have HA := Lib.hid ha; clear ha
    go_enter Tryd.func30, Tryd.ntmps30
    go_wp2_with fail
    refine (isTrue_any a p _).mono ?_
    rintro e w1 ⟨rfl, hb⟩
    rw [HA.out]
    obtain ⟨hc, hf⟩ := bcell hb
    obtain ⟨y0, y1⟩ := size2 hb
    have HB := Lib.hid (below2 hb)
    go_wp2_with fail
    refine (truth_any _ _).mono ?_
    rintro e w9 ⟨rfl, hb9⟩
    obtain ⟨hc9, hf9⟩ := bcell hb9
    have z1 : w.heap.size + 1 < w9.heap.size := Nat.lt_of_lt_of_le y1 hb9.size
    have HB9 := Lib.hid (HB.out.trans (hb9.mono HB.out.size))
    go_wp2
    first
      | exact bodyPost_ret (v := res (tr false)) (by simp [results, Tryd.results30, go_sem, hc9, hc, y1, res, tr]) rfl ⟨rfl, two2 HB9.out _ _⟩
      | exact bodyPost_ret (v := res (tr true)) (by simp [results, Tryd.results30, go_sem, hc9, hc, y1, res, tr]) rfl ⟨rfl, two2 HB9.out _ _⟩
theorem pre_floor (a p : Int) (w : World) : Calls Tryd.prog 30 #[.string ⟨#[102, 108, 111, 111, 114]⟩, .agg #[.int .i64 a, .int .i64 p]] w fun e w' => e = .returned (res ⟨flr a p, 1, 0⟩) ∧ Below w.heap.size w w' := by
  go_enter Tryd.func30, Tryd.ntmps30
  go_wp2_with fail
  refine (Floor_any a p _).mono ?_
  rintro e w1 ⟨rfl, hb⟩
  obtain ⟨hc, hf⟩ := bcell hb
  obtain ⟨y0, y1⟩ := size2 hb
  have HB := Lib.hid (below2 hb)
  go_wp2_with fail
  refine (integer_any _ _).mono ?_
  rintro e w9 ⟨rfl, hb9⟩
  obtain ⟨hc9, hf9⟩ := bcell hb9
  have z1 : w.heap.size + 1 < w9.heap.size := Nat.lt_of_lt_of_le y1 hb9.size
  have HB9 := Lib.hid (HB.out.trans (hb9.mono HB.out.size))
  go_wp2
  exact bodyPost_ret (v := res ⟨flr a p, 1, 0⟩) (by simp [results, Tryd.results30, go_sem, hc9, hc, y1, res]) rfl ⟨rfl, two2 HB9.out _ _⟩
end Go.Proofs.YtfocokjihbenmaaDoor.Fo
