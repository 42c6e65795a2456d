/-
  The contract of Parse of the reference of chapter 8.
  The contract of Eval of the reference of chapter 8.
-/
import Derived.Test.YtfocokjihbenmaaGreatDoorFoRx
import Derived.Test.YtfocokjihbenmaaGreatDoorFoRt
import Derived.Test.YtfocokjihbenmaaGreatDoorFoGr
import Derived.Test.YtfocokjihbenmaaGreatDoorFoTk
import Derived.Test.YtfocokjihbenmaaGreatDoorFoRv
namespace Go.Proofs.YtfocokjihbenmaaGreatDoor.Fo
open Go.RowKit Go.Proofs.YtfocokjihbenmaaGreatDoor.Nu
set_option linter.unusedVariables false
set_option linter.unusedSimpArgs false

def zr : Value := .agg #[.string ⟨#[]⟩, .string ⟨#[]⟩, .slice none 0 0]
/-- The reading of all tokens by the reference. -/
def topQ (l : List Tok) : Res := Q (fuel l) 0 .bad l false
theorem topQ_t {l : List Tok} (h : topB l = true) : (topQ l).t = (top l).t ∧ (topQ l).b = false ∧ (topQ l).r = [] := by
  rw [topB_iff] at h
  have h2 : (top l).b = false ∧ (top l).r = [] := by simpa using h
  rcases GQ (fuel l) 0 .bad l with ⟨h3, h4⟩ | ⟨h3, h4⟩
  · have e : topQ l = top l := h4
    rw [e]; exact ⟨rfl, h2⟩
  · exact absurd (h2.1.symm.trans h3) (by decide)
theorem topQ_f {l : List Tok} (h : topB l = false) : (topQ l).b = true ∨ ((topQ l).b = false ∧ 0 < (topQ l).r.length) := by
  rw [topB_iff] at h
  have h2 : (top l).b = false → (top l).r ≠ [] := by simpa using h
  rcases GQ (fuel l) 0 .bad l with ⟨h3, h4⟩ | ⟨h3, h4⟩
  · have e : topQ l = top l := h4
    rw [e]
    exact .inr ⟨h3, List.length_pos_iff.2 (h2 h3)⟩
  · exact .inl h4
theorem ps_fin {w W : World} (hb : Below w.heap.size w W) {a b c : Value} (hr : W.heap[w.heap.size]? = some (.cells #[a, b, c] 50)) (x y z : Value) (o : Obj) :
    ((((W.setCell ⟨w.heap.size, 0, none⟩ x).setCell ⟨w.heap.size, 1, none⟩ y).setCell ⟨w.heap.size, 2, none⟩ z).alloc o).heap[w.heap.size]? = some (.cells #[x, y, z] 50) ∧
    Below w.heap.size w ((((W.setCell ⟨w.heap.size, 0, none⟩ x).setCell ⟨w.heap.size, 1, none⟩ y).setCell ⟨w.heap.size, 2, none⟩ z).alloc o) ∧
    ∀ (T : T) (v : Value), Rd (w.heap.size < ·) W T v → Rd (w.heap.size ≤ ·) ((((W.setCell ⟨w.heap.size, 0, none⟩ x).setCell ⟨w.heap.size, 1, none⟩ y).setCell ⟨w.heap.size, 2, none⟩ z).alloc o) T v := by
  have hl := lt_heap hr
  have hB := ((hb.setCell (p := ⟨w.heap.size, 0, none⟩) (Nat.le_refl _) x).setCell (p := ⟨w.heap.size, 1, none⟩) (Nat.le_refl _) y).setCell (p := ⟨w.heap.size, 2, none⟩) (Nat.le_refl _) z
  refine ⟨?_, hB.alloc hB.size o, fun T v hR => Rd.keep (X := fun i => w.heap.size < i) (fun i hi hl2 => ?_) (fun i hi _ => Nat.le_of_lt hi) _ _ hR⟩
  · rw [Below.heap_alloc _ _ _ (by simpa [World.setCell] using hl)]
    exact set3 hr _ _ _
  · rw [Below.heap_alloc _ _ _ (by simpa [World.setCell] using hl2)]
    exact set3_ne (by omega) _ _ _
/-- The parser's call of level, with all tokens left. -/
theorem ps_level (l : List Tok) (hz : ∀ t ∈ l, 0 < t.length ∧ t.length ≤ 19) (hl : l.length ≤ 400) (w1 : World) (bt : Nat) (v : Value) (ht : TS bt w1 v l) (hbt : bt < w1.heap.size) :
    Calls Tryz.prog 38 #[.pointer (some ⟨w1.heap.size, 0, none⟩), .int .i64 0] (w1.alloc (.cells #[v, .int .i64 0, .bool false] 72)) (PoR w1.heap.size bt v l (w1.alloc (.cells #[v, .int .i64 0, .bool false] 72)) (topQ l)) := by
  have hS : Spr w1.heap.size bt v l (w1.alloc (.cells #[v, .int .i64 0, .bool false] 72)) l false := by
    refine ⟨?_, ht.keep (Below.heap_alloc _ _ _ hbt), by simp, Nat.le_refl _, by omega, by omega, by simp; omega, hz⟩
    rw [Nat.sub_self]
    exact heap_new _ _
  exact (allR (fuel l)).lev 0 (by omega) w1.heap.size bt v l _ l hS (by unfold fuel; omega)
set_option maxRecDepth 100000 in
set_option maxHeartbeats 4000000 in
theorem Parse_none (s : ByteArray) (hs : s.size ≤ 400) (w : World) (hq : splitL s.data.toList = none) : Calls Tryz.prog 22 #[.string s] w fun e w' => e = .returned (.tuple #[zr, .int .i64 1]) ∧ Below w.heap.size w w' := by
  have HS := Lib.hid (fun w => Tokens_any s hs w)
  have HQ := Lib.hid hq
  clear hq
  go_enter Tryz.func22, Tryz.ntmps22
  go_wp2_with fail
  refine (HS.out _).mono ?_
  rintro e w1 ⟨hb, hp⟩
  rw [HQ.out] at hp
  obtain rfl := hp
  have hr1 : w1.heap[w.heap.size]? = some zno := (hb.block _ (by simp)).trans (heap_new _ _)
  have hz1 := lt_heap hr1
  obtain ⟨q0, q1, q2, qf⟩ := c3 hr1
  have f0 := qf 0; have f1 := qf 1; have f2 := qf 2
  have HB := Lib.hid (below1 hb)
  have HR := Lib.hid hr1
  clear hb hr1 qf
  go_wp2_with fail
  obtain ⟨z, zb, _⟩ := ps_fin HB.out HR.out (.string ⟨#[]⟩) (.string ⟨#[]⟩) (.slice none 0 0) (.cells #[.slice none 0 0, .int .i64 0, .bool false] 72)
  generalize ((((w1.setCell ⟨w.heap.size, 0, none⟩ (.string ⟨#[]⟩)).setCell ⟨w.heap.size, 1, none⟩ (.string ⟨#[]⟩)).setCell ⟨w.heap.size, 2, none⟩ (.slice none 0 0)).alloc (.cells #[.slice none 0 0, .int .i64 0, .bool false] 72)) = W9 at z zb ⊢
  obtain ⟨z0, z1, z2, _⟩ := c3 z
  exact bodyPost_ret (v := .tuple #[zr, .int .i64 1]) (by simp [results, Tryz.results22, go_sem, z0, z1, z2, zr]) rfl ⟨rfl, zb⟩
set_option maxRecDepth 100000 in
set_option maxHeartbeats 4000000 in
theorem Parse_ok (s : ByteArray) (hs : s.size ≤ 400) (w : World) (l : List Tok) (hq : splitL s.data.toList = some l) (hB : topB l = true) : Calls Tryz.prog 22 #[.string s] w fun e w' => ∃ x, e = .returned (.tuple #[x, .int .i64 0]) ∧ Rd (w.heap.size ≤ ·) w' (top l).t x ∧ Below w.heap.size w w' := by
  have HS := Lib.hid (fun w => Tokens_any s hs w)
  have HQ := Lib.hid hq
  obtain ⟨hl1, hl2⟩ := split_all hq
  have hsz : s.data.toList.length = s.size := rfl
  have HL := Lib.hid (ps_level l hl2 (by omega))
  obtain ⟨e1, e2, e3⟩ := topQ_t hB
  rw [show topQ l = ⟨(top l).t, [], false⟩ by rw [← e1, ← e2, ← e3]] at HL
  generalize (top l).t = T at HL ⊢
  clear hq hl1 hl2 hsz e1 e2 e3 hB
  go_enter Tryz.func22, Tryz.ntmps22
  go_wp2_with fail
  refine (HS.out _).mono ?_
  rintro e w1 ⟨hb, hp⟩
  rw [HQ.out] at hp
  obtain ⟨v, rfl, hown⟩ := hp
  obtain ⟨VA, VC, hv⟩ := own_form hown
  subst hv
  have hr1 : w1.heap[w.heap.size]? = some zno := (hb.block _ (by simp)).trans (heap_new _ _)
  have hz1 := lt_heap hr1
  obtain ⟨bt, hbt, hts⟩ := own_TS hown (by omega)
  have HL1 := Lib.hid (HL.out w1 bt _ hts hbt)
  have HB := Lib.hid (below1 hb)
  have HR := Lib.hid hr1
  clear hb hr1 hown hts HL
  go_wp2_with fail
  (with_reducible refine HL1.out.mono ?_)
  rintro e w2 ⟨x, rfl, hx, hs2, hf⟩
  obtain ⟨o1, t1, A1, k1, d1, rfl⟩ := hx.form
  have b0 := hs2.c0; have b1 := hs2.c1; have b2 := hs2.c2
  simp only [List.length_nil, Nat.sub_zero] at b1
  have hlt2 := hs2.lt
  have hr2 : w2.heap[w.heap.size]? = some zno := (hf.block _ (by simp; omega) (by omega)).trans ((Below.heap_alloc _ _ _ hz1).trans HR.out)
  have hl0 : w.heap.size < w2.heap.size := lt_heap hr2
  obtain ⟨q0, q1, q2, qf⟩ := c3 hr2
  have f0 := qf 0; have f1 := qf 1; have f2 := qf 2
  have hd : decide ((l.length : Int) < (l.length : Int)) = false := by simp
  have HX := Lib.hid (Rd.imp (X' := (w.heap.size < ·)) hx fun i hi => by simp at hi; omega)
  have HB2 := Lib.hid ((HB.out.alloc HB.out.size (.cells #[.slice VA l.length VC, .int .i64 0, .bool false] 72)).trans ((hf.mono (m := w.heap.size) (by simp; omega)).below (by omega)))
  have HR2 := Lib.hid hr2
  clear hx hs2 hf hr2 qf
  go_wp2_with fail
  obtain ⟨z, zb, zx⟩ := ps_fin HB2.out HR2.out (.string o1) (.string t1) (.slice A1 k1 d1) (.cells #[.string o1, .string t1, .slice A1 k1 d1] 50)
  have zx := zx _ _ HX.out
  generalize ((((w2.setCell ⟨w.heap.size, 0, none⟩ (.string o1)).setCell ⟨w.heap.size, 1, none⟩ (.string t1)).setCell ⟨w.heap.size, 2, none⟩ (.slice A1 k1 d1)).alloc (.cells #[.string o1, .string t1, .slice A1 k1 d1] 50)) = W9 at z zb zx ⊢
  obtain ⟨z0, z1, z2, _⟩ := c3 z
  exact bodyPost_ret (v := .tuple #[.agg #[.string o1, .string t1, .slice A1 k1 d1], .int .i64 0]) (by simp [results, Tryz.results22, go_sem, z0, z1, z2]) rfl ⟨_, rfl, zx, zb⟩
set_option maxRecDepth 100000 in
set_option maxHeartbeats 4000000 in
theorem Parse_bad (s : ByteArray) (hs : s.size ≤ 400) (w : World) (l : List Tok) (hq : splitL s.data.toList = some l) (hB : topB l = false) : Calls Tryz.prog 22 #[.string s] w fun e w' => e = .returned (.tuple #[zr, .int .i64 1]) ∧ Below w.heap.size w w' := by
  have HS := Lib.hid (fun w => Tokens_any s hs w)
  have HQ := Lib.hid hq
  obtain ⟨hl1, hl2⟩ := split_all hq
  have hsz : s.data.toList.length = s.size := rfl
  have HL := Lib.hid (ps_level l hl2 (by omega))
  have hQ := topQ_f hB
  generalize topQ l = R at HL hQ
  clear hq hl1 hl2 hsz hB
  go_enter Tryz.func22, Tryz.ntmps22
  go_wp2_with fail
  refine (HS.out _).mono ?_
  rintro e w1 ⟨hb, hp⟩
  rw [HQ.out] at hp
  obtain ⟨v, rfl, hown⟩ := hp
  obtain ⟨VA, VC, hv⟩ := own_form hown
  subst hv
  have hr1 : w1.heap[w.heap.size]? = some zno := (hb.block _ (by simp)).trans (heap_new _ _)
  have hz1 := lt_heap hr1
  obtain ⟨bt, hbt, hts⟩ := own_TS hown (by omega)
  have HL1 := Lib.hid (HL.out w1 bt _ hts hbt)
  have HB := Lib.hid (below1 hb)
  have HR := Lib.hid hr1
  clear hb hr1 hown hts HL
  go_wp2_with fail
  (with_reducible refine HL1.out.mono ?_)
  rintro e w2 ⟨x, rfl, hx, hs2, hf⟩
  obtain ⟨o1, t1, A1, k1, d1, rfl⟩ := hx.form
  have b0 := hs2.c0; have b1 := hs2.c1; have b2 := hs2.c2
  have hle := hs2.le
  have hd : R.b = false → decide (((l.length - R.r.length : Nat) : Int) < (l.length : Int)) = true := fun h => by
    rcases hQ with h2 | h2
    · rw [h] at h2; cases h2
    · rw [decide_eq_true_iff]; have := h2.2; omega
  have hlt2 := hs2.lt
  have hr2 : w2.heap[w.heap.size]? = some zno := (hf.block _ (by simp; omega) (by omega)).trans ((Below.heap_alloc _ _ _ hz1).trans HR.out)
  have hl0 : w.heap.size < w2.heap.size := lt_heap hr2
  obtain ⟨q0, q1, q2, qf⟩ := c3 hr2
  have f0 := qf 0; have f1 := qf 1; have f2 := qf 2
  have HB2 := Lib.hid ((HB.out.alloc HB.out.size (.cells #[.slice VA l.length VC, .int .i64 0, .bool false] 72)).trans ((hf.mono (m := w.heap.size) (by simp; omega)).below (by omega)))
  have HR2 := Lib.hid hr2
  clear hx hs2 hf hr2 qf hQ
  obtain ⟨z, zb, _⟩ := ps_fin HB2.out HR2.out (.string ⟨#[]⟩) (.string ⟨#[]⟩) (.slice none 0 0) (.cells #[.string o1, .string t1, .slice A1 k1 d1] 50)
  cases hb : R.b with
  | true =>
    rw [hb] at b2
    clear hd
    go_wp2_with fail
    generalize ((((w2.setCell ⟨w.heap.size, 0, none⟩ (.string ⟨#[]⟩)).setCell ⟨w.heap.size, 1, none⟩ (.string ⟨#[]⟩)).setCell ⟨w.heap.size, 2, none⟩ (.slice none 0 0)).alloc (.cells #[.string o1, .string t1, .slice A1 k1 d1] 50)) = W9 at z zb ⊢
    obtain ⟨z0, z1, z2, _⟩ := c3 z
    exact bodyPost_ret (v := .tuple #[zr, .int .i64 1]) (by simp [results, Tryz.results22, go_sem, z0, z1, z2, zr]) rfl ⟨rfl, zb⟩
  | false =>
    rw [hb] at b2
    have hd := hd hb
    obtain ⟨i, hi⟩ : ∃ i : Nat, l.length - R.r.length = i := ⟨_, rfl⟩
    rw [hi] at b1 hd
    have hi2 : (i : Int) < (l.length : Int) := by simpa using hd
    go_wp2_with fail
    generalize ((((w2.setCell ⟨w.heap.size, 0, none⟩ (.string ⟨#[]⟩)).setCell ⟨w.heap.size, 1, none⟩ (.string ⟨#[]⟩)).setCell ⟨w.heap.size, 2, none⟩ (.slice none 0 0)).alloc (.cells #[.string o1, .string t1, .slice A1 k1 d1] 50)) = W9 at z zb ⊢
    obtain ⟨z0, z1, z2, _⟩ := c3 z
    exact bodyPost_ret (v := .tuple #[zr, .int .i64 1]) (by simp [results, Tryz.results22, go_sem, z0, z1, z2, zr]) rfl ⟨rfl, zb⟩
end Go.Proofs.YtfocokjihbenmaaGreatDoor.Fo

namespace Go.Proofs.YtfocokjihbenmaaGreatDoor.Fo
open Go.RowKit Go.Proofs.YtfocokjihbenmaaGreatDoor.Nu
set_option linter.unusedVariables false
set_option linter.unusedSimpArgs false

theorem rev_fin {w W : World} (hb : Below w.heap.size w W) (hr : W.heap[w.heap.size]? = some (nb 0 0)) (n d : Int) :
    ((W.setCell ⟨w.heap.size, 0, none⟩ (.int .i64 n)).setCell ⟨w.heap.size, 1, none⟩ (.int .i64 d)).heap[w.heap.size]? = some (nb n d) ∧
    Below w.heap.size w ((W.setCell ⟨w.heap.size, 0, none⟩ (.int .i64 n)).setCell ⟨w.heap.size, 1, none⟩ (.int .i64 d)) :=
  ⟨s2 hr n d, (hb.setCell (p := ⟨w.heap.size, 0, none⟩) (Nat.le_refl _) _).setCell (p := ⟨w.heap.size, 1, none⟩) (Nat.le_refl _) _⟩
theorem rev_fin2 {w W : World} (hb : Below w.heap.size w W) (hr : W.heap[w.heap.size]? = some (nb 0 0)) (n d : Int) (o : Obj) :
    (((W.setCell ⟨w.heap.size, 0, none⟩ (.int .i64 n)).setCell ⟨w.heap.size, 1, none⟩ (.int .i64 d)).alloc o).heap[w.heap.size]? = some (nb n d) ∧
    Below w.heap.size w (((W.setCell ⟨w.heap.size, 0, none⟩ (.int .i64 n)).setCell ⟨w.heap.size, 1, none⟩ (.int .i64 d)).alloc o) := by
  obtain ⟨h1, h2⟩ := rev_fin hb hr n d
  exact ⟨(Below.heap_alloc _ _ _ (lt_heap h1)).trans h1, h2.alloc h2.size o⟩
set_option maxRecDepth 100000 in
set_option maxHeartbeats 4000000 in
theorem REval_fail (s : ByteArray) (hs : ¬ 400 < s.size) (w : World) (hP : ∀ W, Calls Tryz.prog 22 #[.string s] W fun e w' => e = .returned (.tuple #[zr, .int .i64 1]) ∧ Below W.heap.size W w') :
    Calls Tryz.prog 8 #[.string s] w fun e w' => e = .returned (res ⟨0, 0, 1⟩) ∧ Below w.heap.size w w' := by
  have hd : decide ((s.size : Int) > 400) = false := by rw [decide_eq_false_iff_not]; omega
  have HP := Lib.hid hP
  clear hP hs
  unfold zr at HP
  go_enter Tryz.func8, Tryz.ntmps8
  go_wp2_with fail
  (with_reducible refine (HP.out _).mono ?_)
  rintro e w1 ⟨rfl, hb⟩
  have hr1 : w1.heap[w.heap.size]? = some (nb 0 0) := (hb.block _ (by simp)).trans (nh _ _)
  have hz1 := lt_heap hr1
  obtain ⟨q0, q1, f0, f1⟩ := c2 hr1
  obtain ⟨z, zb⟩ := rev_fin2 (below1 hb) hr1 0 0 (.cells #[.string ⟨#[]⟩, .string ⟨#[]⟩, .slice none 0 0] 50)
  clear hb hr1
  go_wp2_with fail
  generalize (((w1.setCell ⟨w.heap.size, 0, none⟩ (.int .i64 0)).setCell ⟨w.heap.size, 1, none⟩ (.int .i64 0)).alloc (.cells #[.string ⟨#[]⟩, .string ⟨#[]⟩, .slice none 0 0] 50)) = W9 at z zb ⊢
  obtain ⟨z0, z1, _, _⟩ := c2 z
  exact bodyPost_ret (v := res ⟨0, 0, 1⟩) (by simp [results, Tryz.results8, go_sem, z0, z1, res]) rfl ⟨rfl, zb⟩
/-- The result's block and the node's. -/
structure E2 (w : World) (g : Nat) (a b c : Value) (W : World) : Prop where
  r : W.heap[w.heap.size]? = some (nb 0 0)
  x : W.heap[g]? = some (.cells #[a, b, c] 50)
  bl : Below w.heap.size w W
theorem E2.call {w W W' : World} {g : Nat} {a b c : Value} (hb : Below W.heap.size W W') (h : E2 w g a b c W) : E2 w g a b c W' :=
  ⟨(hb.block _ (lt_heap h.r)).trans h.r, (hb.block _ (lt_heap h.x)).trans h.x, h.bl.trans (hb.mono h.bl.size)⟩
set_option maxRecDepth 100000 in
set_option maxHeartbeats 4000000 in
theorem REval_ok (s : ByteArray) (hs : ¬ 400 < s.size) (w : World) (T : T) (hw : T.wf) (hl : T.lv ≤ 1000) (hP : ∀ W, Calls Tryz.prog 22 #[.string s] W fun e w' => ∃ x, e = .returned (.tuple #[x, .int .i64 0]) ∧ Rd (W.heap.size ≤ ·) w' T x ∧ Below W.heap.size W w') :
    Calls Tryz.prog 8 #[.string s] w fun e w' => e = .returned (res (if 20 < T.lv then ⟨0, 0, 17⟩ else val T)) ∧ Below w.heap.size w w' := by
  have hd : decide ((s.size : Int) > 400) = false := by rw [decide_eq_false_iff_not]; omega
  have HP := Lib.hid hP
  have HDp : Hid (∀ (X : Nat → Prop) (W : World) (v : Value), Rd X W T v → Calls Tryz.prog 23 #[v] W fun e w' => e = .returned (.int .i64 (T.lv : Int)) ∧ Below W.heap.size W w') := Lib.hid (Depth_any T hw hl)
  have HV : Hid (∀ (X : Nat → Prop) (W : World) (v : Value), Rd X W T v → Calls Tryz.prog 24 #[v] W fun e w' => e = .returned (res (val T)) ∧ Below W.heap.size W w') := Lib.hid (Value_any T hw)
  obtain ⟨n, d, z, hR⟩ : ∃ n d z, val T = ⟨n, d, z⟩ := ⟨_, _, _, rfl⟩
  rw [hR] at HV ⊢
  unfold res at HV
  obtain ⟨RR, hRR⟩ : ∃ RR, (if 20 < T.lv then (⟨0, 0, 17⟩ : R3) else ⟨n, d, z⟩) = RR := ⟨_, rfl⟩
  rw [hRR]
  have HRR := Lib.hid hRR
  have HL := Lib.hid hl
  clear hP hs hR hw hl hRR
  go_enter Tryz.func8, Tryz.ntmps8
  go_wp2_with fail
  (with_reducible refine (HP.out _).mono ?_)
  rintro e w1 ⟨x, rfl, hx, hb⟩
  obtain ⟨o1, t1, A1, k1, d1, rfl⟩ := hx.form
  have hr1 : w1.heap[w.heap.size]? = some (nb 0 0) := (hb.block _ (by simp)).trans (nh _ _)
  have hz1 := lt_heap hr1
  have hA : E2 w w1.heap.size (.string o1) (.string t1) (.slice A1 k1 d1) (w1.alloc (bx (.string o1) (.string t1) (.slice A1 k1 d1))) := ⟨(Below.heap_alloc _ _ _ hz1).trans hr1, heap_new _ _, (below1 hb).alloc (below1 hb).size _⟩
  have hx1 := hx.below ((Below.refl _ w1).alloc (Nat.le_refl _) (bx (.string o1) (.string t1) (.slice A1 k1 d1)))
  have HX := Lib.hid hx1
  have HA := Lib.hid hA
  have HD1 := Lib.hid (HDp.out _ _ _ hx1)
  clear hb hr1 hA hx hx1 HDp
  go_wp2_with fail
  (with_reducible refine HD1.out.mono ?_)
  rintro e w2 ⟨rfl, hb2⟩
  have h2 := HA.out.call hb2
  obtain ⟨r0, r1, f0, f1⟩ := c2 h2.r
  obtain ⟨x0, x1, x2, xl⟩ := r3 h2.x
  have hz2 := lt_heap h2.r
  have HX2 := Lib.hid (HX.out.below hb2)
  have H2 := Lib.hid h2
  clear hb2 h2
  by_cases hlv : 20 < T.lv
  · have hd2 : decide ((T.lv : Int) > 20) = true := by rw [decide_eq_true_iff]; omega
    have HE : Hid (RR = ⟨0, 0, 17⟩) := Lib.hid (HRR.out.symm.trans (if_pos hlv))
    obtain ⟨z, zb⟩ := rev_fin H2.out.bl H2.out.r 0 0
    clear hlv x0 x1 x2 xl
    go_wp2_with fail
    generalize ((w2.setCell ⟨w.heap.size, 0, none⟩ (.int .i64 0)).setCell ⟨w.heap.size, 1, none⟩ (.int .i64 0)) = W9 at z zb ⊢
    obtain ⟨z0, z1, _, _⟩ := c2 z
    exact bodyPost_ret (v := res ⟨0, 0, 17⟩) (by simp [results, Tryz.results8, go_sem, z0, z1, res]) rfl ⟨by rw [HE.out], zb⟩
  · have hd2 : decide ((T.lv : Int) > 20) = false := by rw [decide_eq_false_iff_not]; omega
    have HE : Hid (RR = ⟨n, d, z⟩) := Lib.hid (HRR.out.symm.trans (if_neg hlv))
    have HV2 := Lib.hid (HV.out _ _ _ HX2.out)
    clear hlv HV
    go_wp2_with fail
    (with_reducible refine HV2.out.mono ?_)
    rintro e w3 ⟨rfl, hb3⟩
    have h3 := H2.out.call hb3
    obtain ⟨r0, r1, rf0, rf1⟩ := c2 h3.r
    have hz3 := lt_heap h3.r
    have HF := Lib.hid (rev_fin h3.bl h3.r n d)
    clear hb3 h3 x0 x1 x2 xl
    go_wp2_with fail
    obtain ⟨hz, hbl⟩ := HF.out
    generalize ((w3.setCell ⟨w.heap.size, 0, none⟩ (.int .i64 n)).setCell ⟨w.heap.size, 1, none⟩ (.int .i64 d)) = W9 at hz hbl ⊢
    obtain ⟨z0, z1, _, _⟩ := c2 hz
    exact bodyPost_ret (v := res ⟨n, d, z⟩) (by simp [results, Tryz.results8, go_sem, z0, z1, res]) rfl ⟨by rw [HE.out], hbl⟩
set_option maxRecDepth 100000 in
set_option maxHeartbeats 4000000 in
theorem REval_long (s : ByteArray) (hs : 400 < s.size) (w : World) : Calls Tryz.prog 8 #[.string s] w fun e w' => e = .returned (res ⟨0, 0, 3⟩) ∧ Below w.heap.size w w' := by
  have hd : decide ((s.size : Int) > 400) = true := by rw [decide_eq_true_iff]; omega
  clear hs
  go_enter Tryz.func8, Tryz.ntmps8
  go_wp2
  exact bodyPost_ret (v := res ⟨0, 0, 3⟩) (by simp [results, Tryz.results8, go_sem, res]) rfl ⟨rfl, (Below.refl _ w).alloc (Nat.le_refl _) _⟩
/-- Eval of the reference gives what the program's gives. -/
theorem REval_any (s : ByteArray) (w : World) : Calls Tryz.prog 8 #[.string s] w fun e w' => e = .returned (res (ev s.data.toList)) ∧ Below w.heap.size w w' := by
  have hsz : s.data.toList.length = s.size := rfl
  by_cases h4 : 400 < s.size
  · rw [show ev s.data.toList = ⟨0, 0, 3⟩ by unfold ev; rw [if_pos (by omega)]]
    exact REval_long s h4 w
  · cases hq : splitL s.data.toList with
    | none =>
      rw [show ev s.data.toList = ⟨0, 0, 1⟩ by unfold ev; rw [if_neg (by omega), hq]]
      exact REval_fail s h4 w fun W => Parse_none s (by omega) W hq
    | some l =>
      obtain ⟨hl1, hl2⟩ := split_all hq
      rw [show ev s.data.toList = evT l by unfold ev; rw [if_neg (by omega), hq]]
      cases hB : topB l with
      | false =>
        rw [show evT l = ⟨0, 0, 1⟩ by unfold evT; rw [topB_iff] at hB; rw [if_neg (by simpa using hB)]]
        exact REval_fail s h4 w fun W => Parse_bad s (by omega) W l hq hB
      | true =>
        have hB2 : (top l).b = false ∧ (top l).r = [] := by rw [topB_iff] at hB; simpa using hB
        rw [show evT l = (if 20 < (top l).t.lv then ⟨0, 0, 17⟩ else val (top l).t) by unfold evT; rw [if_pos hB2]]
        exact REval_ok s h4 w (top l).t (top_wf hl2 hB2.1) (by have := top_lv l; omega) fun W => Parse_ok s (by omega) W l hq hB
end Go.Proofs.YtfocokjihbenmaaGreatDoor.Fo
