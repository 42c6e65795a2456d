/-
  The rules of the grammar that are chains.
-/
import Derived.Test.YtfocokjihbenmaaDoorFoChain
namespace Go.Proofs.YtfocokjihbenmaaDoor.Fo
open Go.RowKit Go.Proofs.YtfocokjihbenmaaDoor.Nu
set_option linter.unusedVariables false
set_option linter.unusedSimpArgs false

abbrev zn : Obj := .cells #[.string ⟨#[]⟩, .slice none 0 0, .int .i64 0] 45
theorem row_at' (W : World) (n : Nat) (hn : n = W.heap.size) (S : List Tok) (t : TypeId) : ∀ j x, S[j]? = some x → (W.alloc (row S t)).cell? ⟨n, j, none⟩ = some (sv x) := by
  subst hn; exact row_at W S t
section
variable {gp bt : Nat} {w w1 : World} {u : Value} {r : List Tok} {b : Bool} {x : T} {o : ByteArray} {A : Option Addr} {k c : Nat}
def set9 (w1 : World) (g : Nat) (o : ByteArray) (A : Option Addr) (k c : Nat) (n : Int) : World := ((w1.setCell ⟨g, 0, none⟩ (.string o)).setCell ⟨g, 1, none⟩ (.slice A k c)).setCell ⟨g, 2, none⟩ (.int .i64 n)
/-- The node is written into the result. -/
theorem fin (hs : St gp bt w1 u r b) (hgp : gp < w.heap.size) (hbt : bt < w.heap.size) (hf : Fr gp (w.heap.size + 1) (w.alloc zn) w1) (hx : Nd (w.heap.size + 1 ≤ ·) w1 x (.agg #[.string o, .slice A k c, .int .i64 (x.lv : Int)])) :
    (set9 w1 w.heap.size o A k c x.lv).heap[w.heap.size]? = some (.cells #[.string o, .slice A k c, .int .i64 (x.lv : Int)] 45) ∧
    Nd (w.heap.size ≤ ·) (set9 w1 w.heap.size o A k c x.lv) x (.agg #[.string o, .slice A k c, .int .i64 (x.lv : Int)]) ∧ St gp bt (set9 w1 w.heap.size o A k c x.lv) u r b ∧ Fr gp w.heap.size w (set9 w1 w.heap.size o A k c x.lv) := by
  have h0 : w1.heap[w.heap.size]? = some zn := (hf.block _ (Nat.lt_succ_self _) (by omega)).trans (heap_new _ _)
  refine ⟨set3 h0 _ _ _, Nd.keep (X := fun i => w.heap.size + 1 ≤ i) (fun i hi hl => set3_ne (by omega) _ _ _) (fun i hi _ => by omega) _ _ hx, hs.keep (set3_ne (by omega) _ _ _) (set3_ne (by omega) _ _ _) (by simp [set9, World.setCell]), ?_⟩
  exact (((Fr.of ((Below.refl _ w).alloc (Nat.le_refl _) _)).trans hf (by omega)).trans (Fr.of ((((Below.refl w.heap.size w1).setCell (Nat.le_refl _) _).setCell (Nat.le_refl _) _).setCell (Nat.le_refl _) _)) (Nat.le_refl _))
theorem fin0 (hf : Fr gp (w.heap.size + 1) (w.alloc zn) w1) (hgp : gp < w.heap.size) : w1.heap[w.heap.size]? = some zn := (hf.block _ (Nat.lt_succ_self _) (by omega)).trans (heap_new _ _)
end
-- LEVELS
set_option maxRecDepth 100000 in
set_option maxHeartbeats 2000000 in
theorem lv_0 (n : Nat) (ih : ∀ m, m < n → Lv 47 m 1) : Lv 28 n 0 := by
  intro gp bt w v l b h hn hl
  obtain ⟨n, rfl⟩ : ∃ j, n = j + 1 := ⟨n - 1, by omega⟩
  rw [G_lv n 0 .bad l b (by decide) (by decide) (by decide) (by decide) (by decide)]
  have hmf := run_mkf
  have h2 : St gp bt ((w.alloc zn).alloc (row (ops 0) 9)) v l b := (h.alloc _).alloc _
  have HQ := Lib.hid (chain_any 47 (fun _ _ => rfl) n 0 (fun m hm => ih m (by omega)) (by decide) gp bt _ v l b h2 (by omega) hl (w.heap.size + 1) (row_at' (w.alloc zn) _ (by simp) _ _) (by have := h.lt; omega) (by simp))
  have hgp := h.lt
  have hbt := h.lb
  clear h h2 ih
  obtain ⟨R, hR⟩ : ∃ R, (G n (10 + 0) (G n (0 + 1) .bad l b).t (G n (0 + 1) .bad l b).r (G n (0 + 1) .bad l b).b) = R := ⟨_, rfl⟩
  rw [hR] at HQ ⊢
  clear hR
  go_enter Tryd.func28, Tryd.ntmps28
  go_wp2_with fail
  refine HQ.out.mono ?_
  rintro e w1 ⟨x, u, rfl, hx, hs, hf⟩
  obtain ⟨o1, A1, k1, c1, rfl⟩ := hx.form
  have hf1 : Fr gp (w.heap.size + 1) (w.alloc zn) w1 := (Fr.of ((Below.refl _ (w.alloc zn)).alloc (by simp) _)).trans hf (by simp)
  obtain ⟨z0, z1, z2, zf⟩ := c3 (fin0 hf1 hgp)
  have zf0 := zf 0; have zf1 := zf 1; have zf2 := zf 2
  obtain ⟨y1, y2, y3, y4⟩ := fin hs hgp hbt hf1 (hx.imp fun i hi => by simp at hi; omega)
  have Y1 := Lib.hid y1; have Y := Lib.hid (And.intro y2 (And.intro y3 y4))
  clear hs hf hx hf1 y1 y2 y3 y4
  unfold set9 at Y1 Y
  go_wp2_with fail
  generalize (((w1.setCell ⟨w.heap.size, 0, none⟩ (.string o1)).setCell ⟨w.heap.size, 1, none⟩ (.slice A1 k1 c1)).setCell ⟨w.heap.size, 2, none⟩ (.int .i64 (R.t.lv : Int))) = W9 at Y1 Y ⊢
  obtain ⟨q0, q1, q2, _⟩ := c3 Y1.out
  refine bodyPost_ret (v := .agg #[.string o1, .slice A1 k1 c1, .int .i64 (R.t.lv : Int)]) (by simp [results, Tryd.results28, go_sem, q0, q1, q2]) rfl ?_
  exact ⟨_, _, rfl, Y.out.1, Y.out.2.1, Y.out.2.2⟩
set_option maxRecDepth 100000 in
set_option maxHeartbeats 2000000 in
theorem lv_1 (n : Nat) (ih : ∀ m, m < n → Lv 76 m 2) : Lv 47 n 1 := by
  intro gp bt w v l b h hn hl
  obtain ⟨n, rfl⟩ : ∃ j, n = j + 1 := ⟨n - 1, by omega⟩
  rw [G_lv n 1 .bad l b (by decide) (by decide) (by decide) (by decide) (by decide)]
  have hmf := run_mkf
  have h2 : St gp bt ((w.alloc zn).alloc (row (ops 1) 9)) v l b := (h.alloc _).alloc _
  have HQ := Lib.hid (chain_any 76 (fun _ _ => rfl) n 1 (fun m hm => ih m (by omega)) (by decide) gp bt _ v l b h2 (by omega) hl (w.heap.size + 1) (row_at' (w.alloc zn) _ (by simp) _ _) (by have := h.lt; omega) (by simp))
  have hgp := h.lt
  have hbt := h.lb
  clear h h2 ih
  obtain ⟨R, hR⟩ : ∃ R, (G n (10 + 1) (G n (1 + 1) .bad l b).t (G n (1 + 1) .bad l b).r (G n (1 + 1) .bad l b).b) = R := ⟨_, rfl⟩
  rw [hR] at HQ ⊢
  clear hR
  go_enter Tryd.func47, Tryd.ntmps47
  go_wp2_with fail
  refine HQ.out.mono ?_
  rintro e w1 ⟨x, u, rfl, hx, hs, hf⟩
  obtain ⟨o1, A1, k1, c1, rfl⟩ := hx.form
  have hf1 : Fr gp (w.heap.size + 1) (w.alloc zn) w1 := (Fr.of ((Below.refl _ (w.alloc zn)).alloc (by simp) _)).trans hf (by simp)
  obtain ⟨z0, z1, z2, zf⟩ := c3 (fin0 hf1 hgp)
  have zf0 := zf 0; have zf1 := zf 1; have zf2 := zf 2
  obtain ⟨y1, y2, y3, y4⟩ := fin hs hgp hbt hf1 (hx.imp fun i hi => by simp at hi; omega)
  have Y1 := Lib.hid y1; have Y := Lib.hid (And.intro y2 (And.intro y3 y4))
  clear hs hf hx hf1 y1 y2 y3 y4
  unfold set9 at Y1 Y
  go_wp2_with fail
  generalize (((w1.setCell ⟨w.heap.size, 0, none⟩ (.string o1)).setCell ⟨w.heap.size, 1, none⟩ (.slice A1 k1 c1)).setCell ⟨w.heap.size, 2, none⟩ (.int .i64 (R.t.lv : Int))) = W9 at Y1 Y ⊢
  obtain ⟨q0, q1, q2, _⟩ := c3 Y1.out
  refine bodyPost_ret (v := .agg #[.string o1, .slice A1 k1 c1, .int .i64 (R.t.lv : Int)]) (by simp [results, Tryd.results47, go_sem, q0, q1, q2]) rfl ?_
  exact ⟨_, _, rfl, Y.out.1, Y.out.2.1, Y.out.2.2⟩
set_option maxRecDepth 100000 in
set_option maxHeartbeats 2000000 in
theorem lv_3 (n : Nat) (ih : ∀ m, m < n → Lv 101 m 4) : Lv 92 n 3 := by
  intro gp bt w v l b h hn hl
  obtain ⟨n, rfl⟩ : ∃ j, n = j + 1 := ⟨n - 1, by omega⟩
  rw [G_lv n 3 .bad l b (by decide) (by decide) (by decide) (by decide) (by decide)]
  have hmf := run_mkf
  have h2 : St gp bt ((w.alloc zn).alloc (row (ops 3) 9)) v l b := (h.alloc _).alloc _
  have HQ := Lib.hid (chain_any 101 (fun _ _ => rfl) n 3 (fun m hm => ih m (by omega)) (by decide) gp bt _ v l b h2 (by omega) hl (w.heap.size + 1) (row_at' (w.alloc zn) _ (by simp) _ _) (by have := h.lt; omega) (by simp))
  have hgp := h.lt
  have hbt := h.lb
  clear h h2 ih
  obtain ⟨R, hR⟩ : ∃ R, (G n (10 + 3) (G n (3 + 1) .bad l b).t (G n (3 + 1) .bad l b).r (G n (3 + 1) .bad l b).b) = R := ⟨_, rfl⟩
  rw [hR] at HQ ⊢
  clear hR
  go_enter Tryd.func92, Tryd.ntmps92
  go_wp2_with fail
  refine HQ.out.mono ?_
  rintro e w1 ⟨x, u, rfl, hx, hs, hf⟩
  obtain ⟨o1, A1, k1, c1, rfl⟩ := hx.form
  have hf1 : Fr gp (w.heap.size + 1) (w.alloc zn) w1 := (Fr.of ((Below.refl _ (w.alloc zn)).alloc (by simp) _)).trans hf (by simp)
  obtain ⟨z0, z1, z2, zf⟩ := c3 (fin0 hf1 hgp)
  have zf0 := zf 0; have zf1 := zf 1; have zf2 := zf 2
  obtain ⟨y1, y2, y3, y4⟩ := fin hs hgp hbt hf1 (hx.imp fun i hi => by simp at hi; omega)
  have Y1 := Lib.hid y1; have Y := Lib.hid (And.intro y2 (And.intro y3 y4))
  clear hs hf hx hf1 y1 y2 y3 y4
  unfold set9 at Y1 Y
  go_wp2_with fail
  generalize (((w1.setCell ⟨w.heap.size, 0, none⟩ (.string o1)).setCell ⟨w.heap.size, 1, none⟩ (.slice A1 k1 c1)).setCell ⟨w.heap.size, 2, none⟩ (.int .i64 (R.t.lv : Int))) = W9 at Y1 Y ⊢
  obtain ⟨q0, q1, q2, _⟩ := c3 Y1.out
  refine bodyPost_ret (v := .agg #[.string o1, .slice A1 k1 c1, .int .i64 (R.t.lv : Int)]) (by simp [results, Tryd.results92, go_sem, q0, q1, q2]) rfl ?_
  exact ⟨_, _, rfl, Y.out.1, Y.out.2.1, Y.out.2.2⟩
set_option maxRecDepth 100000 in
set_option maxHeartbeats 2000000 in
theorem lv_4 (n : Nat) (ih : ∀ m, m < n → Lv 104 m 5) : Lv 101 n 4 := by
  intro gp bt w v l b h hn hl
  obtain ⟨n, rfl⟩ : ∃ j, n = j + 1 := ⟨n - 1, by omega⟩
  rw [G_lv n 4 .bad l b (by decide) (by decide) (by decide) (by decide) (by decide)]
  have hmf := run_mkf
  have h2 : St gp bt ((w.alloc zn).alloc (row (ops 4) 9)) v l b := (h.alloc _).alloc _
  have HQ := Lib.hid (chain_any 104 (fun _ _ => rfl) n 4 (fun m hm => ih m (by omega)) (by decide) gp bt _ v l b h2 (by omega) hl (w.heap.size + 1) (row_at' (w.alloc zn) _ (by simp) _ _) (by have := h.lt; omega) (by simp))
  have hgp := h.lt
  have hbt := h.lb
  clear h h2 ih
  obtain ⟨R, hR⟩ : ∃ R, (G n (10 + 4) (G n (4 + 1) .bad l b).t (G n (4 + 1) .bad l b).r (G n (4 + 1) .bad l b).b) = R := ⟨_, rfl⟩
  rw [hR] at HQ ⊢
  clear hR
  go_enter Tryd.func101, Tryd.ntmps101
  go_wp2_with fail
  refine HQ.out.mono ?_
  rintro e w1 ⟨x, u, rfl, hx, hs, hf⟩
  obtain ⟨o1, A1, k1, c1, rfl⟩ := hx.form
  have hf1 : Fr gp (w.heap.size + 1) (w.alloc zn) w1 := (Fr.of ((Below.refl _ (w.alloc zn)).alloc (by simp) _)).trans hf (by simp)
  obtain ⟨z0, z1, z2, zf⟩ := c3 (fin0 hf1 hgp)
  have zf0 := zf 0; have zf1 := zf 1; have zf2 := zf 2
  obtain ⟨y1, y2, y3, y4⟩ := fin hs hgp hbt hf1 (hx.imp fun i hi => by simp at hi; omega)
  have Y1 := Lib.hid y1; have Y := Lib.hid (And.intro y2 (And.intro y3 y4))
  clear hs hf hx hf1 y1 y2 y3 y4
  unfold set9 at Y1 Y
  go_wp2_with fail
  generalize (((w1.setCell ⟨w.heap.size, 0, none⟩ (.string o1)).setCell ⟨w.heap.size, 1, none⟩ (.slice A1 k1 c1)).setCell ⟨w.heap.size, 2, none⟩ (.int .i64 (R.t.lv : Int))) = W9 at Y1 Y ⊢
  obtain ⟨q0, q1, q2, _⟩ := c3 Y1.out
  refine bodyPost_ret (v := .agg #[.string o1, .slice A1 k1 c1, .int .i64 (R.t.lv : Int)]) (by simp [results, Tryd.results101, go_sem, q0, q1, q2]) rfl ?_
  exact ⟨_, _, rfl, Y.out.1, Y.out.2.1, Y.out.2.2⟩
set_option maxRecDepth 100000 in
set_option maxHeartbeats 2000000 in
theorem lv_5 (n : Nat) (ih : ∀ m, m < n → Lv 107 m 6) : Lv 104 n 5 := by
  intro gp bt w v l b h hn hl
  obtain ⟨n, rfl⟩ : ∃ j, n = j + 1 := ⟨n - 1, by omega⟩
  rw [G_lv n 5 .bad l b (by decide) (by decide) (by decide) (by decide) (by decide)]
  have hmf := run_mkf
  have h2 : St gp bt ((w.alloc zn).alloc (row (ops 5) 9)) v l b := (h.alloc _).alloc _
  have HQ := Lib.hid (chain_any 107 (fun _ _ => rfl) n 5 (fun m hm => ih m (by omega)) (by decide) gp bt _ v l b h2 (by omega) hl (w.heap.size + 1) (row_at' (w.alloc zn) _ (by simp) _ _) (by have := h.lt; omega) (by simp))
  have hgp := h.lt
  have hbt := h.lb
  clear h h2 ih
  obtain ⟨R, hR⟩ : ∃ R, (G n (10 + 5) (G n (5 + 1) .bad l b).t (G n (5 + 1) .bad l b).r (G n (5 + 1) .bad l b).b) = R := ⟨_, rfl⟩
  rw [hR] at HQ ⊢
  clear hR
  go_enter Tryd.func104, Tryd.ntmps104
  go_wp2_with fail
  refine HQ.out.mono ?_
  rintro e w1 ⟨x, u, rfl, hx, hs, hf⟩
  obtain ⟨o1, A1, k1, c1, rfl⟩ := hx.form
  have hf1 : Fr gp (w.heap.size + 1) (w.alloc zn) w1 := (Fr.of ((Below.refl _ (w.alloc zn)).alloc (by simp) _)).trans hf (by simp)
  obtain ⟨z0, z1, z2, zf⟩ := c3 (fin0 hf1 hgp)
  have zf0 := zf 0; have zf1 := zf 1; have zf2 := zf 2
  obtain ⟨y1, y2, y3, y4⟩ := fin hs hgp hbt hf1 (hx.imp fun i hi => by simp at hi; omega)
  have Y1 := Lib.hid y1; have Y := Lib.hid (And.intro y2 (And.intro y3 y4))
  clear hs hf hx hf1 y1 y2 y3 y4
  unfold set9 at Y1 Y
  go_wp2_with fail
  generalize (((w1.setCell ⟨w.heap.size, 0, none⟩ (.string o1)).setCell ⟨w.heap.size, 1, none⟩ (.slice A1 k1 c1)).setCell ⟨w.heap.size, 2, none⟩ (.int .i64 (R.t.lv : Int))) = W9 at Y1 Y ⊢
  obtain ⟨q0, q1, q2, _⟩ := c3 Y1.out
  refine bodyPost_ret (v := .agg #[.string o1, .slice A1 k1 c1, .int .i64 (R.t.lv : Int)]) (by simp [results, Tryd.results104, go_sem, q0, q1, q2]) rfl ?_
  exact ⟨_, _, rfl, Y.out.1, Y.out.2.1, Y.out.2.2⟩
end Go.Proofs.YtfocokjihbenmaaDoor.Fo
