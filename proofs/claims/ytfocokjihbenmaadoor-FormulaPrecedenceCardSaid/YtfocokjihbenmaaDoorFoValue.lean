/-
  The contract of value.
-/
import Derived.Test.YtfocokjihbenmaaDoorFoPre
import Derived.Test.YtfocokjihbenmaaDoorFoNode
import Derived.Test.YtfocokjihbenmaaDoorNuParse
namespace Go.Proofs.YtfocokjihbenmaaDoor.Fo
open Go.RowKit Go.Proofs.YtfocokjihbenmaaDoor.Nu
set_option linter.unusedVariables false
set_option linter.unusedSimpArgs false

/-- What value leaves. -/
def Vp (w : World) (x : T) (e : Ending) (w' : World) : Prop := e = .returned (res (val x)) ∧ Below w.heap.size w w'
theorem lt9 {W : World} {g : Nat} {o : Obj} (h : W.heap[g]? = some o) : g < W.heap.size := (Array.getElem?_eq_some_iff.1 h).1
theorem res3 {w W : World} (h : Below w.heap.size w W) (u v : Value) : Below w.heap.size w ((W.setCell ⟨w.heap.size + 1, 0, none⟩ u).setCell ⟨w.heap.size + 1, 1, none⟩ v) := two2 h u v
theorem below33 {w w1 : World} {A B R : Obj} (hb : Below (((w.alloc A).alloc B).alloc R).heap.size (((w.alloc A).alloc B).alloc R) w1) : Below w.heap.size w w1 := below3 hb
theorem hp4 (w : World) (A B C D : Obj) : ((((w.alloc A).alloc B).alloc C).alloc D).heap[w.heap.size]? = some A ∧ ((((w.alloc A).alloc B).alloc C).alloc D).heap[w.heap.size + 1]? = some B ∧ ((((w.alloc A).alloc B).alloc C).alloc D).heap[w.heap.size + 1 + 1]? = some C := by
  refine ⟨?_, ?_, ?_⟩
  · rw [Below.heap_alloc _ _ _ (by simp only [World.size_alloc]; omega), Below.heap_alloc _ _ _ (by simp only [World.size_alloc]; omega), Below.heap_alloc _ _ _ (by simp only [World.size_alloc]; omega)]; exact nh _ _
  · rw [Below.heap_alloc _ _ _ (by simp only [World.size_alloc]; omega), Below.heap_alloc _ _ _ (by simp only [World.size_alloc]; omega)]
    have := nh (w.alloc A) B
    simp only [World.size_alloc] at this
    exact this
  · rw [Below.heap_alloc _ _ _ (by simp only [World.size_alloc]; omega)]
    have := nh ((w.alloc A).alloc B) C
    simp only [World.size_alloc] at this
    exact this
theorem s4 {W : World} {c : Nat} {a b x y : Value} {t : TypeId} (h : W.heap[c]? = some (.cells #[a, b, x, y] t)) (u v : Value) : ((W.setCell ⟨c, 0, none⟩ u).setCell ⟨c, 1, none⟩ v).heap[c]? = some (.cells #[u, v, x, y] t) := by
  simp only [World.setCell, Array.getElem?_modify, if_pos, h]
  rfl
/-- The three blocks of a call of value: the node, the result, the values. -/
structure Bk (w W : World) (o : Tok) (g k : Nat) (lv : Int) (a b c d : Int) : Prop where
  n : W.heap[w.heap.size]? = some (.cells #[.string ⟨o.toArray⟩, .slice (some ⟨g, 0, none⟩) k k, .int .i64 lv] 45)
  r : W.heap[w.heap.size + 1]? = some (nb 0 0)
  v : ∃ t, W.heap[w.heap.size + 1 + 1]? = some (.cells #[.int .i64 a, .int .i64 b, .int .i64 c, .int .i64 d] t)
theorem Bk.below {w W W' : World} {o : Tok} {g k : Nat} {lv a b c d : Int} (h : Bk w W o g k lv a b c d) (hb : Below W.heap.size W W') : Bk w W' o g k lv a b c d :=
  ⟨(hb.block _ (lt9 h.n)).trans h.n, (hb.block _ (lt9 h.r)).trans h.r, h.v.elim fun t ht => ⟨t, (hb.block _ (lt9 ht)).trans ht⟩⟩
theorem Bk.set {w W : World} {o : Tok} {g k : Nat} {lv a b c d : Int} (h : Bk w W o g k lv a b c d) (u v : Int) : Bk w ((W.setCell ⟨w.heap.size + 1 + 1, 0, none⟩ (.int .i64 u)).setCell ⟨w.heap.size + 1 + 1, 1, none⟩ (.int .i64 v)) o g k lv u v c d :=
  ⟨(s2_ne (by omega) _ _).trans h.n, (s2_ne (by omega) _ _).trans h.r, h.v.elim fun t ht => ⟨t, s4 ht _ _⟩⟩
theorem Bk.alloc {w W : World} {o : Tok} {g k : Nat} {lv a b c d : Int} (h : Bk w W o g k lv a b c d) (X : Obj) : Bk w (W.alloc X) o g k lv a b c d := h.below ((Below.refl _ W).alloc (Nat.le_refl _) X)
theorem Bk.facts {w W : World} {o : Tok} {g k : Nat} {lv a b c d : Int} (h : Bk w W o g k lv a b c d) :
    (W.cell? ⟨w.heap.size, 0, none⟩ = some (.string ⟨o.toArray⟩) ∧ W.cell? ⟨w.heap.size, 1, none⟩ = some (.slice (some ⟨g, 0, none⟩) k k) ∧ W.cell? ⟨w.heap.size, 2, none⟩ = some (.int .i64 lv)) ∧
    (W.cell? ⟨w.heap.size + 1, 0, none⟩ = some (.int .i64 0) ∧ W.cell? ⟨w.heap.size + 1, 1, none⟩ = some (.int .i64 0) ∧ W.frozen? ⟨w.heap.size + 1, 0, none⟩ = false ∧ W.frozen? ⟨w.heap.size + 1, 1, none⟩ = false) ∧
    (W.cell? ⟨w.heap.size + 1 + 1, 0, none⟩ = some (.int .i64 a) ∧ W.cell? ⟨w.heap.size + 1 + 1, 1, none⟩ = some (.int .i64 b) ∧ W.cell? ⟨w.heap.size + 1 + 1, 2, none⟩ = some (.int .i64 c) ∧ W.cell? ⟨w.heap.size + 1 + 1, 3, none⟩ = some (.int .i64 d)) ∧
    (W.frozen? ⟨w.heap.size + 1 + 1, 0, none⟩ = false ∧ W.frozen? ⟨w.heap.size + 1 + 1, 1, none⟩ = false ∧ W.frozen? ⟨w.heap.size + 1 + 1, 2, none⟩ = false ∧ W.frozen? ⟨w.heap.size + 1 + 1, 3, none⟩ = false) := by
  obtain ⟨t, hv⟩ := h.v
  have h1 := h.n
  have h2 := h.r
  unfold nb at h2
  refine ⟨⟨?_, ?_, ?_⟩, ⟨?_, ?_, ?_, ?_⟩, ⟨?_, ?_, ?_, ?_⟩, ?_, ?_, ?_, ?_⟩
  all_goals
    first
      | (unfold World.cell?; first | (rw [h1]; rfl) | (rw [h2]; rfl) | (rw [hv]; rfl))
      | (unfold World.frozen?; first | (rw [h1]; rfl) | (rw [h2]; rfl) | (rw [hv]; rfl))
set_option maxRecDepth 100000 in
set_option maxHeartbeats 2000000 in
theorem value_num (s : Tok) (hs : s.length ≤ 19) (w : World) (ht : Tb w) : Calls Tryd.prog 16 #[.agg #[sv s, .slice none 0 0, .int .i64 1]] w (Vp w (.num s)) := by
  have HP : Hid (∀ W, Below w.heap.size w W → Calls Tryd.prog 29 #[.string ⟨s.toArray⟩] W fun e w' => e = .returned (res (val (.num s))) ∧ Below W.heap.size W w') := Lib.hid fun W hW => by
    have := Parse_any ⟨s.toArray⟩ W (ht.below hW) (by simp [ByteArray.size]; omega)
    exact this
  unfold Vp
  generalize val (.num s) = r at HP ⊢
  unfold res at HP
  unfold sv
  clear ht
  go_enter Tryd.func16, Tryd.ntmps16
  go_wp2_with fail
  refine wp_loop_rounds 1 ?_
  rw [rounds_succ]
  go_wp2_with fail
  refine (HP.out _ ?_).mono ?_
  · exact (((Below.refl _ w).alloc (Nat.le_refl _) _).alloc (by simp) _).alloc (by simp; omega) _
  rintro e w1 ⟨rfl, hb⟩
  obtain ⟨hc, hf⟩ := bcell hb
  obtain ⟨z0, z1, z2⟩ := size3 hb
  have HB := Lib.hid (below3 hb)
  go_wp2
  exact bodyPost_ret (v := res r) (by simp [results, Tryd.results16, go_sem, hc, z1, res]) rfl ⟨rfl, res3 HB.out _ _⟩
set_option maxRecDepth 100000 in
set_option maxHeartbeats 2000000 in
theorem value_un (o : Tok) (ho : o ∈ uns ∨ o = [40]) (x : T) (w : World) (ht : Tb w) (g : Nat) (t : TypeId) (oo : ByteArray) (A : Option Addr) (k c n : Nat) (lv : Int) (hg : w.heap[g]? = some (.cells #[.string oo, .slice A k c, .int .i64 (n : Int)] t))
    (ih : ∀ W, Below w.heap.size w W → Calls Tryd.prog 16 #[.agg #[.string oo, .slice A k c, .int .i64 (n : Int)]] W (Vp W x)) :
    Calls Tryd.prog 16 #[.agg #[sv o, .slice (some ⟨g, 0, none⟩) 1 1, .int .i64 lv]] w (Vp w (.un o x)) := by
  have hgl := lt9 hg
  have h0 : w.cell? ⟨g, 0, none⟩ = some (.string oo) := by unfold World.cell?; rw [hg]; rfl
  have h1 : w.cell? ⟨g, 1, none⟩ = some (.slice A k c) := by unfold World.cell?; rw [hg]; rfl
  have h2 : w.cell? ⟨g, 2, none⟩ = some (.int .i64 (n : Int)) := by unfold World.cell?; rw [hg]; rfl
  have hg1 : g < w.heap.size + 1 := by omega
  have hg2 : g < w.heap.size + 1 + 1 := by omega
  have hg3 : g < w.heap.size + 1 + 1 + 1 := by omega
  have hok := val_ok x
  have HI := Lib.hid ih
  have hv : val (.un o x) = if (val x).e = 0 then ap1 o (val x) else ⟨0, 0, (val x).e⟩ := rfl
  unfold Vp at HI ⊢
  rw [hv]
  clear hv ih hg ht
  generalize val x = r at hok HI ⊢
  unfold res at HI
  unfold sv
  by_cases he : r.e = 0
  · have HA : Hid (∀ W, Calls Tryd.prog 30 #[.string ⟨o.toArray⟩, .agg #[.int .i64 r.n, .int .i64 r.d]] W fun e w' => e = .returned (res (ap1 o r)) ∧ Below W.heap.size W w') := Lib.hid fun W => prefix_any o ho r (hok he) he W
    rw [if_pos he]
    generalize ap1 o r = s at HA ⊢
    unfold res at HA
    clear hok ho
    go_enter Tryd.func16, Tryd.ntmps16
    go_wp2_with fail
    refine wp_loop_rounds 2 ?_
    rw [rounds_succ]
    go_wp2_with fail
    refine (HI.out _ ?_).mono ?_
    · exact ((((Below.refl _ w).alloc (Nat.le_refl _) _).alloc (by simp) _).alloc (by simp; omega) _).alloc (by simp; omega) _
    rintro e w1 ⟨rfl, hb⟩
    obtain ⟨hc, hf⟩ := bcell hb
    have HK : Hid (Bk w w1 o g 1 lv 0 0 0 0) := Lib.hid (Bk.below ⟨(hp4 w _ _ _ _).1, (hp4 w _ _ _ _).2.1, _, (hp4 w _ _ _ _).2.2⟩ hb)
    have hz1 := hb.size
    simp only [World.size_alloc] at hz1
    have z0 : w.heap.size < w1.heap.size := by omega
    have z1 : w.heap.size + 1 < w1.heap.size := by omega
    have z2 : w.heap.size + 1 + 1 < w1.heap.size := by omega
    have HB : Hid (Below w.heap.size w w1) := Lib.hid (((((Below.refl _ w).alloc (Nat.le_refl _) _).alloc (by simp) _).alloc (by simp; omega) _).alloc (by simp; omega) _ |>.trans (hb.mono (by simp; omega)))
    go_wp2_with fail
    rw [rounds_succ]
    go_wp2_with fail
    refine (HA.out _).mono ?_
    rintro e w2 ⟨rfl, hb2⟩
    obtain ⟨hc2, hf2⟩ := bcell hb2
    have HB2 := Lib.hid hb2
    have hz2 := hb2.size
    simp only [World.size_alloc, World.size_setCell] at hz2
    have y1 : w.heap.size + 1 < w2.heap.size := by omega
    have HK2 := Lib.hid (((HK.out.set _ _).alloc _).below hb2)
    obtain ⟨⟨a0, a1, a2⟩, ⟨r0, r1, rf0, rf1⟩, _⟩ := HK2.out.facts
    clear hb2
    go_wp2_with fail
    have b2 : Below w.heap.size w w2 := (((HB.out.setCell (p := ⟨w.heap.size + 1 + 1, 0, none⟩) (by show _ ≤ w.heap.size + 1 + 1; omega) _).setCell (p := ⟨w.heap.size + 1 + 1, 1, none⟩) (by show _ ≤ w.heap.size + 1 + 1; omega) _).alloc (by simp [World.setCell]; omega) _).trans (HB2.out.mono (by simp [World.setCell]; omega))
    exact bodyPost_ret (v := res s) (by simp [results, Tryd.results16, go_sem, r0, r1, y1, res]) rfl ⟨rfl, res3 b2 _ _⟩
  · have hd : (r.e == 0) = false := by simpa using he
    rw [if_neg he]
    clear hok ho he
    go_enter Tryd.func16, Tryd.ntmps16
    go_wp2_with fail
    refine wp_loop_rounds 2 ?_
    rw [rounds_succ]
    go_wp2_with fail
    refine (HI.out _ ?_).mono ?_
    · exact ((((Below.refl _ w).alloc (Nat.le_refl _) _).alloc (by simp) _).alloc (by simp; omega) _).alloc (by simp; omega) _
    rintro e w1 ⟨rfl, hb⟩
    obtain ⟨hc, hf⟩ := bcell hb
    have HK : Hid (Bk w w1 o g 1 lv 0 0 0 0) := Lib.hid (Bk.below ⟨(hp4 w _ _ _ _).1, (hp4 w _ _ _ _).2.1, _, (hp4 w _ _ _ _).2.2⟩ hb)
    have hz1 := hb.size
    simp only [World.size_alloc] at hz1
    have z0 : w.heap.size < w1.heap.size := by omega
    have z1 : w.heap.size + 1 < w1.heap.size := by omega
    have z2 : w.heap.size + 1 + 1 < w1.heap.size := by omega
    have HB : Hid (Below w.heap.size w w1) := Lib.hid (((((Below.refl _ w).alloc (Nat.le_refl _) _).alloc (by simp) _).alloc (by simp; omega) _).alloc (by simp; omega) _ |>.trans (hb.mono (by simp; omega)))
    go_wp2_with fail
    exact bodyPost_ret (v := res ⟨0, 0, r.e⟩) (by simp [results, Tryd.results16, go_sem, hc, z1, res]) rfl ⟨rfl, (res3 HB.out _ _).alloc (by simp [World.setCell]; omega) _⟩
set_option maxRecDepth 100000 in
set_option maxHeartbeats 4000000 in
theorem value_bin (o : Tok) (ho : o ∈ allB) (x y : T) (w : World) (g : Nat) (t : TypeId) (oo : ByteArray) (A : Option Addr) (k c n : Nat) (o2 : ByteArray) (A2 : Option Addr) (k2 c2 n2 : Nat) (lv : Int) (hg : w.heap[g]? = some (.cells #[.string oo, .slice A k c, .int .i64 (n : Int), .string o2, .slice A2 k2 c2, .int .i64 (n2 : Int)] t))
    (ih : ∀ W, Below w.heap.size w W → Calls Tryd.prog 16 #[.agg #[.string oo, .slice A k c, .int .i64 (n : Int)]] W (Vp W x))
    (ih2 : ∀ W, Below w.heap.size w W → Calls Tryd.prog 16 #[.agg #[.string o2, .slice A2 k2 c2, .int .i64 (n2 : Int)]] W (Vp W y)) :
    Calls Tryd.prog 16 #[.agg #[sv o, .slice (some ⟨g, 0, none⟩) 2 2, .int .i64 lv]] w (Vp w (.bin o x y)) := by
  have hgl := lt9 hg
  have h0 : w.cell? ⟨g, 0, none⟩ = some (.string oo) := by unfold World.cell?; rw [hg]; rfl
  have h1 : w.cell? ⟨g, 1, none⟩ = some (.slice A k c) := by unfold World.cell?; rw [hg]; rfl
  have h2 : w.cell? ⟨g, 2, none⟩ = some (.int .i64 (n : Int)) := by unfold World.cell?; rw [hg]; rfl
  have h3 : w.cell? ⟨g, 3, none⟩ = some (.string o2) := by unfold World.cell?; rw [hg]; rfl
  have h4 : w.cell? ⟨g, 4, none⟩ = some (.slice A2 k2 c2) := by unfold World.cell?; rw [hg]; rfl
  have h5 : w.cell? ⟨g, 5, none⟩ = some (.int .i64 (n2 : Int)) := by unfold World.cell?; rw [hg]; rfl
  have hg1 : g < w.heap.size + 1 := by omega
  have hg2 : g < w.heap.size + 1 + 1 := by omega
  have hg3 : g < w.heap.size + 1 + 1 + 1 := by omega
  have hok := val_ok y
  have HI := Lib.hid ih
  have HJ := Lib.hid ih2
  have hv : val (.bin o x y) = if (val x).e = 0 then (if (val y).e = 0 then ap2 o (val x) (val y) else ⟨0, 0, (val y).e⟩) else ⟨0, 0, (val x).e⟩ := rfl
  unfold Vp at HI HJ ⊢
  rw [hv]
  clear hv ih ih2 hg
  generalize val x = r at HI ⊢
  generalize val y = r2 at hok HJ ⊢
  unfold res at HI HJ
  unfold sv
  by_cases he : r.e = 0
  · rw [if_pos he]
    by_cases he2 : r2.e = 0
    · have HA : Hid (∀ W, Calls Tryd.prog 31 #[.string ⟨o.toArray⟩, .agg #[.int .i64 r.n, .int .i64 r.d], .agg #[.int .i64 r2.n, .int .i64 r2.d]] W fun e w' => e = .returned (res (ap2 o r r2)) ∧ Below W.heap.size W w') := Lib.hid fun W => apply_any o ho r r2 (hok he2) he he2 W
      rw [if_pos he2]
      generalize ap2 o r r2 = s at HA ⊢
      unfold res at HA
      clear hok ho
      go_enter Tryd.func16, Tryd.ntmps16
      go_wp2_with fail
      refine wp_loop_rounds 3 ?_
      rw [rounds_succ]
      go_wp2_with fail
      refine (HI.out _ ?_).mono ?_
      · exact ((((Below.refl _ w).alloc (Nat.le_refl _) _).alloc (by simp) _).alloc (by simp; omega) _).alloc (by simp; omega) _
      rintro e w1 ⟨rfl, hb⟩
      obtain ⟨hc, hf⟩ := bcell hb
      have HK : Hid (Bk w w1 o g 2 lv 0 0 0 0) := Lib.hid (Bk.below ⟨(hp4 w _ _ _ _).1, (hp4 w _ _ _ _).2.1, _, (hp4 w _ _ _ _).2.2⟩ hb)
      have hz1 := hb.size
      simp only [World.size_alloc] at hz1
      have z0 : w.heap.size < w1.heap.size := by omega
      have z1 : w.heap.size + 1 < w1.heap.size := by omega
      have z2 : w.heap.size + 1 + 1 < w1.heap.size := by omega
      have zg : g < w1.heap.size := by omega
      have HB : Hid (Below w.heap.size w w1) := Lib.hid (((((Below.refl _ w).alloc (Nat.le_refl _) _).alloc (by simp) _).alloc (by simp; omega) _).alloc (by simp; omega) _ |>.trans (hb.mono (by simp; omega)))
      clear hb
      go_wp2_with fail
      rw [rounds_succ]
      go_wp2_with fail
      refine (HJ.out _ ?_).mono ?_
      · exact (((HB.out.setCell (p := ⟨w.heap.size + 1 + 1, 0, none⟩) (by show _ ≤ w.heap.size + 1 + 1; omega) _).setCell (p := ⟨w.heap.size + 1 + 1, 1, none⟩) (by show _ ≤ w.heap.size + 1 + 1; omega) _).alloc (by simp [World.setCell]; omega) _).alloc (by simp [World.setCell]; omega) _
      rintro e w2 ⟨rfl, hb2⟩
      have HK2 := Lib.hid ((((HK.out.set _ _).alloc _).alloc _).below hb2)
      obtain ⟨⟨a0, a1, a2⟩, ⟨r0, r1, rf0, rf1⟩, ⟨v0, v1, v2, v3⟩, vf0, vf1, vf2, vf3⟩ := HK2.out.facts
      have hz2 := hb2.size
      simp only [World.size_alloc, World.size_setCell] at hz2
      have y0 : w.heap.size < w2.heap.size := by omega
      have y1 : w.heap.size + 1 < w2.heap.size := by omega
      have y2 : w.heap.size + 1 + 1 < w2.heap.size := by omega
      have HB2 : Hid (Below w.heap.size w w2) := Lib.hid ((((HB.out.setCell (p := ⟨w.heap.size + 1 + 1, 0, none⟩) (by show _ ≤ w.heap.size + 1 + 1; omega) _).setCell (p := ⟨w.heap.size + 1 + 1, 1, none⟩) (by show _ ≤ w.heap.size + 1 + 1; omega) _).alloc (by simp [World.setCell]; omega) _).alloc (by simp [World.setCell]; omega) _ |>.trans (hb2.mono (by simp [World.setCell]; omega)))
      clear hb2
      go_wp2_with fail
      rw [rounds_succ]
      go_wp2_with fail
      refine (HA.out _).mono ?_
      rintro e w3 ⟨rfl, hb3⟩
      have hs3 : ∀ i, i ≠ w.heap.size + 1 + 1 → ∀ u v : Value, ((w2.setCell ⟨w.heap.size + 1 + 1, 2, none⟩ u).setCell ⟨w.heap.size + 1 + 1, 3, none⟩ v).heap[i]? = w2.heap[i]? := fun i hi u v => by rw [Below.heap_setCell _ _ _ _ hi, Below.heap_setCell _ _ _ _ hi]
      have hr3 : w3.heap[w.heap.size + 1]? = some (nb 0 0) := (hb3.block _ (by simp [World.setCell]; omega)).trans ((Below.heap_alloc _ _ _ (by simp [World.setCell]; omega)).trans ((hs3 _ (by omega) _ _).trans HK2.out.r))
      obtain ⟨r0, r1, rf0, rf1⟩ := Go.Proofs.YtfocokjihbenmaaDoor.Fo.c2 hr3
      clear hs3 hr3
      have HB3 := Lib.hid hb3
      have hz3 := hb3.size
      simp only [World.size_alloc, World.size_setCell] at hz3
      have x1 : w.heap.size + 1 < w3.heap.size := by omega
      clear hb3
      go_wp2_with fail
      have b3 : Below w.heap.size w w3 := (((HB2.out.setCell (p := ⟨w.heap.size + 1 + 1, 2, none⟩) (by show _ ≤ w.heap.size + 1 + 1; omega) _).setCell (p := ⟨w.heap.size + 1 + 1, 3, none⟩) (by show _ ≤ w.heap.size + 1 + 1; omega) _).alloc (by simp [World.setCell]; omega) _).trans (HB3.out.mono (by simp [World.setCell]; omega))
      exact bodyPost_ret (v := res s) (by simp [results, Tryd.results16, go_sem, r0, r1, x1, res]) rfl ⟨rfl, res3 b3 _ _⟩
    · have hd2 : (r2.e == 0) = false := by simpa using he2
      rw [if_neg he2]
      clear hok ho he2
      go_enter Tryd.func16, Tryd.ntmps16
      go_wp2_with fail
      refine wp_loop_rounds 3 ?_
      rw [rounds_succ]
      go_wp2_with fail
      refine (HI.out _ ?_).mono ?_
      · exact ((((Below.refl _ w).alloc (Nat.le_refl _) _).alloc (by simp) _).alloc (by simp; omega) _).alloc (by simp; omega) _
      rintro e w1 ⟨rfl, hb⟩
      obtain ⟨hc, hf⟩ := bcell hb
      have HK : Hid (Bk w w1 o g 2 lv 0 0 0 0) := Lib.hid (Bk.below ⟨(hp4 w _ _ _ _).1, (hp4 w _ _ _ _).2.1, _, (hp4 w _ _ _ _).2.2⟩ hb)
      have hz1 := hb.size
      simp only [World.size_alloc] at hz1
      have z0 : w.heap.size < w1.heap.size := by omega
      have z1 : w.heap.size + 1 < w1.heap.size := by omega
      have z2 : w.heap.size + 1 + 1 < w1.heap.size := by omega
      have zg : g < w1.heap.size := by omega
      have HB : Hid (Below w.heap.size w w1) := Lib.hid (((((Below.refl _ w).alloc (Nat.le_refl _) _).alloc (by simp) _).alloc (by simp; omega) _).alloc (by simp; omega) _ |>.trans (hb.mono (by simp; omega)))
      clear hb
      go_wp2_with fail
      rw [rounds_succ]
      go_wp2_with fail
      refine (HJ.out _ ?_).mono ?_
      · exact (((HB.out.setCell (p := ⟨w.heap.size + 1 + 1, 0, none⟩) (by show _ ≤ w.heap.size + 1 + 1; omega) _).setCell (p := ⟨w.heap.size + 1 + 1, 1, none⟩) (by show _ ≤ w.heap.size + 1 + 1; omega) _).alloc (by simp [World.setCell]; omega) _).alloc (by simp [World.setCell]; omega) _
      rintro e w2 ⟨rfl, hb2⟩
      have HK2 := Lib.hid ((((HK.out.set _ _).alloc _).alloc _).below hb2)
      obtain ⟨⟨a0, a1, a2⟩, ⟨r0, r1, rf0, rf1⟩, ⟨v0, v1, v2, v3⟩, vf0, vf1, vf2, vf3⟩ := HK2.out.facts
      have hz2 := hb2.size
      simp only [World.size_alloc, World.size_setCell] at hz2
      have y0 : w.heap.size < w2.heap.size := by omega
      have y1 : w.heap.size + 1 < w2.heap.size := by omega
      have y2 : w.heap.size + 1 + 1 < w2.heap.size := by omega
      have HB2 : Hid (Below w.heap.size w w2) := Lib.hid ((((HB.out.setCell (p := ⟨w.heap.size + 1 + 1, 0, none⟩) (by show _ ≤ w.heap.size + 1 + 1; omega) _).setCell (p := ⟨w.heap.size + 1 + 1, 1, none⟩) (by show _ ≤ w.heap.size + 1 + 1; omega) _).alloc (by simp [World.setCell]; omega) _).alloc (by simp [World.setCell]; omega) _ |>.trans (hb2.mono (by simp [World.setCell]; omega)))
      clear hb2
      go_wp2_with fail
      exact bodyPost_ret (v := res ⟨0, 0, r2.e⟩) (by simp [results, Tryd.results16, go_sem, r0, r1, y1, res]) rfl ⟨rfl, (res3 HB2.out _ _).alloc (by simp [World.setCell]; omega) _⟩
  · have hd : (r.e == 0) = false := by simpa using he
    rw [if_neg he]
    clear hok ho he
    go_enter Tryd.func16, Tryd.ntmps16
    go_wp2_with fail
    refine wp_loop_rounds 3 ?_
    rw [rounds_succ]
    go_wp2_with fail
    refine (HI.out _ ?_).mono ?_
    · exact ((((Below.refl _ w).alloc (Nat.le_refl _) _).alloc (by simp) _).alloc (by simp; omega) _).alloc (by simp; omega) _
    rintro e w1 ⟨rfl, hb⟩
    obtain ⟨hc, hf⟩ := bcell hb
    have HK : Hid (Bk w w1 o g 2 lv 0 0 0 0) := Lib.hid (Bk.below ⟨(hp4 w _ _ _ _).1, (hp4 w _ _ _ _).2.1, _, (hp4 w _ _ _ _).2.2⟩ hb)
    have hz1 := hb.size
    simp only [World.size_alloc] at hz1
    have z0 : w.heap.size < w1.heap.size := by omega
    have z1 : w.heap.size + 1 < w1.heap.size := by omega
    have z2 : w.heap.size + 1 + 1 < w1.heap.size := by omega
    have zg : g < w1.heap.size := by omega
    have HB : Hid (Below w.heap.size w w1) := Lib.hid (((((Below.refl _ w).alloc (Nat.le_refl _) _).alloc (by simp) _).alloc (by simp; omega) _).alloc (by simp; omega) _ |>.trans (hb.mono (by simp; omega)))
    clear hb
    go_wp2_with fail
    exact bodyPost_ret (v := res ⟨0, 0, r.e⟩) (by simp [results, Tryd.results16, go_sem, hc, z1, res]) rfl ⟨rfl, (res3 HB.out _ _).alloc (by simp [World.setCell]; omega) _⟩
theorem value_any : ∀ (x : T) (hx : x.wf) (X : Nat → Prop) (w : World) (v : Value), Nd X w x v → Tb w → Calls Tryd.prog 16 #[v] w (Vp w x)
  | .num s, hs, X, w, v, h, ht => by rw [show v = _ from h]; exact value_num s hs w ht
  | .un o x, hw, X, w, v, ⟨g, t, a, b, c, e, _, hg, hx⟩, ht => by
    rw [e]
    obtain ⟨oo, A, k, c', e'⟩ := hx.form
    cases e'
    exact value_un o hw.1 x w ht g t oo A k c' _ _ hg (fun W hW => value_any x hw.2 X W _ (hx.below hW) (ht.below hW))
  | .bin o x y, hw, X, w, v, ⟨g, t, a, b, c, a', b', c', e, _, hg, hx, hy⟩, ht => by
    rw [e]
    obtain ⟨oo, A, k, c1, e1⟩ := hx.form
    obtain ⟨o2, A2, k2, c2, e2⟩ := hy.form
    cases e1; cases e2
    exact value_bin o hw.1 x y w g t oo A k c1 _ o2 A2 k2 c2 _ _ hg (fun W hW => value_any x hw.2.1 X W _ (hx.below hW) (ht.below hW)) (fun W hW => value_any y hw.2.2 X W _ (hy.below hW) (ht.below hW))
end Go.Proofs.YtfocokjihbenmaaDoor.Fo
