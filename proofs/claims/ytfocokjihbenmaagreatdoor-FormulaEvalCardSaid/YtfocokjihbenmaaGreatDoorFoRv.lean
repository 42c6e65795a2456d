/-
  The contract of Depth of the reference of chapter 8.
  The contracts of Truth, two and one of the reference of chapter 8.
  The contracts of power and one of the reference of chapter 8.
  The contract of one of the reference of chapter 8, and of one and two at every operator.
  The contract of Value of the reference of chapter 8.
-/
import Derived.Test.YtfocokjihbenmaaGreatDoorFoRx
import Derived.Test.YtfocokjihbenmaaGreatDoorFoAp
import Derived.Test.YtfocokjihbenmaaGreatDoorNuMo
import Derived.Deep.RegionWith
import Derived.Test.YtfocokjihbenmaaGreatDoorFoMm
import Derived.Test.YtfocokjihbenmaaGreatDoorNuRq
namespace Go.Proofs.YtfocokjihbenmaaGreatDoor.Fo
open Go.RowKit Go.Proofs.YtfocokjihbenmaaGreatDoor.Nu
set_option linter.unusedVariables false
set_option linter.unusedSimpArgs false

/-- Cells of a row of one node or of two. -/
theorem r3 {W : World} {g : Nat} {a b c : Value} {t : TypeId} (h : W.heap[g]? = some (.cells #[a, b, c] t)) : W.cell? ⟨g, 0, none⟩ = some a ∧ W.cell? ⟨g, 1, none⟩ = some b ∧ W.cell? ⟨g, 2, none⟩ = some c ∧ g < W.heap.size := by
  refine ⟨?_, ?_, ?_, lt_heap h⟩
  · unfold World.cell?; rw [h]; rfl
  · unfold World.cell?; rw [h]; rfl
  · unfold World.cell?; rw [h]; rfl
theorem r6 {W : World} {g : Nat} {a b c d e f : Value} {t : TypeId} (h : W.heap[g]? = some (.cells #[a, b, c, d, e, f] t)) : W.cell? ⟨g, 0, none⟩ = some a ∧ W.cell? ⟨g, 1, none⟩ = some b ∧ W.cell? ⟨g, 2, none⟩ = some c ∧ W.cell? ⟨g, 3, none⟩ = some d ∧ W.cell? ⟨g, 4, none⟩ = some e ∧ W.cell? ⟨g, 5, none⟩ = some f ∧ g < W.heap.size := by
  refine ⟨?_, ?_, ?_, ?_, ?_, ?_, lt_heap h⟩
  all_goals unfold World.cell?; rw [h]; rfl
abbrev bx (a b c : Value) : Obj := .cells #[a, b, c] 50
set_option maxRecDepth 100000 in
set_option maxHeartbeats 4000000 in
theorem Depth_any : ∀ (x : T), x.wf → x.lv ≤ 1000 → ∀ (X : Nat → Prop) (w : World) (v : Value), Rd X w x v →
    Calls Tryz.prog 23 #[v] w fun e w' => e = .returned (.int .i64 (x.lv : Int)) ∧ Below w.heap.size w w'
  | .bad, h, _, _, _, _, _ => absurd h (by simp [T.wf])
  | .num s, _, _, X, w, v, hR => by
    obtain rfl : v = .agg #[.string ⟨#[]⟩, sv s, .slice none 0 0] := hR
    have hl : ((T.num s).lv : Int) = 1 := rfl
    rw [hl]
    unfold sv
    go_enter Tryz.func23, Tryz.ntmps23
    go_wp2
    refine wp_loop_rounds 1 ?_
    rw [rounds_succ]
    go_wp2
    go_ret
    exact ⟨rfl, (Below.refl _ w).alloc (Nat.le_refl _) _⟩
  | .un o x, hw, hl, X, w, v, ⟨g, t, a, b, c, hv, hg, hc, hx⟩ => by
    subst hv
    have hlx : x.lv ≤ 999 := by have : (T.un o x).lv = x.lv + 1 := rfl; omega
    have hcast : ((T.un o x).lv : Int) = (x.lv : Int) + 1 := by show ((x.lv + 1 : Nat) : Int) = _; omega
    rw [hcast]
    obtain ⟨q0, q1, q2, ql⟩ := r3 hc
    have hB : Below w.heap.size w (w.alloc (bx (sv o) (.string ⟨#[]⟩) (.slice (some ⟨g, 0, none⟩) 1 1))) := (Below.refl _ w).alloc (Nat.le_refl _) _
    have HI := Lib.hid (Depth_any x hw.2 (by omega) X _ _ (hx.below hB))
    have HB := Lib.hid hB
    have hm : max (0 : Int) (x.lv : Int) = (x.lv : Int) := by omega
    generalize x.lv = d at HI hlx hm ⊢
    clear hx hc hB hl hcast
    unfold sv at HI HB ⊢
    go_enter Tryz.func23, Tryz.ntmps23
    go_wp2
    refine wp_loop_rounds 2 ?_
    rw [rounds_succ]
    go_wp2_with fail
    (with_reducible refine HI.out.mono ?_)
    rintro e w1 ⟨rfl, hb1⟩
    have hz1 := hb1.size
    simp only [World.size_alloc] at hz1
    obtain ⟨y0, y1, y2, yl⟩ := r3 ((hb1.block w.heap.size (by simp)).trans (heap_new w _))
    have HB1 := Lib.hid (HB.out.trans (hb1.mono HB.out.size))
    clear hb1
    go_wp2_with fail
    rw [rounds_succ]
    go_wp2_with fail
    go_ret
    exact ⟨rfl, HB1.out⟩
  | .bin o x y, hw, hl, X, w, v, ⟨g, t, a, b, c, a', b', c', hv, hg, hc, hx, hy⟩ => by
    subst hv
    have hlv : (T.bin o x y).lv = max x.lv y.lv + 1 := rfl
    have hcast : ((T.bin o x y).lv : Int) = max (x.lv : Int) (y.lv : Int) + 1 := by rw [hlv]; omega
    rw [hcast]
    obtain ⟨q0, q1, q2, q3, q4, q5, ql⟩ := r6 hc
    have hB : Below w.heap.size w (w.alloc (bx (sv o) (.string ⟨#[]⟩) (.slice (some ⟨g, 0, none⟩) 2 2))) := (Below.refl _ w).alloc (Nat.le_refl _) _
    have HI := Lib.hid (Depth_any x hw.2.1 (by omega) X _ _ (hx.below hB))
    have HJ : Hid (∀ W, Below w.heap.size w W → Calls Tryz.prog 23 #[.agg #[a', b', c']] W fun e w' => e = .returned (.int .i64 (y.lv : Int)) ∧ Below W.heap.size W w') := Lib.hid fun W hW => Depth_any y hw.2.2 (by omega) X _ _ (hy.below hW)
    have HB := Lib.hid hB
    have hX : x.lv ≤ 1000 := by omega
    have hY : y.lv ≤ 999 := by omega
    generalize x.lv = d at HI hX ⊢
    generalize y.lv = d2 at HJ hY ⊢
    have hm : max (0 : Int) (d : Int) = (d : Int) := by omega
    obtain ⟨mx, hmx⟩ : ∃ mx : Nat, max (d : Int) (d2 : Int) = (mx : Int) := ⟨max d d2, by omega⟩
    have hmx2 : mx ≤ 1000 := by omega
    have hB2 := HB.out
    clear hx hy hc hB hl hcast hlv hB2
    rw [hmx]
    have HM := Lib.hid hmx
    have hG := ql
    have HC := Lib.hid (And.intro q3 (And.intro q4 q5))
    unfold sv at HI HB ⊢
    go_enter Tryz.func23, Tryz.ntmps23
    go_wp2
    refine wp_loop_rounds 3 ?_
    rw [rounds_succ]
    go_wp2_with fail
    (with_reducible refine HI.out.mono ?_)
    rintro e w1 ⟨rfl, hb1⟩
    have hz1 := hb1.size
    simp only [World.size_alloc] at hz1
    obtain ⟨y0, y1, y2, yl⟩ := r3 ((hb1.block w.heap.size (by simp)).trans (heap_new w _))
    have HB1 := Lib.hid (HB.out.trans (hb1.mono HB.out.size))
    have k3 : w1.cell? ⟨g, 3, none⟩ = some a' := ((HB1.out.cell (p := ⟨g, 3, none⟩) hG)).trans HC.out.1
    have k4 : w1.cell? ⟨g, 4, none⟩ = some b' := ((HB1.out.cell (p := ⟨g, 4, none⟩) hG)).trans HC.out.2.1
    have k5 : w1.cell? ⟨g, 5, none⟩ = some c' := ((HB1.out.cell (p := ⟨g, 5, none⟩) hG)).trans HC.out.2.2
    have HJ1 := Lib.hid (HJ.out w1 HB1.out)
    have hb10 := HB1.out.block w.heap.size
    clear hb1 hb10
    go_wp2_with fail
    rw [rounds_succ]
    go_wp2_with fail
    (with_reducible refine HJ1.out.mono ?_)
    rintro e w2 ⟨rfl, hb2⟩
    obtain ⟨z0, z1, z2⟩ := (⟨(hb2.cell (p := ⟨w.heap.size, 0, none⟩) yl).trans y0, (hb2.cell (p := ⟨w.heap.size, 1, none⟩) yl).trans y1, (hb2.cell (p := ⟨w.heap.size, 2, none⟩) yl).trans y2⟩ : w2.cell? ⟨w.heap.size, 0, none⟩ = _ ∧ w2.cell? ⟨w.heap.size, 1, none⟩ = _ ∧ w2.cell? ⟨w.heap.size, 2, none⟩ = _)
    have hz2 := hb2.size
    have HB2 := Lib.hid (HB1.out.trans (hb2.mono HB1.out.size))
    clear hb2 y0 y1 y2 k3 k4 k5
    go_wp2_with fail
    rw [rounds_succ]
    go_wp2_with fail
    go_ret
    exact ⟨rfl, HB2.out⟩
end Go.Proofs.YtfocokjihbenmaaGreatDoor.Fo

namespace Go.Proofs.YtfocokjihbenmaaGreatDoor.Fo
open Go.RowKit Go.Proofs.YtfocokjihbenmaaGreatDoor.Nu
set_option linter.unusedVariables false
set_option linter.unusedSimpArgs false

theorem RTru_t (w : World) : Calls Tryz.prog 18 #[.bool true] w fun e w' => e = .returned (.agg #[.int .i64 1, .int .i64 1]) ∧ Below w.heap.size w w' := by
  go_enter Tryz.func18, Tryz.ntmps18
  go_wp2
  exact bodyPost_ret (v := .agg #[.int .i64 1, .int .i64 1]) (by simp [results, Tryz.results18, go_sem]) rfl ⟨rfl, (Below.refl _ w).alloc (Nat.le_refl _) _⟩
theorem RTru_f (w : World) : Calls Tryz.prog 18 #[.bool false] w fun e w' => e = .returned (.agg #[.int .i64 0, .int .i64 1]) ∧ Below w.heap.size w w' := by
  go_enter Tryz.func18, Tryz.ntmps18
  go_wp2
  exact bodyPost_ret (v := .agg #[.int .i64 0, .int .i64 1]) (by simp [results, Tryz.results18, go_sem]) rfl ⟨rfl, (Below.refl _ w).alloc (Nat.le_refl _) _⟩
/-- The operands' boxes and the result's. -/
structure B3 (w W : World) (a p b q : Int) : Prop where
  x : W.heap[w.heap.size]? = some (nb a p)
  y : W.heap[w.heap.size + 1]? = some (nb b q)
  r : W.heap[w.heap.size + 1 + 1]? = some (nb 0 0)
  bl : Below w.heap.size w W
theorem B3.new (w : World) (a p b q : Int) : B3 w (((w.alloc (nb a p)).alloc (nb b q)).alloc (nb 0 0)) a p b q := by
  refine ⟨?_, ?_, ?_, (((Below.refl _ w).alloc (Nat.le_refl _) _).alloc (by simp) _).alloc (by simp; omega) _⟩
  · rw [Below.heap_alloc _ _ _ (by simp; omega), Below.heap_alloc _ _ _ (by simp)]; exact nh _ _
  · rw [Below.heap_alloc _ _ _ (by simp)]
    have := nh (w.alloc (nb a p)) (nb b q); rwa [World.size_alloc] at this
  · have := nh ((w.alloc (nb a p)).alloc (nb b q)) (nb 0 0); rwa [World.size_alloc, World.size_alloc] at this
theorem B3.call {w W W' : World} {a p b q : Int} (hb : Below W.heap.size W W') (h : B3 w W a p b q) : B3 w W' a p b q :=
  ⟨(hb.block _ (lt_heap3 h.x)).trans h.x, (hb.block _ (lt_heap3 h.y)).trans h.y, (hb.block _ (lt_heap3 h.r)).trans h.r, h.bl.trans (hb.mono h.bl.size)⟩
theorem B3.fin {w W : World} {a p b q : Int} (h : B3 w W a p b q) (n d : Int) : ((W.setCell ⟨w.heap.size + 1 + 1, 0, none⟩ (.int .i64 n)).setCell ⟨w.heap.size + 1 + 1, 1, none⟩ (.int .i64 d)).heap[w.heap.size + 1 + 1]? = some (nb n d) ∧
    Below w.heap.size w ((W.setCell ⟨w.heap.size + 1 + 1, 0, none⟩ (.int .i64 n)).setCell ⟨w.heap.size + 1 + 1, 1, none⟩ (.int .i64 d)) :=
  ⟨s2 h.r n d, (h.bl.setCell (p := ⟨w.heap.size + 1 + 1, 0, none⟩) (by show _ ≤ w.heap.size + 1 + 1; omega) _).setCell (p := ⟨w.heap.size + 1 + 1, 1, none⟩) (by show _ ≤ w.heap.size + 1 + 1; omega) _⟩
set_option maxRecDepth 100000 in
set_option maxHeartbeats 2000000 in
theorem two_add (a p b q : Int) (w : World) : Calls Tryz.prog 41 #[.string ⟨#[43]⟩, .agg #[.int .i64 a, .int .i64 p], .agg #[.int .i64 b, .int .i64 q]] w fun e w' => e = .returned (res (add a p b q)) ∧ Below w.heap.size w w' := by
  obtain ⟨n, d, z, hR⟩ : ∃ n d z, add a p b q = ⟨n, d, z⟩ := ⟨_, _, _, rfl⟩
  have HR := Lib.hid (RAdd_any a p b q)
  rw [hR] at HR ⊢
  clear hR
  have HC := Lib.hid (RCompare_any a p b q)
  generalize cmp a p b q = c at HC
  go_enter Tryz.func41, Tryz.ntmps41
  go_wp2_with fail
  (with_reducible refine (HC.out _).mono ?_)
  rintro e w1 ⟨rfl, hb1⟩
  have h1 := (B3.new w a p b q).call hb1
  obtain ⟨x0, x1, _, _⟩ := c2 h1.x
  obtain ⟨y0, y1, _, _⟩ := c2 h1.y
  have H1 := Lib.hid h1
  clear hb1 h1
  go_wp2_with fail
  (with_reducible refine (HR.out _).mono ?_)
  rintro e w2 ⟨rfl, hb2⟩
  have h2 := H1.out.call hb2
  clear hb2 x0 x1 y0 y1
  obtain ⟨r0, r1, rf0, rf1⟩ := c2 h2.r
  have HF := Lib.hid (h2.fin (n) (d))
  clear h2
  go_wp2_with fail
  obtain ⟨hz, hbl⟩ := HF.out
  generalize ((w2.setCell ⟨w.heap.size + 1 + 1, 0, none⟩ (.int .i64 (n))).setCell ⟨w.heap.size + 1 + 1, 1, none⟩ (.int .i64 (d))) = W9 at hz hbl ⊢
  obtain ⟨z0, z1, _, _⟩ := c2 hz
  exact bodyPost_ret (v := .tuple #[.agg #[.int .i64 (n), .int .i64 (d)], .int .i64 (z)]) (by simp [results, Tryz.results41, go_sem, z0, z1]) rfl ⟨rfl, hbl⟩
set_option maxRecDepth 100000 in
set_option maxHeartbeats 2000000 in
theorem two_sub (a p b q : Int) (w : World) : Calls Tryz.prog 41 #[.string ⟨#[45]⟩, .agg #[.int .i64 a, .int .i64 p], .agg #[.int .i64 b, .int .i64 q]] w fun e w' => e = .returned (res (sub a p b q)) ∧ Below w.heap.size w w' := by
  obtain ⟨n, d, z, hR⟩ : ∃ n d z, sub a p b q = ⟨n, d, z⟩ := ⟨_, _, _, rfl⟩
  have HR := Lib.hid (RSub_any a p b q)
  rw [hR] at HR ⊢
  clear hR
  have HC := Lib.hid (RCompare_any a p b q)
  generalize cmp a p b q = c at HC
  go_enter Tryz.func41, Tryz.ntmps41
  go_wp2_with fail
  (with_reducible refine (HC.out _).mono ?_)
  rintro e w1 ⟨rfl, hb1⟩
  have h1 := (B3.new w a p b q).call hb1
  obtain ⟨x0, x1, _, _⟩ := c2 h1.x
  obtain ⟨y0, y1, _, _⟩ := c2 h1.y
  have H1 := Lib.hid h1
  clear hb1 h1
  go_wp2_with fail
  (with_reducible refine (HR.out _).mono ?_)
  rintro e w2 ⟨rfl, hb2⟩
  have h2 := H1.out.call hb2
  clear hb2 x0 x1 y0 y1
  obtain ⟨r0, r1, rf0, rf1⟩ := c2 h2.r
  have HF := Lib.hid (h2.fin (n) (d))
  clear h2
  go_wp2_with fail
  obtain ⟨hz, hbl⟩ := HF.out
  generalize ((w2.setCell ⟨w.heap.size + 1 + 1, 0, none⟩ (.int .i64 (n))).setCell ⟨w.heap.size + 1 + 1, 1, none⟩ (.int .i64 (d))) = W9 at hz hbl ⊢
  obtain ⟨z0, z1, _, _⟩ := c2 hz
  exact bodyPost_ret (v := .tuple #[.agg #[.int .i64 (n), .int .i64 (d)], .int .i64 (z)]) (by simp [results, Tryz.results41, go_sem, z0, z1]) rfl ⟨rfl, hbl⟩
set_option maxRecDepth 100000 in
set_option maxHeartbeats 2000000 in
theorem two_mul (a p b q : Int) (w : World) : Calls Tryz.prog 41 #[.string ⟨#[42]⟩, .agg #[.int .i64 a, .int .i64 p], .agg #[.int .i64 b, .int .i64 q]] w fun e w' => e = .returned (res (mul a p b q)) ∧ Below w.heap.size w w' := by
  obtain ⟨n, d, z, hR⟩ : ∃ n d z, mul a p b q = ⟨n, d, z⟩ := ⟨_, _, _, rfl⟩
  have HR := Lib.hid (RMul_any a p b q)
  rw [hR] at HR ⊢
  clear hR
  have HC := Lib.hid (RCompare_any a p b q)
  generalize cmp a p b q = c at HC
  go_enter Tryz.func41, Tryz.ntmps41
  go_wp2_with fail
  (with_reducible refine (HC.out _).mono ?_)
  rintro e w1 ⟨rfl, hb1⟩
  have h1 := (B3.new w a p b q).call hb1
  obtain ⟨x0, x1, _, _⟩ := c2 h1.x
  obtain ⟨y0, y1, _, _⟩ := c2 h1.y
  have H1 := Lib.hid h1
  clear hb1 h1
  go_wp2_with fail
  (with_reducible refine (HR.out _).mono ?_)
  rintro e w2 ⟨rfl, hb2⟩
  have h2 := H1.out.call hb2
  clear hb2 x0 x1 y0 y1
  obtain ⟨r0, r1, rf0, rf1⟩ := c2 h2.r
  have HF := Lib.hid (h2.fin (n) (d))
  clear h2
  go_wp2_with fail
  obtain ⟨hz, hbl⟩ := HF.out
  generalize ((w2.setCell ⟨w.heap.size + 1 + 1, 0, none⟩ (.int .i64 (n))).setCell ⟨w.heap.size + 1 + 1, 1, none⟩ (.int .i64 (d))) = W9 at hz hbl ⊢
  obtain ⟨z0, z1, _, _⟩ := c2 hz
  exact bodyPost_ret (v := .tuple #[.agg #[.int .i64 (n), .int .i64 (d)], .int .i64 (z)]) (by simp [results, Tryz.results41, go_sem, z0, z1]) rfl ⟨rfl, hbl⟩
set_option maxRecDepth 100000 in
set_option maxHeartbeats 2000000 in
theorem two_div (a p b q : Int) (w : World) : Calls Tryz.prog 41 #[.string ⟨#[47]⟩, .agg #[.int .i64 a, .int .i64 p], .agg #[.int .i64 b, .int .i64 q]] w fun e w' => e = .returned (res (div a p b q)) ∧ Below w.heap.size w w' := by
  obtain ⟨n, d, z, hR⟩ : ∃ n d z, div a p b q = ⟨n, d, z⟩ := ⟨_, _, _, rfl⟩
  have HR := Lib.hid (RDiv_any a p b q)
  rw [hR] at HR ⊢
  clear hR
  have HC := Lib.hid (RCompare_any a p b q)
  generalize cmp a p b q = c at HC
  go_enter Tryz.func41, Tryz.ntmps41
  go_wp2_with fail
  (with_reducible refine (HC.out _).mono ?_)
  rintro e w1 ⟨rfl, hb1⟩
  have h1 := (B3.new w a p b q).call hb1
  obtain ⟨x0, x1, _, _⟩ := c2 h1.x
  obtain ⟨y0, y1, _, _⟩ := c2 h1.y
  have H1 := Lib.hid h1
  clear hb1 h1
  go_wp2_with fail
  (with_reducible refine (HR.out _).mono ?_)
  rintro e w2 ⟨rfl, hb2⟩
  have h2 := H1.out.call hb2
  clear hb2 x0 x1 y0 y1
  obtain ⟨r0, r1, rf0, rf1⟩ := c2 h2.r
  have HF := Lib.hid (h2.fin (n) (d))
  clear h2
  go_wp2_with fail
  obtain ⟨hz, hbl⟩ := HF.out
  generalize ((w2.setCell ⟨w.heap.size + 1 + 1, 0, none⟩ (.int .i64 (n))).setCell ⟨w.heap.size + 1 + 1, 1, none⟩ (.int .i64 (d))) = W9 at hz hbl ⊢
  obtain ⟨z0, z1, _, _⟩ := c2 hz
  exact bodyPost_ret (v := .tuple #[.agg #[.int .i64 (n), .int .i64 (d)], .int .i64 (z)]) (by simp [results, Tryz.results41, go_sem, z0, z1]) rfl ⟨rfl, hbl⟩
set_option maxRecDepth 100000 in
set_option maxHeartbeats 2000000 in
theorem two_mod (a p b q : Int) (w : World) : Calls Tryz.prog 41 #[.string ⟨#[109, 111, 100]⟩, .agg #[.int .i64 a, .int .i64 p], .agg #[.int .i64 b, .int .i64 q]] w fun e w' => e = .returned (res (mod a p b q)) ∧ Below w.heap.size w w' := by
  obtain ⟨n, d, z, hR⟩ : ∃ n d z, mod a p b q = ⟨n, d, z⟩ := ⟨_, _, _, rfl⟩
  have HR := Lib.hid (RMod_any a p b q)
  rw [hR] at HR ⊢
  clear hR
  have HC := Lib.hid (RCompare_any a p b q)
  generalize cmp a p b q = c at HC
  go_enter Tryz.func41, Tryz.ntmps41
  go_wp2_with fail
  (with_reducible refine (HC.out _).mono ?_)
  rintro e w1 ⟨rfl, hb1⟩
  have h1 := (B3.new w a p b q).call hb1
  obtain ⟨x0, x1, _, _⟩ := c2 h1.x
  obtain ⟨y0, y1, _, _⟩ := c2 h1.y
  have H1 := Lib.hid h1
  clear hb1 h1
  go_wp2_with fail
  (with_reducible refine (HR.out _).mono ?_)
  rintro e w2 ⟨rfl, hb2⟩
  have h2 := H1.out.call hb2
  clear hb2 x0 x1 y0 y1
  obtain ⟨r0, r1, rf0, rf1⟩ := c2 h2.r
  have HF := Lib.hid (h2.fin (n) (d))
  clear h2
  go_wp2_with fail
  obtain ⟨hz, hbl⟩ := HF.out
  generalize ((w2.setCell ⟨w.heap.size + 1 + 1, 0, none⟩ (.int .i64 (n))).setCell ⟨w.heap.size + 1 + 1, 1, none⟩ (.int .i64 (d))) = W9 at hz hbl ⊢
  obtain ⟨z0, z1, _, _⟩ := c2 hz
  exact bodyPost_ret (v := .tuple #[.agg #[.int .i64 (n), .int .i64 (d)], .int .i64 (z)]) (by simp [results, Tryz.results41, go_sem, z0, z1]) rfl ⟨rfl, hbl⟩
set_option maxRecDepth 100000 in
set_option maxHeartbeats 2000000 in
theorem two_eq (a p b q : Int) (w : World) : Calls Tryz.prog 41 #[.string ⟨#[61]⟩, .agg #[.int .i64 a, .int .i64 p], .agg #[.int .i64 b, .int .i64 q]] w fun e w' => e = .returned (res (tr (holdsB [61] (cmp a p b q)))) ∧ Below w.heap.size w w' := by
  have HC := Lib.hid (RCompare_any a p b q)
  generalize cmp a p b q = c at HC ⊢
  by_cases hc : c = 0
  · have hh : holdsB [61] c = true := by simp only [holdsB]; simp; omega
    have HE : Hid (tr (holdsB [61] c) = ⟨1, 1, 0⟩) := Lib.hid (by rw [hh]; rfl)
    have e1 : (c == 0) = true := by simpa using hc
    clear hc hh
    go_enter Tryz.func41, Tryz.ntmps41
    go_wp2_with fail
    (with_reducible refine (HC.out _).mono ?_)
    rintro e w1 ⟨rfl, hb1⟩
    have h1 := (B3.new w a p b q).call hb1
    obtain ⟨x0, x1, _, _⟩ := c2 h1.x
    obtain ⟨y0, y1, _, _⟩ := c2 h1.y
    have H1 := Lib.hid h1
    clear hb1 h1
    go_wp2_with fail
    (with_reducible refine (RTru_t _).mono ?_)
    rintro e w2 ⟨rfl, hb2⟩
    have h2 := H1.out.call hb2
    clear hb2 x0 x1 y0 y1
    obtain ⟨r0, r1, rf0, rf1⟩ := c2 h2.r
    have HF := Lib.hid (h2.fin (1) (1))
    clear h2
    go_wp2_with fail
    obtain ⟨hz, hbl⟩ := HF.out
    generalize ((w2.setCell ⟨w.heap.size + 1 + 1, 0, none⟩ (.int .i64 (1))).setCell ⟨w.heap.size + 1 + 1, 1, none⟩ (.int .i64 (1))) = W9 at hz hbl ⊢
    obtain ⟨z0, z1, _, _⟩ := c2 hz
    exact bodyPost_ret (v := .tuple #[.agg #[.int .i64 (1), .int .i64 (1)], .int .i64 (0)]) (by simp [results, Tryz.results41, go_sem, z0, z1]) rfl ⟨by rw [HE.out]; rfl, hbl⟩
  · have hh : holdsB [61] c = false := by simp only [holdsB]; simp; omega
    have HE : Hid (tr (holdsB [61] c) = ⟨0, 1, 0⟩) := Lib.hid (by rw [hh]; rfl)
    have e1 : (c == 0) = false := by simpa using hc
    clear hc hh
    go_enter Tryz.func41, Tryz.ntmps41
    go_wp2_with fail
    (with_reducible refine (HC.out _).mono ?_)
    rintro e w1 ⟨rfl, hb1⟩
    have h1 := (B3.new w a p b q).call hb1
    obtain ⟨x0, x1, _, _⟩ := c2 h1.x
    obtain ⟨y0, y1, _, _⟩ := c2 h1.y
    have H1 := Lib.hid h1
    clear hb1 h1
    go_wp2_with fail
    (with_reducible refine (RTru_f _).mono ?_)
    rintro e w2 ⟨rfl, hb2⟩
    have h2 := H1.out.call hb2
    clear hb2 x0 x1 y0 y1
    obtain ⟨r0, r1, rf0, rf1⟩ := c2 h2.r
    have HF := Lib.hid (h2.fin (0) (1))
    clear h2
    go_wp2_with fail
    obtain ⟨hz, hbl⟩ := HF.out
    generalize ((w2.setCell ⟨w.heap.size + 1 + 1, 0, none⟩ (.int .i64 (0))).setCell ⟨w.heap.size + 1 + 1, 1, none⟩ (.int .i64 (1))) = W9 at hz hbl ⊢
    obtain ⟨z0, z1, _, _⟩ := c2 hz
    exact bodyPost_ret (v := .tuple #[.agg #[.int .i64 (0), .int .i64 (1)], .int .i64 (0)]) (by simp [results, Tryz.results41, go_sem, z0, z1]) rfl ⟨by rw [HE.out]; rfl, hbl⟩
set_option maxRecDepth 100000 in
set_option maxHeartbeats 2000000 in
theorem two_ne (a p b q : Int) (w : World) : Calls Tryz.prog 41 #[.string ⟨#[60, 62]⟩, .agg #[.int .i64 a, .int .i64 p], .agg #[.int .i64 b, .int .i64 q]] w fun e w' => e = .returned (res (tr (holdsB [60, 62] (cmp a p b q)))) ∧ Below w.heap.size w w' := by
  have HC := Lib.hid (RCompare_any a p b q)
  generalize cmp a p b q = c at HC ⊢
  by_cases hc : c ≠ 0
  · have hh : holdsB [60, 62] c = true := by simp only [holdsB]; simp; omega
    have HE : Hid (tr (holdsB [60, 62] c) = ⟨1, 1, 0⟩) := Lib.hid (by rw [hh]; rfl)
    have e1 : (c != 0) = true := by simpa using hc
    clear hc hh
    go_enter Tryz.func41, Tryz.ntmps41
    go_wp2_with fail
    (with_reducible refine (HC.out _).mono ?_)
    rintro e w1 ⟨rfl, hb1⟩
    have h1 := (B3.new w a p b q).call hb1
    obtain ⟨x0, x1, _, _⟩ := c2 h1.x
    obtain ⟨y0, y1, _, _⟩ := c2 h1.y
    have H1 := Lib.hid h1
    clear hb1 h1
    go_wp2_with fail
    (with_reducible refine (RTru_t _).mono ?_)
    rintro e w2 ⟨rfl, hb2⟩
    have h2 := H1.out.call hb2
    clear hb2 x0 x1 y0 y1
    obtain ⟨r0, r1, rf0, rf1⟩ := c2 h2.r
    have HF := Lib.hid (h2.fin (1) (1))
    clear h2
    go_wp2_with fail
    obtain ⟨hz, hbl⟩ := HF.out
    generalize ((w2.setCell ⟨w.heap.size + 1 + 1, 0, none⟩ (.int .i64 (1))).setCell ⟨w.heap.size + 1 + 1, 1, none⟩ (.int .i64 (1))) = W9 at hz hbl ⊢
    obtain ⟨z0, z1, _, _⟩ := c2 hz
    exact bodyPost_ret (v := .tuple #[.agg #[.int .i64 (1), .int .i64 (1)], .int .i64 (0)]) (by simp [results, Tryz.results41, go_sem, z0, z1]) rfl ⟨by rw [HE.out]; rfl, hbl⟩
  · have hh : holdsB [60, 62] c = false := by simp only [holdsB]; simp; omega
    have HE : Hid (tr (holdsB [60, 62] c) = ⟨0, 1, 0⟩) := Lib.hid (by rw [hh]; rfl)
    have e1 : (c != 0) = false := by simpa using hc
    clear hc hh
    go_enter Tryz.func41, Tryz.ntmps41
    go_wp2_with fail
    (with_reducible refine (HC.out _).mono ?_)
    rintro e w1 ⟨rfl, hb1⟩
    have h1 := (B3.new w a p b q).call hb1
    obtain ⟨x0, x1, _, _⟩ := c2 h1.x
    obtain ⟨y0, y1, _, _⟩ := c2 h1.y
    have H1 := Lib.hid h1
    clear hb1 h1
    go_wp2_with fail
    (with_reducible refine (RTru_f _).mono ?_)
    rintro e w2 ⟨rfl, hb2⟩
    have h2 := H1.out.call hb2
    clear hb2 x0 x1 y0 y1
    obtain ⟨r0, r1, rf0, rf1⟩ := c2 h2.r
    have HF := Lib.hid (h2.fin (0) (1))
    clear h2
    go_wp2_with fail
    obtain ⟨hz, hbl⟩ := HF.out
    generalize ((w2.setCell ⟨w.heap.size + 1 + 1, 0, none⟩ (.int .i64 (0))).setCell ⟨w.heap.size + 1 + 1, 1, none⟩ (.int .i64 (1))) = W9 at hz hbl ⊢
    obtain ⟨z0, z1, _, _⟩ := c2 hz
    exact bodyPost_ret (v := .tuple #[.agg #[.int .i64 (0), .int .i64 (1)], .int .i64 (0)]) (by simp [results, Tryz.results41, go_sem, z0, z1]) rfl ⟨by rw [HE.out]; rfl, hbl⟩
set_option maxRecDepth 100000 in
set_option maxHeartbeats 2000000 in
theorem two_lt (a p b q : Int) (w : World) : Calls Tryz.prog 41 #[.string ⟨#[60]⟩, .agg #[.int .i64 a, .int .i64 p], .agg #[.int .i64 b, .int .i64 q]] w fun e w' => e = .returned (res (tr (holdsB [60] (cmp a p b q)))) ∧ Below w.heap.size w w' := by
  have HC := Lib.hid (RCompare_any a p b q)
  generalize cmp a p b q = c at HC ⊢
  by_cases hc : c < 0
  · have hh : holdsB [60] c = true := by simp only [holdsB]; simp; omega
    have HE : Hid (tr (holdsB [60] c) = ⟨1, 1, 0⟩) := Lib.hid (by rw [hh]; rfl)
    have e1 : decide (c < 0) = true := decide_eq_true hc
    clear hc hh
    go_enter Tryz.func41, Tryz.ntmps41
    go_wp2_with fail
    (with_reducible refine (HC.out _).mono ?_)
    rintro e w1 ⟨rfl, hb1⟩
    have h1 := (B3.new w a p b q).call hb1
    obtain ⟨x0, x1, _, _⟩ := c2 h1.x
    obtain ⟨y0, y1, _, _⟩ := c2 h1.y
    have H1 := Lib.hid h1
    clear hb1 h1
    go_wp2_with fail
    (with_reducible refine (RTru_t _).mono ?_)
    rintro e w2 ⟨rfl, hb2⟩
    have h2 := H1.out.call hb2
    clear hb2 x0 x1 y0 y1
    obtain ⟨r0, r1, rf0, rf1⟩ := c2 h2.r
    have HF := Lib.hid (h2.fin (1) (1))
    clear h2
    go_wp2_with fail
    obtain ⟨hz, hbl⟩ := HF.out
    generalize ((w2.setCell ⟨w.heap.size + 1 + 1, 0, none⟩ (.int .i64 (1))).setCell ⟨w.heap.size + 1 + 1, 1, none⟩ (.int .i64 (1))) = W9 at hz hbl ⊢
    obtain ⟨z0, z1, _, _⟩ := c2 hz
    exact bodyPost_ret (v := .tuple #[.agg #[.int .i64 (1), .int .i64 (1)], .int .i64 (0)]) (by simp [results, Tryz.results41, go_sem, z0, z1]) rfl ⟨by rw [HE.out]; rfl, hbl⟩
  · have hh : holdsB [60] c = false := by simp only [holdsB]; simp; omega
    have HE : Hid (tr (holdsB [60] c) = ⟨0, 1, 0⟩) := Lib.hid (by rw [hh]; rfl)
    have e1 : decide (c < 0) = false := decide_eq_false hc
    clear hc hh
    go_enter Tryz.func41, Tryz.ntmps41
    go_wp2_with fail
    (with_reducible refine (HC.out _).mono ?_)
    rintro e w1 ⟨rfl, hb1⟩
    have h1 := (B3.new w a p b q).call hb1
    obtain ⟨x0, x1, _, _⟩ := c2 h1.x
    obtain ⟨y0, y1, _, _⟩ := c2 h1.y
    have H1 := Lib.hid h1
    clear hb1 h1
    go_wp2_with fail
    (with_reducible refine (RTru_f _).mono ?_)
    rintro e w2 ⟨rfl, hb2⟩
    have h2 := H1.out.call hb2
    clear hb2 x0 x1 y0 y1
    obtain ⟨r0, r1, rf0, rf1⟩ := c2 h2.r
    have HF := Lib.hid (h2.fin (0) (1))
    clear h2
    go_wp2_with fail
    obtain ⟨hz, hbl⟩ := HF.out
    generalize ((w2.setCell ⟨w.heap.size + 1 + 1, 0, none⟩ (.int .i64 (0))).setCell ⟨w.heap.size + 1 + 1, 1, none⟩ (.int .i64 (1))) = W9 at hz hbl ⊢
    obtain ⟨z0, z1, _, _⟩ := c2 hz
    exact bodyPost_ret (v := .tuple #[.agg #[.int .i64 (0), .int .i64 (1)], .int .i64 (0)]) (by simp [results, Tryz.results41, go_sem, z0, z1]) rfl ⟨by rw [HE.out]; rfl, hbl⟩
set_option maxRecDepth 100000 in
set_option maxHeartbeats 2000000 in
theorem two_gt (a p b q : Int) (w : World) : Calls Tryz.prog 41 #[.string ⟨#[62]⟩, .agg #[.int .i64 a, .int .i64 p], .agg #[.int .i64 b, .int .i64 q]] w fun e w' => e = .returned (res (tr (holdsB [62] (cmp a p b q)))) ∧ Below w.heap.size w w' := by
  have HC := Lib.hid (RCompare_any a p b q)
  generalize cmp a p b q = c at HC ⊢
  by_cases hc : 0 < c
  · have hh : holdsB [62] c = true := by simp only [holdsB]; simp; omega
    have HE : Hid (tr (holdsB [62] c) = ⟨1, 1, 0⟩) := Lib.hid (by rw [hh]; rfl)
    have e1 : decide (c > 0) = true := decide_eq_true hc
    clear hc hh
    go_enter Tryz.func41, Tryz.ntmps41
    go_wp2_with fail
    (with_reducible refine (HC.out _).mono ?_)
    rintro e w1 ⟨rfl, hb1⟩
    have h1 := (B3.new w a p b q).call hb1
    obtain ⟨x0, x1, _, _⟩ := c2 h1.x
    obtain ⟨y0, y1, _, _⟩ := c2 h1.y
    have H1 := Lib.hid h1
    clear hb1 h1
    go_wp2_with fail
    (with_reducible refine (RTru_t _).mono ?_)
    rintro e w2 ⟨rfl, hb2⟩
    have h2 := H1.out.call hb2
    clear hb2 x0 x1 y0 y1
    obtain ⟨r0, r1, rf0, rf1⟩ := c2 h2.r
    have HF := Lib.hid (h2.fin (1) (1))
    clear h2
    go_wp2_with fail
    obtain ⟨hz, hbl⟩ := HF.out
    generalize ((w2.setCell ⟨w.heap.size + 1 + 1, 0, none⟩ (.int .i64 (1))).setCell ⟨w.heap.size + 1 + 1, 1, none⟩ (.int .i64 (1))) = W9 at hz hbl ⊢
    obtain ⟨z0, z1, _, _⟩ := c2 hz
    exact bodyPost_ret (v := .tuple #[.agg #[.int .i64 (1), .int .i64 (1)], .int .i64 (0)]) (by simp [results, Tryz.results41, go_sem, z0, z1]) rfl ⟨by rw [HE.out]; rfl, hbl⟩
  · have hh : holdsB [62] c = false := by simp only [holdsB]; simp; omega
    have HE : Hid (tr (holdsB [62] c) = ⟨0, 1, 0⟩) := Lib.hid (by rw [hh]; rfl)
    have e1 : decide (c > 0) = false := decide_eq_false hc
    clear hc hh
    go_enter Tryz.func41, Tryz.ntmps41
    go_wp2_with fail
    (with_reducible refine (HC.out _).mono ?_)
    rintro e w1 ⟨rfl, hb1⟩
    have h1 := (B3.new w a p b q).call hb1
    obtain ⟨x0, x1, _, _⟩ := c2 h1.x
    obtain ⟨y0, y1, _, _⟩ := c2 h1.y
    have H1 := Lib.hid h1
    clear hb1 h1
    go_wp2_with fail
    (with_reducible refine (RTru_f _).mono ?_)
    rintro e w2 ⟨rfl, hb2⟩
    have h2 := H1.out.call hb2
    clear hb2 x0 x1 y0 y1
    obtain ⟨r0, r1, rf0, rf1⟩ := c2 h2.r
    have HF := Lib.hid (h2.fin (0) (1))
    clear h2
    go_wp2_with fail
    obtain ⟨hz, hbl⟩ := HF.out
    generalize ((w2.setCell ⟨w.heap.size + 1 + 1, 0, none⟩ (.int .i64 (0))).setCell ⟨w.heap.size + 1 + 1, 1, none⟩ (.int .i64 (1))) = W9 at hz hbl ⊢
    obtain ⟨z0, z1, _, _⟩ := c2 hz
    exact bodyPost_ret (v := .tuple #[.agg #[.int .i64 (0), .int .i64 (1)], .int .i64 (0)]) (by simp [results, Tryz.results41, go_sem, z0, z1]) rfl ⟨by rw [HE.out]; rfl, hbl⟩
set_option maxRecDepth 100000 in
set_option maxHeartbeats 2000000 in
theorem two_le (a p b q : Int) (w : World) : Calls Tryz.prog 41 #[.string ⟨#[60, 61]⟩, .agg #[.int .i64 a, .int .i64 p], .agg #[.int .i64 b, .int .i64 q]] w fun e w' => e = .returned (res (tr (holdsB [60, 61] (cmp a p b q)))) ∧ Below w.heap.size w w' := by
  have HC := Lib.hid (RCompare_any a p b q)
  generalize cmp a p b q = c at HC ⊢
  by_cases hc : c ≤ 0
  · have hh : holdsB [60, 61] c = true := by simp only [holdsB]; simp; omega
    have HE : Hid (tr (holdsB [60, 61] c) = ⟨1, 1, 0⟩) := Lib.hid (by rw [hh]; rfl)
    have e1 : decide (c ≤ 0) = true := decide_eq_true hc
    clear hc hh
    go_enter Tryz.func41, Tryz.ntmps41
    go_wp2_with fail
    (with_reducible refine (HC.out _).mono ?_)
    rintro e w1 ⟨rfl, hb1⟩
    have h1 := (B3.new w a p b q).call hb1
    obtain ⟨x0, x1, _, _⟩ := c2 h1.x
    obtain ⟨y0, y1, _, _⟩ := c2 h1.y
    have H1 := Lib.hid h1
    clear hb1 h1
    go_wp2_with fail
    (with_reducible refine (RTru_t _).mono ?_)
    rintro e w2 ⟨rfl, hb2⟩
    have h2 := H1.out.call hb2
    clear hb2 x0 x1 y0 y1
    obtain ⟨r0, r1, rf0, rf1⟩ := c2 h2.r
    have HF := Lib.hid (h2.fin (1) (1))
    clear h2
    go_wp2_with fail
    obtain ⟨hz, hbl⟩ := HF.out
    generalize ((w2.setCell ⟨w.heap.size + 1 + 1, 0, none⟩ (.int .i64 (1))).setCell ⟨w.heap.size + 1 + 1, 1, none⟩ (.int .i64 (1))) = W9 at hz hbl ⊢
    obtain ⟨z0, z1, _, _⟩ := c2 hz
    exact bodyPost_ret (v := .tuple #[.agg #[.int .i64 (1), .int .i64 (1)], .int .i64 (0)]) (by simp [results, Tryz.results41, go_sem, z0, z1]) rfl ⟨by rw [HE.out]; rfl, hbl⟩
  · have hh : holdsB [60, 61] c = false := by simp only [holdsB]; simp; omega
    have HE : Hid (tr (holdsB [60, 61] c) = ⟨0, 1, 0⟩) := Lib.hid (by rw [hh]; rfl)
    have e1 : decide (c ≤ 0) = false := decide_eq_false hc
    clear hc hh
    go_enter Tryz.func41, Tryz.ntmps41
    go_wp2_with fail
    (with_reducible refine (HC.out _).mono ?_)
    rintro e w1 ⟨rfl, hb1⟩
    have h1 := (B3.new w a p b q).call hb1
    obtain ⟨x0, x1, _, _⟩ := c2 h1.x
    obtain ⟨y0, y1, _, _⟩ := c2 h1.y
    have H1 := Lib.hid h1
    clear hb1 h1
    go_wp2_with fail
    (with_reducible refine (RTru_f _).mono ?_)
    rintro e w2 ⟨rfl, hb2⟩
    have h2 := H1.out.call hb2
    clear hb2 x0 x1 y0 y1
    obtain ⟨r0, r1, rf0, rf1⟩ := c2 h2.r
    have HF := Lib.hid (h2.fin (0) (1))
    clear h2
    go_wp2_with fail
    obtain ⟨hz, hbl⟩ := HF.out
    generalize ((w2.setCell ⟨w.heap.size + 1 + 1, 0, none⟩ (.int .i64 (0))).setCell ⟨w.heap.size + 1 + 1, 1, none⟩ (.int .i64 (1))) = W9 at hz hbl ⊢
    obtain ⟨z0, z1, _, _⟩ := c2 hz
    exact bodyPost_ret (v := .tuple #[.agg #[.int .i64 (0), .int .i64 (1)], .int .i64 (0)]) (by simp [results, Tryz.results41, go_sem, z0, z1]) rfl ⟨by rw [HE.out]; rfl, hbl⟩
set_option maxRecDepth 100000 in
set_option maxHeartbeats 2000000 in
theorem two_ge (a p b q : Int) (w : World) : Calls Tryz.prog 41 #[.string ⟨#[62, 61]⟩, .agg #[.int .i64 a, .int .i64 p], .agg #[.int .i64 b, .int .i64 q]] w fun e w' => e = .returned (res (tr (holdsB [62, 61] (cmp a p b q)))) ∧ Below w.heap.size w w' := by
  have HC := Lib.hid (RCompare_any a p b q)
  generalize cmp a p b q = c at HC ⊢
  by_cases hc : 0 ≤ c
  · have hh : holdsB [62, 61] c = true := by simp only [holdsB]; simp; omega
    have HE : Hid (tr (holdsB [62, 61] c) = ⟨1, 1, 0⟩) := Lib.hid (by rw [hh]; rfl)
    have e1 : decide (c ≥ 0) = true := decide_eq_true hc
    clear hc hh
    go_enter Tryz.func41, Tryz.ntmps41
    go_wp2_with fail
    (with_reducible refine (HC.out _).mono ?_)
    rintro e w1 ⟨rfl, hb1⟩
    have h1 := (B3.new w a p b q).call hb1
    obtain ⟨x0, x1, _, _⟩ := c2 h1.x
    obtain ⟨y0, y1, _, _⟩ := c2 h1.y
    have H1 := Lib.hid h1
    clear hb1 h1
    go_wp2_with fail
    (with_reducible refine (RTru_t _).mono ?_)
    rintro e w2 ⟨rfl, hb2⟩
    have h2 := H1.out.call hb2
    clear hb2 x0 x1 y0 y1
    obtain ⟨r0, r1, rf0, rf1⟩ := c2 h2.r
    have HF := Lib.hid (h2.fin (1) (1))
    clear h2
    go_wp2_with fail
    obtain ⟨hz, hbl⟩ := HF.out
    generalize ((w2.setCell ⟨w.heap.size + 1 + 1, 0, none⟩ (.int .i64 (1))).setCell ⟨w.heap.size + 1 + 1, 1, none⟩ (.int .i64 (1))) = W9 at hz hbl ⊢
    obtain ⟨z0, z1, _, _⟩ := c2 hz
    exact bodyPost_ret (v := .tuple #[.agg #[.int .i64 (1), .int .i64 (1)], .int .i64 (0)]) (by simp [results, Tryz.results41, go_sem, z0, z1]) rfl ⟨by rw [HE.out]; rfl, hbl⟩
  · have hh : holdsB [62, 61] c = false := by simp only [holdsB]; simp; omega
    have HE : Hid (tr (holdsB [62, 61] c) = ⟨0, 1, 0⟩) := Lib.hid (by rw [hh]; rfl)
    have e1 : decide (c ≥ 0) = false := decide_eq_false hc
    clear hc hh
    go_enter Tryz.func41, Tryz.ntmps41
    go_wp2_with fail
    (with_reducible refine (HC.out _).mono ?_)
    rintro e w1 ⟨rfl, hb1⟩
    have h1 := (B3.new w a p b q).call hb1
    obtain ⟨x0, x1, _, _⟩ := c2 h1.x
    obtain ⟨y0, y1, _, _⟩ := c2 h1.y
    have H1 := Lib.hid h1
    clear hb1 h1
    go_wp2_with fail
    (with_reducible refine (RTru_f _).mono ?_)
    rintro e w2 ⟨rfl, hb2⟩
    have h2 := H1.out.call hb2
    clear hb2 x0 x1 y0 y1
    obtain ⟨r0, r1, rf0, rf1⟩ := c2 h2.r
    have HF := Lib.hid (h2.fin (0) (1))
    clear h2
    go_wp2_with fail
    obtain ⟨hz, hbl⟩ := HF.out
    generalize ((w2.setCell ⟨w.heap.size + 1 + 1, 0, none⟩ (.int .i64 (0))).setCell ⟨w.heap.size + 1 + 1, 1, none⟩ (.int .i64 (1))) = W9 at hz hbl ⊢
    obtain ⟨z0, z1, _, _⟩ := c2 hz
    exact bodyPost_ret (v := .tuple #[.agg #[.int .i64 (0), .int .i64 (1)], .int .i64 (0)]) (by simp [results, Tryz.results41, go_sem, z0, z1]) rfl ⟨by rw [HE.out]; rfl, hbl⟩
set_option maxRecDepth 100000 in
set_option maxHeartbeats 2000000 in
theorem two_and (a p b q : Int) (w : World) : Calls Tryz.prog 41 #[.string ⟨#[97, 110, 100]⟩, .agg #[.int .i64 a, .int .i64 p], .agg #[.int .i64 b, .int .i64 q]] w fun e w' => e = .returned (res (tr (decide (a ≠ 0) && decide (b ≠ 0)))) ∧ Below w.heap.size w w' := by
  have HC := Lib.hid (RCompare_any a p b q)
  generalize cmp a p b q = c at HC
  by_cases ha : a = 0
  · have e1 : (a != 0) = false := by simpa using ha
    have HE : Hid (tr (decide (a ≠ 0) && decide (b ≠ 0)) = ⟨0, 1, 0⟩) := Lib.hid (by simp [ha, tr])
    clear ha
    go_enter Tryz.func41, Tryz.ntmps41
    go_wp2_with fail
    (with_reducible refine (HC.out _).mono ?_)
    rintro e w1 ⟨rfl, hb1⟩
    have h1 := (B3.new w a p b q).call hb1
    obtain ⟨x0, x1, _, _⟩ := c2 h1.x
    obtain ⟨y0, y1, _, _⟩ := c2 h1.y
    have H1 := Lib.hid h1
    clear hb1 h1
    go_wp2_with fail
    (with_reducible refine (RTru_f _).mono ?_)
    rintro e w2 ⟨rfl, hb2⟩
    have h2 := H1.out.call hb2
    clear hb2 x0 x1 y0 y1
    obtain ⟨r0, r1, rf0, rf1⟩ := c2 h2.r
    have HF := Lib.hid (h2.fin (0) (1))
    clear h2
    go_wp2_with fail
    obtain ⟨hz, hbl⟩ := HF.out
    generalize ((w2.setCell ⟨w.heap.size + 1 + 1, 0, none⟩ (.int .i64 (0))).setCell ⟨w.heap.size + 1 + 1, 1, none⟩ (.int .i64 (1))) = W9 at hz hbl ⊢
    obtain ⟨z0, z1, _, _⟩ := c2 hz
    exact bodyPost_ret (v := .tuple #[.agg #[.int .i64 (0), .int .i64 (1)], .int .i64 (0)]) (by simp [results, Tryz.results41, go_sem, z0, z1]) rfl ⟨by rw [HE.out]; rfl, hbl⟩
  · by_cases hb : b = 0
    · have e1 : (a != 0) = true := by simpa using ha
      have e2 : (b != 0) = false := by simpa using hb
      have HE : Hid (tr (decide (a ≠ 0) && decide (b ≠ 0)) = ⟨0, 1, 0⟩) := Lib.hid (by simp [ha, hb, tr])
      clear ha hb
      go_enter Tryz.func41, Tryz.ntmps41
      go_wp2_with fail
      (with_reducible refine (HC.out _).mono ?_)
      rintro e w1 ⟨rfl, hb1⟩
      have h1 := (B3.new w a p b q).call hb1
      obtain ⟨x0, x1, _, _⟩ := c2 h1.x
      obtain ⟨y0, y1, _, _⟩ := c2 h1.y
      have H1 := Lib.hid h1
      clear hb1 h1
      go_wp2_with fail
      (with_reducible refine (RTru_f _).mono ?_)
      rintro e w2 ⟨rfl, hb2⟩
      have h2 := H1.out.call hb2
      clear hb2 x0 x1 y0 y1
      obtain ⟨r0, r1, rf0, rf1⟩ := c2 h2.r
      have HF := Lib.hid (h2.fin (0) (1))
      clear h2
      go_wp2_with fail
      obtain ⟨hz, hbl⟩ := HF.out
      generalize ((w2.setCell ⟨w.heap.size + 1 + 1, 0, none⟩ (.int .i64 (0))).setCell ⟨w.heap.size + 1 + 1, 1, none⟩ (.int .i64 (1))) = W9 at hz hbl ⊢
      obtain ⟨z0, z1, _, _⟩ := c2 hz
      exact bodyPost_ret (v := .tuple #[.agg #[.int .i64 (0), .int .i64 (1)], .int .i64 (0)]) (by simp [results, Tryz.results41, go_sem, z0, z1]) rfl ⟨by rw [HE.out]; rfl, hbl⟩
    · have e1 : (a != 0) = true := by simpa using ha
      have e2 : (b != 0) = true := by simpa using hb
      have HE : Hid (tr (decide (a ≠ 0) && decide (b ≠ 0)) = ⟨1, 1, 0⟩) := Lib.hid (by simp [ha, hb, tr])
      clear ha hb
      go_enter Tryz.func41, Tryz.ntmps41
      go_wp2_with fail
      (with_reducible refine (HC.out _).mono ?_)
      rintro e w1 ⟨rfl, hb1⟩
      have h1 := (B3.new w a p b q).call hb1
      obtain ⟨x0, x1, _, _⟩ := c2 h1.x
      obtain ⟨y0, y1, _, _⟩ := c2 h1.y
      have H1 := Lib.hid h1
      clear hb1 h1
      go_wp2_with fail
      (with_reducible refine (RTru_t _).mono ?_)
      rintro e w2 ⟨rfl, hb2⟩
      have h2 := H1.out.call hb2
      clear hb2 x0 x1 y0 y1
      obtain ⟨r0, r1, rf0, rf1⟩ := c2 h2.r
      have HF := Lib.hid (h2.fin (1) (1))
      clear h2
      go_wp2_with fail
      obtain ⟨hz, hbl⟩ := HF.out
      generalize ((w2.setCell ⟨w.heap.size + 1 + 1, 0, none⟩ (.int .i64 (1))).setCell ⟨w.heap.size + 1 + 1, 1, none⟩ (.int .i64 (1))) = W9 at hz hbl ⊢
      obtain ⟨z0, z1, _, _⟩ := c2 hz
      exact bodyPost_ret (v := .tuple #[.agg #[.int .i64 (1), .int .i64 (1)], .int .i64 (0)]) (by simp [results, Tryz.results41, go_sem, z0, z1]) rfl ⟨by rw [HE.out]; rfl, hbl⟩
set_option maxRecDepth 100000 in
set_option maxHeartbeats 2000000 in
theorem two_or (a p b q : Int) (w : World) : Calls Tryz.prog 41 #[.string ⟨#[111, 114]⟩, .agg #[.int .i64 a, .int .i64 p], .agg #[.int .i64 b, .int .i64 q]] w fun e w' => e = .returned (res (tr (decide (a ≠ 0) || decide (b ≠ 0)))) ∧ Below w.heap.size w w' := by
  have HC := Lib.hid (RCompare_any a p b q)
  generalize cmp a p b q = c at HC
  by_cases ha : a = 0
  · by_cases hb : b = 0
    · have e1 : (a != 0) = false := by simpa using ha
      have e2 : (b != 0) = false := by simpa using hb
      have HE : Hid (tr (decide (a ≠ 0) || decide (b ≠ 0)) = ⟨0, 1, 0⟩) := Lib.hid (by simp [ha, hb, tr])
      clear ha hb
      go_enter Tryz.func41, Tryz.ntmps41
      go_wp2_with fail
      (with_reducible refine (HC.out _).mono ?_)
      rintro e w1 ⟨rfl, hb1⟩
      have h1 := (B3.new w a p b q).call hb1
      obtain ⟨x0, x1, _, _⟩ := c2 h1.x
      obtain ⟨y0, y1, _, _⟩ := c2 h1.y
      have H1 := Lib.hid h1
      clear hb1 h1
      go_wp2_with fail
      (with_reducible refine (RTru_f _).mono ?_)
      rintro e w2 ⟨rfl, hb2⟩
      have h2 := H1.out.call hb2
      clear hb2 x0 x1 y0 y1
      obtain ⟨r0, r1, rf0, rf1⟩ := c2 h2.r
      have HF := Lib.hid (h2.fin (0) (1))
      clear h2
      go_wp2_with fail
      obtain ⟨hz, hbl⟩ := HF.out
      generalize ((w2.setCell ⟨w.heap.size + 1 + 1, 0, none⟩ (.int .i64 (0))).setCell ⟨w.heap.size + 1 + 1, 1, none⟩ (.int .i64 (1))) = W9 at hz hbl ⊢
      obtain ⟨z0, z1, _, _⟩ := c2 hz
      exact bodyPost_ret (v := .tuple #[.agg #[.int .i64 (0), .int .i64 (1)], .int .i64 (0)]) (by simp [results, Tryz.results41, go_sem, z0, z1]) rfl ⟨by rw [HE.out]; rfl, hbl⟩
    · have e1 : (a != 0) = false := by simpa using ha
      have e2 : (b != 0) = true := by simpa using hb
      have HE : Hid (tr (decide (a ≠ 0) || decide (b ≠ 0)) = ⟨1, 1, 0⟩) := Lib.hid (by simp [ha, hb, tr])
      clear ha hb
      go_enter Tryz.func41, Tryz.ntmps41
      go_wp2_with fail
      (with_reducible refine (HC.out _).mono ?_)
      rintro e w1 ⟨rfl, hb1⟩
      have h1 := (B3.new w a p b q).call hb1
      obtain ⟨x0, x1, _, _⟩ := c2 h1.x
      obtain ⟨y0, y1, _, _⟩ := c2 h1.y
      have H1 := Lib.hid h1
      clear hb1 h1
      go_wp2_with fail
      (with_reducible refine (RTru_t _).mono ?_)
      rintro e w2 ⟨rfl, hb2⟩
      have h2 := H1.out.call hb2
      clear hb2 x0 x1 y0 y1
      obtain ⟨r0, r1, rf0, rf1⟩ := c2 h2.r
      have HF := Lib.hid (h2.fin (1) (1))
      clear h2
      go_wp2_with fail
      obtain ⟨hz, hbl⟩ := HF.out
      generalize ((w2.setCell ⟨w.heap.size + 1 + 1, 0, none⟩ (.int .i64 (1))).setCell ⟨w.heap.size + 1 + 1, 1, none⟩ (.int .i64 (1))) = W9 at hz hbl ⊢
      obtain ⟨z0, z1, _, _⟩ := c2 hz
      exact bodyPost_ret (v := .tuple #[.agg #[.int .i64 (1), .int .i64 (1)], .int .i64 (0)]) (by simp [results, Tryz.results41, go_sem, z0, z1]) rfl ⟨by rw [HE.out]; rfl, hbl⟩
  · have e1 : (a != 0) = true := by simpa using ha
    have HE : Hid (tr (decide (a ≠ 0) || decide (b ≠ 0)) = ⟨1, 1, 0⟩) := Lib.hid (by simp [ha, tr])
    clear ha
    go_enter Tryz.func41, Tryz.ntmps41
    go_wp2_with fail
    (with_reducible refine (HC.out _).mono ?_)
    rintro e w1 ⟨rfl, hb1⟩
    have h1 := (B3.new w a p b q).call hb1
    obtain ⟨x0, x1, _, _⟩ := c2 h1.x
    obtain ⟨y0, y1, _, _⟩ := c2 h1.y
    have H1 := Lib.hid h1
    clear hb1 h1
    go_wp2_with fail
    (with_reducible refine (RTru_t _).mono ?_)
    rintro e w2 ⟨rfl, hb2⟩
    have h2 := H1.out.call hb2
    clear hb2 x0 x1 y0 y1
    obtain ⟨r0, r1, rf0, rf1⟩ := c2 h2.r
    have HF := Lib.hid (h2.fin (1) (1))
    clear h2
    go_wp2_with fail
    obtain ⟨hz, hbl⟩ := HF.out
    generalize ((w2.setCell ⟨w.heap.size + 1 + 1, 0, none⟩ (.int .i64 (1))).setCell ⟨w.heap.size + 1 + 1, 1, none⟩ (.int .i64 (1))) = W9 at hz hbl ⊢
    obtain ⟨z0, z1, _, _⟩ := c2 hz
    exact bodyPost_ret (v := .tuple #[.agg #[.int .i64 (1), .int .i64 (1)], .int .i64 (0)]) (by simp [results, Tryz.results41, go_sem, z0, z1]) rfl ⟨by rw [HE.out]; rfl, hbl⟩
set_option maxRecDepth 100000 in
set_option maxHeartbeats 2000000 in
theorem two_rnd (a p b q : Int) (hx : Ok a p) (w : World) : Calls Tryz.prog 41 #[.string ⟨#[114, 111, 117, 110, 100]⟩, .agg #[.int .i64 a, .int .i64 p], .agg #[.int .i64 b, .int .i64 q]] w fun e w' => e = .returned (res (rndF ⟨a, p, 0⟩ ⟨b, q, 0⟩)) ∧ Below w.heap.size w w' := by
  have HC := Lib.hid (RCompare_any a p b q)
  generalize cmp a p b q = c at HC
  by_cases hq : q = 1
  · subst hq
    have hF : rndF ⟨a, p, 0⟩ ⟨b, 1, 0⟩ = rnd a p b := if_pos rfl
    rw [hF]
    by_cases hk : 0 ≤ b ∧ b ≤ 9
    · obtain ⟨n, d, z, hR⟩ : ∃ n d z, rnd a p b = ⟨n, d, z⟩ := ⟨_, _, _, rfl⟩
      have HR := Lib.hid (RRound_any a p b)
      rw [hR] at HR ⊢
      have d1 : decide (b < 0) = false := by rw [decide_eq_false_iff_not]; omega
      have d2 : decide (b > 9) = false := by rw [decide_eq_false_iff_not]; omega
      clear hR hF hk
      go_enter Tryz.func41, Tryz.ntmps41
      go_wp2_with fail
      (with_reducible refine (HC.out _).mono ?_)
      rintro e w1 ⟨rfl, hb1⟩
      have h1 := (B3.new w a p b 1).call hb1
      obtain ⟨x0, x1, _, _⟩ := c2 h1.x
      obtain ⟨y0, y1, _, _⟩ := c2 h1.y
      have H1 := Lib.hid h1
      clear hb1 h1
      go_wp2_with fail
      (with_reducible refine (HR.out _).mono ?_)
      rintro e w2 ⟨rfl, hb2⟩
      have h2 := H1.out.call hb2
      clear hb2 x0 x1 y0 y1
      obtain ⟨r0, r1, rf0, rf1⟩ := c2 h2.r
      have HF := Lib.hid (h2.fin (n) (d))
      clear h2
      go_wp2_with fail
      obtain ⟨hz, hbl⟩ := HF.out
      generalize ((w2.setCell ⟨w.heap.size + 1 + 1, 0, none⟩ (.int .i64 (n))).setCell ⟨w.heap.size + 1 + 1, 1, none⟩ (.int .i64 (d))) = W9 at hz hbl ⊢
      obtain ⟨z0, z1, _, _⟩ := c2 hz
      exact bodyPost_ret (v := .tuple #[.agg #[.int .i64 (n), .int .i64 (d)], .int .i64 (z)]) (by simp [results, Tryz.results41, go_sem, z0, z1]) rfl ⟨rfl, hbl⟩
    · have HE : Hid (rnd a p b = ⟨0, 0, 2⟩) := Lib.hid (by unfold rnd; rw [okB_iff.2 hx]; simp only [if_true]; rw [if_neg hk])
      clear hF
      by_cases h0 : b < 0
      · have d1 : decide (b < 0) = true := decide_eq_true h0
        clear hk h0
        go_enter Tryz.func41, Tryz.ntmps41
        go_wp2_with fail
        (with_reducible refine (HC.out _).mono ?_)
        rintro e w1 ⟨rfl, hb1⟩
        have h1 := (B3.new w a p b 1).call hb1
        obtain ⟨x0, x1, _, _⟩ := c2 h1.x
        obtain ⟨y0, y1, _, _⟩ := c2 h1.y
        have H1 := Lib.hid h1
        clear hb1 h1
        have h2 := H1.out
        obtain ⟨r0, r1, rf0, rf1⟩ := c2 h2.r
        have HF := Lib.hid (h2.fin (0) (0))
        clear h2
        go_wp2_with fail
        obtain ⟨hz, hbl⟩ := HF.out
        generalize ((w1.setCell ⟨w.heap.size + 1 + 1, 0, none⟩ (.int .i64 (0))).setCell ⟨w.heap.size + 1 + 1, 1, none⟩ (.int .i64 (0))) = W9 at hz hbl ⊢
        obtain ⟨z0, z1, _, _⟩ := c2 hz
        exact bodyPost_ret (v := .tuple #[.agg #[.int .i64 (0), .int .i64 (0)], .int .i64 (2)]) (by simp [results, Tryz.results41, go_sem, z0, z1]) rfl ⟨by rw [HE.out]; rfl, hbl⟩
      · have d1 : decide (b < 0) = false := decide_eq_false h0
        have d2 : decide (b > 9) = true := by rw [decide_eq_true_iff]; omega
        clear hk h0
        go_enter Tryz.func41, Tryz.ntmps41
        go_wp2_with fail
        (with_reducible refine (HC.out _).mono ?_)
        rintro e w1 ⟨rfl, hb1⟩
        have h1 := (B3.new w a p b 1).call hb1
        obtain ⟨x0, x1, _, _⟩ := c2 h1.x
        obtain ⟨y0, y1, _, _⟩ := c2 h1.y
        have H1 := Lib.hid h1
        clear hb1 h1
        have h2 := H1.out
        obtain ⟨r0, r1, rf0, rf1⟩ := c2 h2.r
        have HF := Lib.hid (h2.fin (0) (0))
        clear h2
        go_wp2_with fail
        obtain ⟨hz, hbl⟩ := HF.out
        generalize ((w1.setCell ⟨w.heap.size + 1 + 1, 0, none⟩ (.int .i64 (0))).setCell ⟨w.heap.size + 1 + 1, 1, none⟩ (.int .i64 (0))) = W9 at hz hbl ⊢
        obtain ⟨z0, z1, _, _⟩ := c2 hz
        exact bodyPost_ret (v := .tuple #[.agg #[.int .i64 (0), .int .i64 (0)], .int .i64 (2)]) (by simp [results, Tryz.results41, go_sem, z0, z1]) rfl ⟨by rw [HE.out]; rfl, hbl⟩
  · have HE : Hid (rndF ⟨a, p, 0⟩ ⟨b, q, 0⟩ = ⟨0, 0, 2⟩) := Lib.hid (if_neg hq)
    have e1 : (q != 1) = true := by simpa using hq
    clear hq
    go_enter Tryz.func41, Tryz.ntmps41
    go_wp2_with fail
    (with_reducible refine (HC.out _).mono ?_)
    rintro e w1 ⟨rfl, hb1⟩
    have h1 := (B3.new w a p b q).call hb1
    obtain ⟨x0, x1, _, _⟩ := c2 h1.x
    obtain ⟨y0, y1, _, _⟩ := c2 h1.y
    have H1 := Lib.hid h1
    clear hb1 h1
    have h2 := H1.out
    obtain ⟨r0, r1, rf0, rf1⟩ := c2 h2.r
    have HF := Lib.hid (h2.fin (0) (0))
    clear h2
    go_wp2_with fail
    obtain ⟨hz, hbl⟩ := HF.out
    generalize ((w1.setCell ⟨w.heap.size + 1 + 1, 0, none⟩ (.int .i64 (0))).setCell ⟨w.heap.size + 1 + 1, 1, none⟩ (.int .i64 (0))) = W9 at hz hbl ⊢
    obtain ⟨z0, z1, _, _⟩ := c2 hz
    exact bodyPost_ret (v := .tuple #[.agg #[.int .i64 (0), .int .i64 (0)], .int .i64 (2)]) (by simp [results, Tryz.results41, go_sem, z0, z1]) rfl ⟨by rw [HE.out]; rfl, hbl⟩
end Go.Proofs.YtfocokjihbenmaaGreatDoor.Fo

namespace Go.Proofs.YtfocokjihbenmaaGreatDoor.Fo
open Go.RowKit Go.Proofs.YtfocokjihbenmaaGreatDoor.Nu
set_option linter.unusedVariables false
set_option linter.unusedSimpArgs false

theorem hp3y (w : World) (A B C : Obj) : (((w.alloc A).alloc B).alloc C).heap[w.heap.size + 1]? = some B := by
  rw [Below.heap_alloc _ _ _ (by simp)]
  have := nh (w.alloc A) B; rwa [World.size_alloc] at this
/-- What holds ahead of a round of power: the operands, the result, the product. -/
structure Ry (w wr : World) (pb : Nat) (b : Int) (a p n d : Int) : Prop where
  x : wr.heap[w.heap.size]? = some (nb a p)
  y : wr.heap[w.heap.size + 1]? = some (nb b 1)
  r : wr.heap[w.heap.size + 2]? = some (nb 0 0)
  g : wr.heap[pb]? = some (nb n d)
  bl : Below w.heap.size w wr
set_option maxRecDepth 100000 in
set_option maxHeartbeats 4000000 in
theorem power_any (a p b q : Int) (w : World) : Calls Tryz.prog 84 #[.agg #[.int .i64 a, .int .i64 p], .agg #[.int .i64 b, .int .i64 q]] w fun e w' => e = .returned (res (pwF ⟨a, p, 0⟩ ⟨b, q, 0⟩)) ∧ Below w.heap.size w w' := by
  by_cases hq : q = 1 ∧ 0 ≤ b ∧ b ≤ 30
  · obtain ⟨rfl, h0, h30⟩ := hq
    have e1 : pwF ⟨a, p, 0⟩ ⟨b, 1, 0⟩ = pwr ⟨a, p, 0⟩ b.toNat := if_pos ⟨rfl, h0, h30⟩
    rw [e1]
    clear e1
    obtain ⟨B, rfl⟩ : ∃ B : Nat, b = (B : Int) := ⟨b.toNat, by omega⟩
    rw [Int.toNat_natCast]
    have d1 : decide ((B : Int) < 0) = false := by rw [decide_eq_false_iff_not]; omega
    have d2 : decide ((B : Int) > 30) = false := by rw [decide_eq_false_iff_not]; omega
    have hB30 : B ≤ 30 := by omega
    clear h0 h30
    go_enter Tryz.func84, Tryz.ntmps84
    go_wp2_with fail
    refine (RTru_t _).mono ?_
    rintro e w1 ⟨rfl, hb⟩
    have hz1 := hb.size
    simp only [World.size_alloc] at hz1
    obtain ⟨hc, hf⟩ := bcell hb
    have J0 : Hid (∃ k : Nat, 0 = (k : Int) ∧ k ≤ B ∧ (pwr ⟨a, p, 0⟩ k).e = 0 ∧ Ry w (w1.alloc (nb 1 1)) w1.heap.size B a p (pwr ⟨a, p, 0⟩ k).n (pwr ⟨a, p, 0⟩ k).d) := Lib.hid ⟨0, rfl, Nat.zero_le _, rfl, (Below.heap_alloc _ _ _ (by omega)).trans ((hb.block _ (by simp; omega)).trans (hp3 w _ _ _).1), (Below.heap_alloc _ _ _ (by omega)).trans ((hb.block _ (by simp)).trans (hp3y w _ _ _)), (Below.heap_alloc _ _ _ (by omega)).trans ((hb.block _ (by simp)).trans (hp3 w _ _ _).2), nh _ _, (below3 hb).alloc (by omega) _⟩
    unfold nb at J0
    have hlt0 : w.heap.size < w1.heap.size := by omega
    have hlt1 : w.heap.size + 1 < w1.heap.size := by omega
    clear hb
    have HL := Lib.hid hlt0
    go_wp2_with fail
    clear hc hf
    go_loopw [7] (fun i wr => ∃ k : Nat, i = .int .i64 k ∧ k ≤ B ∧ Hid ((pwr ⟨a, p, 0⟩ k).e = 0 ∧ Ry w wr w1.heap.size B a p (pwr ⟨a, p, 0⟩ k).n (pwr ⟨a, p, 0⟩ k).d)) (fun i _ => B - (intOf i).toNat)
    case atStart =>
      obtain ⟨k, hk0, hk, h1, h2⟩ := J0.out
      have : k = 0 := by omega
      subst this
      exact ⟨0, rfl, hk, Lib.hid ⟨h1, h2⟩⟩
    case round =>
      obtain ⟨k, rfl, hk, hS⟩ := hrel
      clear J0
      obtain ⟨he, hz⟩ := hS.out
      clear hS
      obtain ⟨g0, g1, g2, g3⟩ := c2 hz.g
      obtain ⟨x0, x1, x2, x3⟩ := c2 hz.x
      obtain ⟨v0, v1, v2, v3⟩ := c2 hz.y
      obtain ⟨r0, r1, r2, r3⟩ := c2 hz.r
      have hgl := lt_heap3 hz.g
      by_cases hlt : k < B
      · have hd : decide ((k : Int) < (B : Int)) = true := by rw [decide_eq_true_iff]; omega
        have hs := pwr_succ ⟨a, p, 0⟩ k he
        have HE := Lib.hid he
        have HZ := Lib.hid hz
        generalize hN : (pwr ⟨a, p, 0⟩ k).n = n at *
        generalize hD : (pwr ⟨a, p, 0⟩ k).d = d at *
        have HS := Lib.hid hs
        clear he hz hs
        go_wp2_with fail
        refine (RMul_any n d a p _).mono ?_
        rintro e w2 ⟨rfl, hb2⟩
        have hz2 := hb2.size
        have kp : ∀ i, i < wr.heap.size → w2.heap[i]? = wr.heap[i]? := fun i hi => hb2.block i hi
        have hw12 : w1.heap.size < w2.heap.size := by omega
        have hw22 : w.heap.size + 1 + 1 < w2.heap.size := by have := lt_heap3 HZ.out.r; omega
        have HB2 := Lib.hid hb2
        have hg2 := (kp _ (lt_heap3 HZ.out.g)).trans HZ.out.g
        have hx2 := (kp _ (lt_heap3 HZ.out.x)).trans HZ.out.x
        have hr2 := (kp _ (lt_heap3 HZ.out.r)).trans HZ.out.r
        have hy2 := (kp _ (lt_heap3 HZ.out.y)).trans HZ.out.y
        have HY2 := Lib.hid hy2
        have HG2 := Lib.hid hg2; have HX2 := Lib.hid hx2; have HR2 := Lib.hid hr2
        obtain ⟨m0, m1, m2, m3⟩ := c2 hg2
        obtain ⟨n0, n1, n2, n3⟩ := c2 hr2
        clear hb2 kp hg2 hx2 hr2 hy2 g0 g1 g2 g3 x0 x1 x2 x3 r0 r1 r2 r3 v0 v1 v2 v3
        by_cases hm : (mul n d a p).e = 0
        · have HM := Lib.hid hm
          have hd2 : ((mul n d a p).e != 0) = false := by simpa using hm
          have hr : Hid (∀ W : World, W.heap.size = w2.heap.size + 1 → (∀ i, i < w2.heap.size → i ≠ w1.heap.size → W.heap[i]? = w2.heap[i]?) → W.heap[w1.heap.size]? = some (nb (mul n d a p).n (mul n d a p).d) → W.os = w2.os → W.tape = w2.tape → W.output = w2.output →
              (pwr ⟨a, p, 0⟩ (k + 1)).e = 0 ∧ Ry w W w1.heap.size B a p (pwr ⟨a, p, 0⟩ (k + 1)).n (pwr ⟨a, p, 0⟩ (k + 1)).d) := Lib.hid fun W q1 q2 q3 q4 q5 q6 => by
            have bl := HZ.out.bl.trans (HB2.out.mono HZ.out.bl.size)
            rw [HS.out]
            exact ⟨HM.out, (q2 _ (by omega) (by omega)).trans HX2.out, (q2 _ (by omega) (by omega)).trans HY2.out, (q2 _ (by omega) (by omega)).trans HR2.out, q3, ⟨q4.trans bl.os, q5.trans bl.tape, q6.trans bl.output, by rw [q1]; omega, fun i hi => (q2 i (by omega) (by omega)).trans (bl.block i hi)⟩⟩
          go_wp2_with fail
          go_roundw
          case rel =>
            refine ⟨k + 1, by simp, by omega, Lib.hid (hr.out _ (by simp [World.setCell]) (fun i hi hne => ?_) ?_ rfl rfl rfl)⟩
            · rw [Below.heap_alloc _ _ _ (by simp [World.setCell]; exact hi)]; exact s2_ne hne _ _
            · rw [Below.heap_alloc _ _ _ (by simp [World.setCell]; omega)]; exact s2 HG2.out _ _
          case measure => simp [intOf]; omega
        · have HM := Lib.hid (mul_err n d a p hm)
          have hd2 : ((mul n d a p).e != 0) = true := by simpa using hm
          have hstop : pwr ⟨a, p, 0⟩ B = ⟨0, 0, (mul n d a p).e⟩ := by
            have e2 : B = (k + 1) + (B - (k + 1)) := by omega
            rw [e2, pwr_stop ⟨a, p, 0⟩ (k + 1) (by rw [HS.out]; exact hm), HS.out]
            exact HM.out
          have HT := Lib.hid hstop
          clear hm hstop
          have bl := HZ.out.bl.trans (HB2.out.mono HZ.out.bl.size)
          have HBL := Lib.hid bl
          clear bl
          go_wp2_with fail
          exact bodyPost_ret (v := res ⟨0, 0, (mul n d a p).e⟩) (by simp [results, Tryz.results84, go_sem, hw22, n0, n1, res]) rfl ⟨by rw [HT.out], (two3 HBL.out _ _).alloc (by simp [World.setCell]; omega) _⟩
      · have ek : k = B := by omega
        subst ek
        have hd : decide ((k : Int) < (k : Int)) = false := by simp
        have HE := Lib.hid he
        have HZ := Lib.hid hz
        clear he hz
        go_wp2_with fail
        exact bodyPost_ret (v := .tuple #[.agg #[.int .i64 (pwr ⟨a, p, 0⟩ k).n, .int .i64 (pwr ⟨a, p, 0⟩ k).d], .int .i64 0]) (by simp [results, Tryz.results84, go_sem, r0, r1]) rfl ⟨by unfold res; rw [HE.out], two3 HZ.out.bl _ _⟩
  · have e1 : pwF ⟨a, p, 0⟩ ⟨b, q, 0⟩ = ⟨0, 0, 2⟩ := if_neg hq
    rw [e1]
    clear e1
    by_cases h1 : q = 1
    · subst h1
      by_cases h2 : b < 0
      · have d1 : decide (b < 0) = true := decide_eq_true h2
        clear hq
        go_enter Tryz.func84, Tryz.ntmps84
        go_wp2
        exact bodyPost_ret (v := res ⟨0, 0, 2⟩) (by simp [results, Tryz.results84, go_sem, res]) rfl ⟨rfl, (((Below.refl _ w).alloc (Nat.le_refl _) _).alloc (by simp) _).alloc (by simp; omega) _⟩
      · have d1 : decide (b < 0) = false := decide_eq_false h2
        have d2 : decide (b > 30) = true := by rw [decide_eq_true_iff]; omega
        clear hq h2
        go_enter Tryz.func84, Tryz.ntmps84
        go_wp2
        exact bodyPost_ret (v := res ⟨0, 0, 2⟩) (by simp [results, Tryz.results84, go_sem, res]) rfl ⟨rfl, (((Below.refl _ w).alloc (Nat.le_refl _) _).alloc (by simp) _).alloc (by simp; omega) _⟩
    · have hd : (q != 1) = true := by simpa using h1
      clear hq
      go_enter Tryz.func84, Tryz.ntmps84
      go_wp2
      exact bodyPost_ret (v := res ⟨0, 0, 2⟩) (by simp [results, Tryz.results84, go_sem, res]) rfl ⟨rfl, (((Below.refl _ w).alloc (Nat.le_refl _) _).alloc (by simp) _).alloc (by simp; omega) _⟩
end Go.Proofs.YtfocokjihbenmaaGreatDoor.Fo

namespace Go.Proofs.YtfocokjihbenmaaGreatDoor.Fo
open Go.RowKit Go.Proofs.YtfocokjihbenmaaGreatDoor.Nu
set_option linter.unusedVariables false
set_option linter.unusedSimpArgs false

/-- The operand's box and the result's. -/
structure B2 (w W : World) (a p : Int) : Prop where
  x : W.heap[w.heap.size]? = some (nb a p)
  r : W.heap[w.heap.size + 1]? = some (nb 0 0)
  bl : Below w.heap.size w W
theorem B2.new (w : World) (a p : Int) : B2 w ((w.alloc (nb a p)).alloc (nb 0 0)) a p := by
  refine ⟨?_, ?_, ((Below.refl _ w).alloc (Nat.le_refl _) _).alloc (by simp) _⟩
  · rw [Below.heap_alloc _ _ _ (by simp)]; exact nh _ _
  · have := nh (w.alloc (nb a p)) (nb 0 0); rwa [World.size_alloc] at this
theorem B2.drew {w W : World} {a p : Int} (h : B2 w W a p) : B2 w W.drew a p := ⟨h.x, h.r, Below.drew h.bl⟩
theorem B2.call {w W W' : World} {a p : Int} (hb : Below W.heap.size W W') (h : B2 w W a p) : B2 w W' a p :=
  ⟨(hb.block _ (lt_heap3 h.x)).trans h.x, (hb.block _ (lt_heap3 h.r)).trans h.r, h.bl.trans (hb.mono h.bl.size)⟩
theorem B2.fin {w W : World} {a p : Int} (h : B2 w W a p) (n d : Int) : ((W.setCell ⟨w.heap.size + 1, 0, none⟩ (.int .i64 n)).setCell ⟨w.heap.size + 1, 1, none⟩ (.int .i64 d)).heap[w.heap.size + 1]? = some (nb n d) ∧
    Below w.heap.size w ((W.setCell ⟨w.heap.size + 1, 0, none⟩ (.int .i64 n)).setCell ⟨w.heap.size + 1, 1, none⟩ (.int .i64 d)) :=
  ⟨s2 h.r n d, (h.bl.setCell (p := ⟨w.heap.size + 1, 0, none⟩) (by show _ ≤ w.heap.size + 1; omega) _).setCell (p := ⟨w.heap.size + 1, 1, none⟩) (by show _ ≤ w.heap.size + 1; omega) _⟩
set_option maxRecDepth 100000 in
set_option maxHeartbeats 2000000 in
theorem one_not (a p : Int) (w : World) : Calls Tryz.prog 40 #[.string ⟨#[110, 111, 116]⟩, .agg #[.int .i64 a, .int .i64 p]] w fun e w' => e = .returned (res (tr (decide (a = 0)))) ∧ Below w.heap.size w w' := by
  by_cases ha : a = 0
  · have e1 : (a == 0) = true := by simpa using ha
    have HE : Hid (tr (decide (a = 0)) = ⟨1, 1, 0⟩) := Lib.hid (by simp [ha, tr])
    clear ha
    go_enter Tryz.func40, Tryz.ntmps40
    go_wp2_with fail
    (with_reducible refine (RTru_t _).mono ?_)
    rintro e w2 ⟨rfl, hb2⟩
    have h2 := (B2.new w a p).call hb2
    obtain ⟨r0, r1, rf0, rf1⟩ := c2 h2.r
    have HF := Lib.hid (h2.fin (1) (1))
    clear h2
    go_wp2_with fail
    obtain ⟨hz, hbl⟩ := HF.out
    generalize ((w2.setCell ⟨w.heap.size + 1, 0, none⟩ (.int .i64 (1))).setCell ⟨w.heap.size + 1, 1, none⟩ (.int .i64 (1))) = W9 at hz hbl ⊢
    obtain ⟨z0, z1, _, _⟩ := c2 hz
    exact bodyPost_ret (v := .tuple #[.agg #[.int .i64 (1), .int .i64 (1)], .int .i64 (0)]) (by simp [results, Tryz.results40, go_sem, z0, z1]) rfl ⟨by rw [HE.out]; rfl, hbl⟩
  · have e1 : (a == 0) = false := by simpa using ha
    have HE : Hid (tr (decide (a = 0)) = ⟨0, 1, 0⟩) := Lib.hid (by simp [ha, tr])
    clear ha
    go_enter Tryz.func40, Tryz.ntmps40
    go_wp2_with fail
    (with_reducible refine (RTru_f _).mono ?_)
    rintro e w2 ⟨rfl, hb2⟩
    have h2 := (B2.new w a p).call hb2
    obtain ⟨r0, r1, rf0, rf1⟩ := c2 h2.r
    have HF := Lib.hid (h2.fin (0) (1))
    clear h2
    go_wp2_with fail
    obtain ⟨hz, hbl⟩ := HF.out
    generalize ((w2.setCell ⟨w.heap.size + 1, 0, none⟩ (.int .i64 (0))).setCell ⟨w.heap.size + 1, 1, none⟩ (.int .i64 (1))) = W9 at hz hbl ⊢
    obtain ⟨z0, z1, _, _⟩ := c2 hz
    exact bodyPost_ret (v := .tuple #[.agg #[.int .i64 (0), .int .i64 (1)], .int .i64 (0)]) (by simp [results, Tryz.results40, go_sem, z0, z1]) rfl ⟨by rw [HE.out]; rfl, hbl⟩
set_option maxRecDepth 100000 in
set_option maxHeartbeats 2000000 in
theorem one_floor (a p : Int) (hx : Ok a p) (w : World) : Calls Tryz.prog 40 #[.string ⟨#[102, 108, 111, 111, 114]⟩, .agg #[.int .i64 a, .int .i64 p]] w fun e w' => e = .returned (res (⟨flr a p, 1, 0⟩)) ∧ Below w.heap.size w w' := by
  have hz : flE a p = 0 := by unfold flE; rw [okB_iff.2 hx]; rfl
  have HR := Lib.hid (RFloor_any a p)
  rw [hz] at HR
  generalize flr a p = k at HR ⊢
  clear hz hx
  go_enter Tryz.func40, Tryz.ntmps40
  go_wp2_with fail
  (with_reducible refine (HR.out _).mono ?_)
  rintro e w2 ⟨rfl, hb2⟩
  have h2 := (B2.new w a p).call hb2
  obtain ⟨r0, r1, rf0, rf1⟩ := c2 h2.r
  have HF := Lib.hid (h2.fin (k) (1))
  clear h2
  go_wp2_with fail
  obtain ⟨hz, hbl⟩ := HF.out
  generalize ((w2.setCell ⟨w.heap.size + 1, 0, none⟩ (.int .i64 (k))).setCell ⟨w.heap.size + 1, 1, none⟩ (.int .i64 (1))) = W9 at hz hbl ⊢
  obtain ⟨z0, z1, _, _⟩ := c2 hz
  exact bodyPost_ret (v := .tuple #[.agg #[.int .i64 (k), .int .i64 (1)], .int .i64 (0)]) (by simp [results, Tryz.results40, go_sem, z0, z1]) rfl ⟨rfl, hbl⟩
set_option maxRecDepth 100000 in
set_option maxHeartbeats 2000000 in
theorem one_plus (a p : Int) (w : World) : Calls Tryz.prog 40 #[.string ⟨#[43]⟩, .agg #[.int .i64 a, .int .i64 p]] w fun e w' => e = .returned (res (⟨a, p, 0⟩)) ∧ Below w.heap.size w w' := by
  go_enter Tryz.func40, Tryz.ntmps40
  go_wp2
  exact bodyPost_ret (v := .tuple #[.agg #[.int .i64 a, .int .i64 p], .int .i64 0]) (by simp [results, Tryz.results40, go_sem]) rfl ⟨rfl, ((Below.refl _ w).alloc (Nat.le_refl _) _).alloc (by simp) _⟩
set_option maxRecDepth 100000 in
set_option maxHeartbeats 2000000 in
theorem one_par (a p : Int) (w : World) : Calls Tryz.prog 40 #[.string ⟨#[40]⟩, .agg #[.int .i64 a, .int .i64 p]] w fun e w' => e = .returned (res (⟨a, p, 0⟩)) ∧ Below w.heap.size w w' := by
  go_enter Tryz.func40, Tryz.ntmps40
  go_wp2
  exact bodyPost_ret (v := .tuple #[.agg #[.int .i64 a, .int .i64 p], .int .i64 0]) (by simp [results, Tryz.results40, go_sem]) rfl ⟨rfl, ((Below.refl _ w).alloc (Nat.le_refl _) _).alloc (by simp) _⟩
set_option maxRecDepth 100000 in
set_option maxHeartbeats 2000000 in
theorem one_neg (a p : Int) (w : World) : Calls Tryz.prog 40 #[.string ⟨#[45]⟩, .agg #[.int .i64 a, .int .i64 p]] w fun e w' => e = .returned (res (sub 0 1 a p)) ∧ Below w.heap.size w w' := by
  obtain ⟨n, d, z, hR⟩ : ∃ n d z, sub 0 1 a p = ⟨n, d, z⟩ := ⟨_, _, _, rfl⟩
  have HR := Lib.hid (RSub_any 0 1 a p)
  rw [hR] at HR ⊢
  clear hR
  have HT := Lib.hid RTru_f
  go_enter Tryz.func40, Tryz.ntmps40
  go_wp2_with fail
  go_region_with (first
    | (go_at_call 18; (with_reducible refine (HT.out _).mono ?_); rintro e w1 ⟨rfl, hb1⟩
       have h1 := (B2.new w a p).drew.call hb1
       obtain ⟨x0, x1, _, _⟩ := c2 h1.x)
    | (go_at_call 14; (with_reducible refine (HR.out _).mono ?_); rintro e w2 ⟨rfl, hb2⟩
       have h2 := h1.call hb2
       obtain ⟨r0, r1, rf0, rf1⟩ := c2 h2.r))
  all_goals
    have HF := Lib.hid (h2.fin n d)
    clear h2 h1 hb1 hb2
    go_wp2_with fail
    obtain ⟨hz, hbl⟩ := HF.out
    generalize ((w2.setCell ⟨w.heap.size + 1, 0, none⟩ (.int .i64 n)).setCell ⟨w.heap.size + 1, 1, none⟩ (.int .i64 d)) = W9 at hz hbl ⊢
    obtain ⟨z0, z1, _, _⟩ := c2 hz
    exact bodyPost_ret (v := .tuple #[.agg #[.int .i64 n, .int .i64 d], .int .i64 z]) (by simp [results, Tryz.results40, go_sem, z0, z1]) rfl ⟨rfl, hbl⟩
theorem one_any (o : Tok) (ho : o ∈ uns ∨ o = [40]) (a p : Int) (hx : Ok a p) (w : World) : Calls Tryz.prog 40 #[sv o, .agg #[.int .i64 a, .int .i64 p]] w fun e w' => e = .returned (res (ap1 o ⟨a, p, 0⟩)) ∧ Below w.heap.size w w' := by
  have h : o = [45] ∨ o = [43] ∨ o = [110, 111, 116] ∨ o = [102, 108, 111, 111, 114] ∨ o = [40] := by
    rcases ho with h | h
    · simp only [uns, List.mem_cons, List.not_mem_nil, or_false] at h
      rcases h with h | h | h | h
      · exact .inl h
      · exact .inr (.inl h)
      · exact .inr (.inr (.inl h))
      · exact .inr (.inr (.inr (.inl h)))
    · exact .inr (.inr (.inr (.inr h)))
  rcases h with rfl | rfl | rfl | rfl | rfl
  · exact one_neg a p w
  · exact one_plus a p w
  · exact one_not a p w
  · exact one_floor a p hx w
  · exact one_par a p w
set_option maxRecDepth 100000 in
set_option maxHeartbeats 2000000 in
theorem two_pow (a p b q : Int) (w : World) : Calls Tryz.prog 41 #[.string ⟨#[94]⟩, .agg #[.int .i64 a, .int .i64 p], .agg #[.int .i64 b, .int .i64 q]] w fun e w' => e = .returned (res (pwF ⟨a, p, 0⟩ ⟨b, q, 0⟩)) ∧ Below w.heap.size w w' := by
  obtain ⟨n, d, z, hR⟩ : ∃ n d z, pwF ⟨a, p, 0⟩ ⟨b, q, 0⟩ = ⟨n, d, z⟩ := ⟨_, _, _, rfl⟩
  have HR := Lib.hid (power_any a p b q)
  rw [hR] at HR ⊢
  unfold res at HR
  clear hR
  have HC := Lib.hid (RCompare_any a p b q)
  generalize cmp a p b q = c at HC
  go_enter Tryz.func41, Tryz.ntmps41
  go_wp2_with fail
  (with_reducible refine (HC.out _).mono ?_)
  rintro e w1 ⟨rfl, hb1⟩
  have h1 := (B3.new w a p b q).call hb1
  obtain ⟨x0, x1, _, _⟩ := c2 h1.x
  obtain ⟨y0, y1, _, _⟩ := c2 h1.y
  have H1 := Lib.hid h1
  clear hb1 h1
  go_wp2_with fail
  (with_reducible refine (HR.out _).mono ?_)
  rintro e w2 ⟨rfl, hb2⟩
  have h2 := H1.out.call hb2
  clear hb2 x0 x1 y0 y1
  obtain ⟨r0, r1, rf0, rf1⟩ := c2 h2.r
  have HF := Lib.hid (h2.fin n d)
  clear h2
  go_wp2_with fail
  obtain ⟨hz, hbl⟩ := HF.out
  generalize ((w2.setCell ⟨w.heap.size + 1 + 1, 0, none⟩ (.int .i64 n)).setCell ⟨w.heap.size + 1 + 1, 1, none⟩ (.int .i64 d)) = W9 at hz hbl ⊢
  obtain ⟨z0, z1, _, _⟩ := c2 hz
  exact bodyPost_ret (v := .tuple #[.agg #[.int .i64 n, .int .i64 d], .int .i64 z]) (by simp [results, Tryz.results41, go_sem, z0, z1]) rfl ⟨rfl, hbl⟩
theorem two_any (o : Tok) (ho : o ∈ allB) (a p b q : Int) (hx : Ok a p) (w : World) : Calls Tryz.prog 41 #[sv o, .agg #[.int .i64 a, .int .i64 p], .agg #[.int .i64 b, .int .i64 q]] w fun e w' => e = .returned (res (ap2 o ⟨a, p, 0⟩ ⟨b, q, 0⟩)) ∧ Below w.heap.size w w' := by
  simp only [allB, List.mem_cons, List.not_mem_nil, or_false] at ho
  rcases ho with rfl | rfl | rfl | rfl | rfl | rfl | rfl | rfl | rfl | rfl | rfl | rfl | rfl | rfl | rfl
  · exact two_add a p b q w
  · exact two_sub a p b q w
  · exact two_mul a p b q w
  · exact two_div a p b q w
  · exact two_mod a p b q w
  · exact two_rnd a p b q hx w
  · exact two_pow a p b q w
  · exact two_and a p b q w
  · exact two_or a p b q w
  · exact two_eq a p b q w
  · exact two_ne a p b q w
  · exact two_lt a p b q w
  · exact two_gt a p b q w
  · exact two_le a p b q w
  · exact two_ge a p b q w
end Go.Proofs.YtfocokjihbenmaaGreatDoor.Fo

namespace Go.Proofs.YtfocokjihbenmaaGreatDoor.Fo
open Go.RowKit Go.Proofs.YtfocokjihbenmaaGreatDoor.Nu
set_option linter.unusedVariables false
set_option linter.unusedSimpArgs false

theorem allB_ne : ∀ o ∈ allB, o ≠ [] := by decide
theorem uns_ne : ∀ o ∈ uns, o ≠ [] := by decide
/-- The node's box and the result's. -/
structure V2 (w W : World) (a b c : Value) : Prop where
  x : W.heap[w.heap.size]? = some (.cells #[a, b, c] 50)
  r : W.heap[w.heap.size + 1]? = some (nb 0 0)
  bl : Below w.heap.size w W
theorem V2.new (w : World) (a b c : Value) : V2 w ((w.alloc (bx a b c)).alloc (nb 0 0)) a b c := by
  refine ⟨?_, ?_, ((Below.refl _ w).alloc (Nat.le_refl _) _).alloc (by simp) _⟩
  · rw [Below.heap_alloc _ _ _ (by simp)]; exact nh _ _
  · have := nh (w.alloc (bx a b c)) (nb 0 0); rwa [World.size_alloc] at this
theorem V2.call {w W W' : World} {a b c : Value} (hb : Below W.heap.size W W') (h : V2 w W a b c) : V2 w W' a b c :=
  ⟨(hb.block _ (lt_heap h.x)).trans h.x, (hb.block _ (lt_heap3 h.r)).trans h.r, h.bl.trans (hb.mono h.bl.size)⟩
theorem V2.alloc {w W : World} {a b c : Value} (h : V2 w W a b c) (o : Obj) : V2 w (W.alloc o) a b c := h.call ((Below.refl _ W).alloc (Nat.le_refl _) o)
theorem V2.fin {w W : World} {a b c : Value} (h : V2 w W a b c) (n d : Int) : ((W.setCell ⟨w.heap.size + 1, 0, none⟩ (.int .i64 n)).setCell ⟨w.heap.size + 1, 1, none⟩ (.int .i64 d)).heap[w.heap.size + 1]? = some (nb n d) ∧
    Below w.heap.size w ((W.setCell ⟨w.heap.size + 1, 0, none⟩ (.int .i64 n)).setCell ⟨w.heap.size + 1, 1, none⟩ (.int .i64 d)) :=
  ⟨s2 h.r n d, (h.bl.setCell (p := ⟨w.heap.size + 1, 0, none⟩) (by show _ ≤ w.heap.size + 1; omega) _).setCell (p := ⟨w.heap.size + 1, 1, none⟩) (by show _ ≤ w.heap.size + 1; omega) _⟩
set_option maxRecDepth 100000 in
set_option maxHeartbeats 4000000 in
theorem Value_num (s : Tok) (hs : s.length ≤ 19) (w : World) : Calls Tryz.prog 24 #[.agg #[.string ⟨#[]⟩, sv s, .slice none 0 0]] w fun e w' => e = .returned (res (val (.num s))) ∧ Below w.heap.size w w' := by
  obtain ⟨n, d, z, hR⟩ : ∃ n d z, val (.num s) = ⟨n, d, z⟩ := ⟨_, _, _, rfl⟩
  have HR := Lib.hid (fun w => RParse_any ⟨s.toArray⟩ w (by show s.toArray.size ≤ 100; simp; omega))
  rw [show parse ((⟨s.toArray⟩ : ByteArray).data.toList) = ⟨n, d, z⟩ by rw [show ((⟨s.toArray⟩ : ByteArray).data.toList) = s by simp]; exact hR] at HR
  rw [hR]
  clear hR
  unfold sv
  go_enter Tryz.func24, Tryz.ntmps24
  go_wp2_with fail
  (with_reducible refine (HR.out _).mono ?_)
  rintro e w2 ⟨rfl, hb2⟩
  have h2 := (V2.new w (.string ⟨#[]⟩) (.string ⟨s.toArray⟩) (.slice none 0 0)).call hb2
  obtain ⟨r0, r1, rf0, rf1⟩ := c2 h2.r
  have HF := Lib.hid (h2.fin n d)
  clear h2 hb2
  go_wp2_with fail
  obtain ⟨hz, hbl⟩ := HF.out
  generalize ((w2.setCell ⟨w.heap.size + 1, 0, none⟩ (.int .i64 n)).setCell ⟨w.heap.size + 1, 1, none⟩ (.int .i64 d)) = W9 at hz hbl ⊢
  obtain ⟨z0, z1, _, _⟩ := c2 hz
  exact bodyPost_ret (v := .tuple #[.agg #[.int .i64 n, .int .i64 d], .int .i64 z]) (by simp [results, Tryz.results24, go_sem, z0, z1]) rfl ⟨rfl, hbl⟩
set_option maxRecDepth 100000 in
set_option maxHeartbeats 4000000 in
theorem Value_un (o : Tok) (ho : o ∈ uns ∨ o = [40]) (g : Nat) (a b c : Value) (t : TypeId) (rx : R3) (hok : rx.e = 0 → Ok rx.n rx.d) (w : World) (hc : w.heap[g]? = some (.cells #[a, b, c] t))
    (IH : ∀ W, Below w.heap.size w W → Calls Tryz.prog 24 #[.agg #[a, b, c]] W fun e w' => e = .returned (res rx) ∧ Below W.heap.size W w') :
    Calls Tryz.prog 24 #[.agg #[sv o, .string ⟨#[]⟩, .slice (some ⟨g, 0, none⟩) 1 1]] w fun e w' => e = .returned (res (if rx.e = 0 then ap1 o rx else ⟨0, 0, rx.e⟩)) ∧ Below w.heap.size w w' := by
  obtain ⟨n, d, z⟩ := rx
  have hne : o ≠ [] := by rcases ho with h | h; exact uns_ne o h; rw [h]; decide
  have q1 : o.isEmpty = false := by cases o; exact absurd rfl hne; rfl
  have q2 : (o == []) = false := beq_eq_false_iff_ne.2 hne
  obtain ⟨x0, x1, x2, xl⟩ := r3 hc
  have hV := V2.new w (sv o) (.string ⟨#[]⟩) (.slice (some ⟨g, 0, none⟩) 1 1)
  have HI := Lib.hid (IH _ hV.bl)
  have HV := Lib.hid hV
  clear hc hV IH hne
  unfold res nb at HI
  unfold sv at HI HV ⊢
  by_cases hz0 : z = 0
  · subst hz0
    have HO := Lib.hid (one_any o ho n d (hok rfl))
    obtain ⟨n2, d2, z2, hR⟩ : ∃ n2 d2 z2, ap1 o ⟨n, d, 0⟩ = ⟨n2, d2, z2⟩ := ⟨_, _, _, rfl⟩
    rw [hR] at HO
    have HE : Hid ((if (⟨n, d, 0⟩ : R3).e = 0 then ap1 o ⟨n, d, 0⟩ else ⟨0, 0, (⟨n, d, 0⟩ : R3).e⟩) = ⟨n2, d2, z2⟩) := Lib.hid (by rw [if_pos rfl, hR])
    rw [HE.out]
    unfold res at HO
    unfold sv at HO
    clear hR hok ho
    go_enter Tryz.func24, Tryz.ntmps24
    go_wp2_with fail
    (with_reducible refine HI.out.mono ?_)
    rintro e w1 ⟨rfl, hb1⟩
    have h1 := HV.out.call hb1
    obtain ⟨y0, y1, y2, yl⟩ := r3 h1.x
    have hl1 := lt_heap3 h1.r
    have H1 := Lib.hid h1
    clear hb1 h1
    go_wp2_with fail
    (with_reducible refine (HO.out _).mono ?_)
    rintro e w2 ⟨rfl, hb2⟩
    have h2 := (H1.out.alloc (nb n d)).call hb2
    clear hb2 y0 y1 y2 yl
    obtain ⟨r0, r1, rf0, rf1⟩ := c2 h2.r
    have HF := Lib.hid (h2.fin n2 d2)
    clear h2
    go_wp2_with fail
    obtain ⟨hz, hbl⟩ := HF.out
    generalize ((w2.setCell ⟨w.heap.size + 1, 0, none⟩ (.int .i64 n2)).setCell ⟨w.heap.size + 1, 1, none⟩ (.int .i64 d2)) = W9 at hz hbl ⊢
    obtain ⟨z0, z1, _, _⟩ := c2 hz
    exact bodyPost_ret (v := .tuple #[.agg #[.int .i64 n2, .int .i64 d2], .int .i64 z2]) (by simp [results, Tryz.results24, go_sem, z0, z1]) rfl ⟨rfl, hbl⟩
  · have e1 : (z != 0) = true := by simpa using hz0
    have HE : Hid ((if (⟨n, d, z⟩ : R3).e = 0 then ap1 o ⟨n, d, z⟩ else ⟨0, 0, (⟨n, d, z⟩ : R3).e⟩) = ⟨0, 0, z⟩) := Lib.hid (if_neg hz0)
    rw [HE.out]
    clear hz0 hok ho
    go_enter Tryz.func24, Tryz.ntmps24
    go_wp2_with fail
    (with_reducible refine HI.out.mono ?_)
    rintro e w1 ⟨rfl, hb1⟩
    have h1 := HV.out.call hb1
    have hl1 := lt_heap3 h1.r
    obtain ⟨r0, r1, rf0, rf1⟩ := c2 h1.r
    have hF := (h1.alloc (nb n d)).fin 0 0
    rw [World.setCell_alloc_past _ _ _ _ hl1, World.setCell_alloc_past _ _ _ _ (by simpa [World.setCell] using hl1)] at hF
    have HF := Lib.hid hF
    clear hb1 h1 hF
    go_wp2_with fail
    obtain ⟨hz, hbl⟩ := HF.out
    unfold nb at hz hbl
    generalize ((w1.setCell ⟨w.heap.size + 1, 0, none⟩ (.int .i64 0)).setCell ⟨w.heap.size + 1, 1, none⟩ (.int .i64 0)).alloc (.cells #[.int .i64 n, .int .i64 d] 24) = W9 at hz hbl ⊢
    obtain ⟨z0, z1, _, _⟩ := c2 (n := 0) (d := 0) hz
    exact bodyPost_ret (v := .tuple #[.agg #[.int .i64 0, .int .i64 0], .int .i64 z]) (by simp [results, Tryz.results24, go_sem, z0, z1]) rfl ⟨rfl, hbl⟩
set_option maxRecDepth 100000 in
set_option maxHeartbeats 4000000 in
theorem Value_bin (o : Tok) (ho : o ∈ allB) (g : Nat) (a b c a' b' c' : Value) (t : TypeId) (rx ry : R3) (hok : rx.e = 0 → Ok rx.n rx.d) (w : World) (hc : w.heap[g]? = some (.cells #[a, b, c, a', b', c'] t))
    (IH : ∀ W, Below w.heap.size w W → Calls Tryz.prog 24 #[.agg #[a, b, c]] W fun e w' => e = .returned (res rx) ∧ Below W.heap.size W w')
    (IH2 : ∀ W, Below w.heap.size w W → Calls Tryz.prog 24 #[.agg #[a', b', c']] W fun e w' => e = .returned (res ry) ∧ Below W.heap.size W w') :
    Calls Tryz.prog 24 #[.agg #[sv o, .string ⟨#[]⟩, .slice (some ⟨g, 0, none⟩) 2 2]] w fun e w' => e = .returned (res (if rx.e = 0 then (if ry.e = 0 then ap2 o rx ry else ⟨0, 0, ry.e⟩) else ⟨0, 0, rx.e⟩)) ∧ Below w.heap.size w w' := by
  obtain ⟨n, d, z⟩ := rx
  obtain ⟨m, k, y⟩ := ry
  obtain ⟨RR, hRR⟩ : ∃ RR, (if (⟨n, d, z⟩ : R3).e = 0 then (if (⟨m, k, y⟩ : R3).e = 0 then ap2 o ⟨n, d, z⟩ ⟨m, k, y⟩ else ⟨0, 0, (⟨m, k, y⟩ : R3).e⟩) else ⟨0, 0, (⟨n, d, z⟩ : R3).e⟩) = RR := ⟨_, rfl⟩
  rw [hRR]
  have HRR := Lib.hid hRR
  have HOK := Lib.hid hok
  clear hRR hok
  have hne : o ≠ [] := allB_ne o ho
  have q1 : o.isEmpty = false := by cases o; exact absurd rfl hne; rfl
  have q2 : (o == []) = false := beq_eq_false_iff_ne.2 hne
  obtain ⟨x0, x1, x2, x3, x4, x5, xl⟩ := r6 hc
  have hV := V2.new w (sv o) (.string ⟨#[]⟩) (.slice (some ⟨g, 0, none⟩) 2 2)
  have HI := Lib.hid (IH _ hV.bl)
  have HV := Lib.hid hV
  have HJ := Lib.hid IH2
  have HC := Lib.hid (And.intro x3 (And.intro x4 x5))
  have hgl := xl
  clear hc hV IH IH2 hne
  unfold res nb at HI
  unfold res at HJ
  unfold sv at HI HV ⊢
  by_cases hz0 : z = 0
  · subst hz0
    have hok0 : Hid (Ok n d) := Lib.hid (HOK.out rfl)
    have HE1 : Hid (¬ y = 0 → RR = ⟨0, 0, y⟩) := Lib.hid fun hy => by rw [← HRR.out, if_pos rfl, if_neg hy]
    have HE0 : Hid (y = 0 → ap2 o ⟨n, d, 0⟩ ⟨m, k, 0⟩ = RR) := Lib.hid fun hy => by subst hy; rw [← HRR.out, if_pos rfl, if_pos rfl]
    clear HRR HOK
    go_enter Tryz.func24, Tryz.ntmps24
    go_wp2_with fail
    (with_reducible refine HI.out.mono ?_)
    rintro e w1 ⟨rfl, hb1⟩
    have h1 := HV.out.call hb1
    obtain ⟨y0, y1, y2, yl⟩ := r3 h1.x
    have hl1 := lt_heap3 h1.r
    have hz1 := h1.bl.size
    have hgl1 : g < w1.heap.size := Nat.lt_of_lt_of_le hgl hz1
    have k3 : w1.cell? ⟨g, 3, none⟩ = some a' := (h1.bl.cell (p := ⟨g, 3, none⟩) hgl).trans HC.out.1
    have k4 : w1.cell? ⟨g, 4, none⟩ = some b' := (h1.bl.cell (p := ⟨g, 4, none⟩) hgl).trans HC.out.2.1
    have k5 : w1.cell? ⟨g, 5, none⟩ = some c' := (h1.bl.cell (p := ⟨g, 5, none⟩) hgl).trans HC.out.2.2
    have hA := h1.alloc (nb n d)
    have HJ1 := Lib.hid (HJ.out _ hA.bl)
    have HA := Lib.hid hA
    unfold nb at HJ1
    clear hb1 h1 hA x0 x1 x2 x3 x4 x5
    go_wp2_with fail
    (with_reducible refine HJ1.out.mono ?_)
    rintro e w2 ⟨rfl, hb2⟩
    have h2 := HA.out.call hb2
    have p4 : w2.heap[w1.heap.size]? = some (nb n d) := (hb2.block _ (by simp)).trans (nh w1 (nb n d))
    obtain ⟨u0, u1, _, _⟩ := c2 p4
    have hl4 := lt_heap3 p4
    have hl2 := lt_heap3 h2.r
    by_cases hy0 : y = 0
    · subst hy0
      have HO := Lib.hid (two_any o ho n d m k hok0.out)
      obtain ⟨n2, d2, z2, hR⟩ : ∃ n2 d2 z2, ap2 o ⟨n, d, 0⟩ ⟨m, k, 0⟩ = ⟨n2, d2, z2⟩ := ⟨_, _, _, rfl⟩
      rw [hR] at HO
      have HE : Hid (RR = ⟨n2, d2, z2⟩) := Lib.hid ((HE0.out rfl).symm.trans hR)
      clear HE0 HE1
      unfold res sv at HO
      obtain ⟨v0, v1, v2, vl⟩ := r3 h2.x
      have H2 := Lib.hid h2
      clear hR ho hb2 h2 p4 y0 y1 y2 yl k3 k4 k5
      go_wp2_with fail
      (with_reducible refine (HO.out _).mono ?_)
      rintro e w3 ⟨rfl, hb3⟩
      have h3 := (H2.out.alloc (nb m k)).call hb3
      clear hb3 v0 v1 v2 vl u0 u1
      obtain ⟨r0, r1, rf0, rf1⟩ := c2 h3.r
      have HF := Lib.hid (h3.fin n2 d2)
      clear h3
      go_wp2_with fail
      obtain ⟨hz, hbl⟩ := HF.out
      generalize ((w3.setCell ⟨w.heap.size + 1, 0, none⟩ (.int .i64 n2)).setCell ⟨w.heap.size + 1, 1, none⟩ (.int .i64 d2)) = W9 at hz hbl ⊢
      obtain ⟨z0, z1, _, _⟩ := c2 hz
      exact bodyPost_ret (v := .tuple #[.agg #[.int .i64 n2, .int .i64 d2], .int .i64 z2]) (by simp [results, Tryz.results24, go_sem, z0, z1]) rfl ⟨by rw [HE.out]; rfl, hbl⟩
    · have e1 : (y != 0) = true := by simpa using hy0
      have HE : Hid (RR = ⟨0, 0, y⟩) := Lib.hid (HE1.out hy0)
      clear HE0 HE1
      obtain ⟨r0, r1, rf0, rf1⟩ := c2 h2.r
      have hF := (h2.alloc (nb m k)).fin 0 0
      rw [World.setCell_alloc_past _ _ _ _ hl2, World.setCell_alloc_past _ _ _ _ (by simpa [World.setCell] using hl2)] at hF
      have HF := Lib.hid hF
      clear hb2 h2 p4 hF hy0 ho y0 y1 y2 yl k3 k4 k5 u0 u1
      go_wp2_with fail
      obtain ⟨hz, hbl⟩ := HF.out
      unfold nb at hz hbl
      generalize ((w2.setCell ⟨w.heap.size + 1, 0, none⟩ (.int .i64 0)).setCell ⟨w.heap.size + 1, 1, none⟩ (.int .i64 0)).alloc (.cells #[.int .i64 m, .int .i64 k] 24) = W9 at hz hbl ⊢
      obtain ⟨z0, z1, _, _⟩ := c2 (n := 0) (d := 0) hz
      exact bodyPost_ret (v := .tuple #[.agg #[.int .i64 0, .int .i64 0], .int .i64 y]) (by simp [results, Tryz.results24, go_sem, z0, z1]) rfl ⟨by rw [HE.out]; rfl, hbl⟩
  · have e1 : (z != 0) = true := by simpa using hz0
    have HE : Hid (RR = ⟨0, 0, z⟩) := Lib.hid (HRR.out.symm.trans (if_neg hz0))
    rw [HE.out]
    clear hz0 ho
    go_enter Tryz.func24, Tryz.ntmps24
    go_wp2_with fail
    (with_reducible refine HI.out.mono ?_)
    rintro e w1 ⟨rfl, hb1⟩
    have h1 := HV.out.call hb1
    have hl1 := lt_heap3 h1.r
    obtain ⟨r0, r1, rf0, rf1⟩ := c2 h1.r
    have hF := (h1.alloc (nb n d)).fin 0 0
    rw [World.setCell_alloc_past _ _ _ _ hl1, World.setCell_alloc_past _ _ _ _ (by simpa [World.setCell] using hl1)] at hF
    have HF := Lib.hid hF
    clear hb1 h1 hF
    go_wp2_with fail
    obtain ⟨hz, hbl⟩ := HF.out
    unfold nb at hz hbl
    generalize ((w1.setCell ⟨w.heap.size + 1, 0, none⟩ (.int .i64 0)).setCell ⟨w.heap.size + 1, 1, none⟩ (.int .i64 0)).alloc (.cells #[.int .i64 n, .int .i64 d] 24) = W9 at hz hbl ⊢
    obtain ⟨z0, z1, _, _⟩ := c2 (n := 0) (d := 0) hz
    exact bodyPost_ret (v := .tuple #[.agg #[.int .i64 0, .int .i64 0], .int .i64 z]) (by simp [results, Tryz.results24, go_sem, z0, z1]) rfl ⟨rfl, hbl⟩
theorem Value_any : ∀ (x : T), x.wf → ∀ (X : Nat → Prop) (w : World) (v : Value), Rd X w x v →
    Calls Tryz.prog 24 #[v] w fun e w' => e = .returned (res (val x)) ∧ Below w.heap.size w w'
  | .bad, h, _, _, _, _ => absurd h (by simp [T.wf])
  | .num s, h, X, w, v, hR => by
    obtain rfl : v = .agg #[.string ⟨#[]⟩, sv s, .slice none 0 0] := hR
    exact Value_num s h w
  | .un o x, h, X, w, v, ⟨g, t, a, b, c, hv, hg, hc, hx⟩ => by
    subst hv
    exact Value_un o h.1 g a b c t (val x) (val_ok x) w hc fun W hW => Value_any x h.2 X W _ (hx.below hW)
  | .bin o x y, h, X, w, v, ⟨g, t, a, b, c, a', b', c', hv, hg, hc, hx, hy⟩ => by
    subst hv
    exact Value_bin o h.1 g a b c a' b' c' t (val x) (val y) (val_ok x) w hc (fun W hW => Value_any x h.2.1 X W _ (hx.below hW)) fun W hW => Value_any y h.2.2 X W _ (hy.below hW)
end Go.Proofs.YtfocokjihbenmaaGreatDoor.Fo
