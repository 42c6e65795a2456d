/-
  The contract of parse.
-/
import Derived.Test.YtfocokjihbenmaaDoorFoPrim
import Derived.Test.YtfocokjihbenmaaDoorFoRuleB
import Derived.Test.YtfocokjihbenmaaDoorFoRuleC
import Derived.RegionTactic
namespace Go.Proofs.YtfocokjihbenmaaDoor.Fo
open Go.RowKit Go.Proofs.YtfocokjihbenmaaDoor.Nu
set_option linter.unusedVariables false
set_option linter.unusedSimpArgs false

structure All (n : Nat) : Prop where
  l0 : Lv 28 n 0
  l1 : Lv 47 n 1
  l2 : Lv 76 n 2
  l3 : Lv 92 n 3
  l4 : Lv 101 n 4
  l5 : Lv 104 n 5
  l6 : Lv 107 n 6
  l7 : Lv 108 n 7
  l8 : Lv 109 n 8
theorem all (n : Nat) : All n := by
  induction n using Nat.strongRecOn with
  | _ n ih =>
    exact ⟨lv_0 n fun m hm => (ih m hm).l1, lv_1 n fun m hm => (ih m hm).l2, lv_2 n (fun m hm => (ih m hm).l3) fun m hm => (ih m hm).l3, lv_3 n fun m hm => (ih m hm).l4,
      lv_4 n fun m hm => (ih m hm).l5, lv_5 n fun m hm => (ih m hm).l6, lv_6 n (fun m hm => (ih m hm).l6) fun m hm => (ih m hm).l7, lv_7 n (fun m hm => (ih m hm).l8) (fun m hm => (ih m hm).l6), lv_8 n fun m hm => (ih m hm).l0⟩
def topB (l : List Tok) : Bool := !(top l).b && (top l).r.isEmpty
theorem parse_fin {w W w1 : World} {R : T} {o1 : ByteArray} {A1 : Option Addr} {k1 c1 : Nat} (hB : Below w.heap.size w W) (hF : Fr (w.heap.size + 1) W.heap.size W w1) (hz : W.heap.size = w.heap.size + 2) (hr : W.heap[w.heap.size]? = some zn)
    (hx : Nd (W.heap.size ≤ ·) w1 R (.agg #[.string o1, .slice A1 k1 c1, .int .i64 (R.lv : Int)])) :
    (((set9 w1 w.heap.size o1 A1 k1 c1 R.lv).alloc (.cells #[.string o1, .slice A1 k1 c1, .int .i64 (R.lv : Int)] 45)).drew).heap[w.heap.size]? = some (.cells #[.string o1, .slice A1 k1 c1, .int .i64 (R.lv : Int)] 45) ∧
    Nd (w.heap.size ≤ ·) (((set9 w1 w.heap.size o1 A1 k1 c1 R.lv).alloc (.cells #[.string o1, .slice A1 k1 c1, .int .i64 (R.lv : Int)] 45)).drew) R (.agg #[.string o1, .slice A1 k1 c1, .int .i64 (R.lv : Int)]) ∧
    Below w.heap.size w (((set9 w1 w.heap.size o1 A1 k1 c1 R.lv).alloc (.cells #[.string o1, .slice A1 k1 c1, .int .i64 (R.lv : Int)] 45)).drew) := by
  have hz1 := hF.size
  have h0 : w1.heap[w.heap.size]? = some zn := (hF.block _ (by omega) (by omega)).trans hr
  have zs : (set9 w1 w.heap.size o1 A1 k1 c1 R.lv).heap.size = w1.heap.size := by simp [set9, World.setCell]
  have B9 : Below w.heap.size w1 (set9 w1 w.heap.size o1 A1 k1 c1 R.lv) := (((Below.refl w.heap.size w1).setCell (Nat.le_refl _) _).setCell (Nat.le_refl _) _).setCell (Nat.le_refl _) _
  refine ⟨?_, ?_, ?_⟩
  · show ((set9 w1 w.heap.size o1 A1 k1 c1 R.lv).alloc _).heap[w.heap.size]? = _
    rw [Below.heap_alloc _ _ _ (by omega)]
    exact set3 h0 _ _ _
  · refine Nd.keep (X := fun i => W.heap.size ≤ i) (fun i hi hl => ?_) (fun i hi _ => by omega) _ _ hx
    show ((set9 w1 w.heap.size o1 A1 k1 c1 R.lv).alloc _).heap[i]? = _
    rw [Below.heap_alloc _ _ _ (by omega)]
    exact set3_ne (by omega) _ _ _
  · exact ((hB.trans (((hF.mono (by omega)).below (by omega)).trans B9)).alloc (by omega) _).drew
set_option maxRecDepth 100000 in
set_option maxHeartbeats 2000000 in
theorem parse_tok (w : World) (bt : Nat) (v : Value) (l : List Tok) (ht : TS bt w v l) (hbt : bt < w.heap.size) (hz : ∀ t ∈ l, 0 < t.length ∧ t.length ≤ 19) (hl : l.length ≤ 400) :
    Calls Tryd.prog 15 #[v] w fun e w' => ∃ x, e = .returned (.tuple #[x, .bool (topB l)]) ∧ Nd (w.heap.size ≤ ·) w' (top l).t x ∧ Below w.heap.size w w' := by
  obtain ⟨W, hW⟩ : ∃ W, (w.alloc zn).alloc (pobj v false) = W := ⟨_, rfl⟩
  have B0 : Below w.heap.size w W := hW ▸ ((Below.refl _ w).alloc (Nat.le_refl _) _).alloc (by simp) _
  have hzW : W.heap.size = w.heap.size + 2 := by rw [← hW]; simp
  have hS : St (w.heap.size + 1) bt W v l false := by
    refine ⟨?_, ht.keep (B0.block _ hbt), by omega, by omega, hz⟩
    rw [← hW]
    have := heap_new (w.alloc zn) (pobj v false)
    rwa [World.size_alloc] at this
  have hr : W.heap[w.heap.size]? = some zn := by rw [← hW, Below.heap_alloc _ _ _ (by simp)]; exact heap_new _ _
  have HQ := Lib.hid ((all (fuel l)).l0 (w.heap.size + 1) bt W v l false hS (by unfold fuel; omega) hl)
  have HR : Hid (G (fuel l) 0 .bad l false = top l) := Lib.hid rfl
  rw [HR.out] at HQ
  have HB0 := Lib.hid B0
  have HHr := Lib.hid hr
  obtain ⟨A, C, rfl, _⟩ := ht
  clear hS hr B0 HR
  unfold pobj at hW
  have HW := Lib.hid hW
  clear hW
  go_enter Tryd.func15, Tryd.ntmps15
  go_wp2_with fail
  rw [HW.out]
  (with_reducible refine HQ.out.mono ?_)
  rintro e w1 ⟨x, u, rfl, hx, hs, hf⟩
  obtain ⟨o1, A1, k1, c1, rfl⟩ := hx.form
  obtain ⟨A2, C2, rfl, hu⟩ := hs.t
  have hz1 := hf.size
  have hlt0 : w.heap.size < w1.heap.size := by omega
  have hlt1 : w.heap.size + 1 < w1.heap.size := by omega
  have b0 := hs.c0
  have b1 := hs.c1
  obtain ⟨z0, z1, z2, zf⟩ := c3 ((hf.block w.heap.size (by omega) (by omega)).trans HHr.out)
  have zf0 := zf 0; have zf1 := zf 1; have zf2 := zf 2
  have HX := Lib.hid hx
  have HF := Lib.hid hf
  clear hx hs hf hu
  cases hb : (top l).b with
  | true =>
    rw [hb] at b1
    go_wp2_with fail
    go_region
    go_wp2_with fail
    have F := parse_fin HB0.out HF.out hzW HHr.out HX.out
    unfold set9 at F
    generalize ((((w1.setCell ⟨w.heap.size, 0, none⟩ (.string o1)).setCell ⟨w.heap.size, 1, none⟩ (.slice A1 k1 c1)).setCell ⟨w.heap.size, 2, none⟩ (.int .i64 ((top l).t.lv : Int))).alloc (.cells #[.string o1, .slice A1 k1 c1, .int .i64 ((top l).t.lv : Int)] 45)).drew = W9 at F ⊢
    obtain ⟨f1, f2, f3⟩ := F
    obtain ⟨q0, q1, q2, _⟩ := c3 f1
    clear f1 z0 z1 z2 b0 b1
    refine bodyPost_ret (v := .tuple #[.agg #[.string o1, .slice A1 k1 c1, .int .i64 ((top l).t.lv : Int)], .bool false]) (by simp [results, Tryd.results15, go_sem, q0, q1, q2] <;> omega) rfl ?_
    rw [show topB l = false by unfold topB; rw [hb]; rfl]
    exact ⟨_, rfl, f2, f3⟩
  | false =>
    rw [hb] at b1
    cases hr : (top l).r with
    | nil =>
      rw [hr] at b0
      simp only [List.length_nil] at b0
      go_wp2_with fail
      go_region
      go_wp2_with fail
      have F := parse_fin HB0.out HF.out hzW HHr.out HX.out
      unfold set9 at F
      generalize ((((w1.setCell ⟨w.heap.size, 0, none⟩ (.string o1)).setCell ⟨w.heap.size, 1, none⟩ (.slice A1 k1 c1)).setCell ⟨w.heap.size, 2, none⟩ (.int .i64 ((top l).t.lv : Int))).alloc (.cells #[.string o1, .slice A1 k1 c1, .int .i64 ((top l).t.lv : Int)] 45)).drew = W9 at F ⊢
      obtain ⟨f1, f2, f3⟩ := F
      obtain ⟨q0, q1, q2, _⟩ := c3 f1
      clear f1 z0 z1 z2 b0 b1
      refine bodyPost_ret (v := .tuple #[.agg #[.string o1, .slice A1 k1 c1, .int .i64 ((top l).t.lv : Int)], .bool true]) (by simp [results, Tryd.results15, go_sem, q0, q1, q2] <;> omega) rfl ?_
      rw [show topB l = true by unfold topB; rw [hb, hr]; rfl]
      exact ⟨_, rfl, f2, f3⟩
    | cons t r =>
      rw [hr] at b0
      simp only [List.length_cons] at b0
      have hne : decide (((r.length : Int) + 1) = 0) = false := by rw [decide_eq_false_iff_not]; omega
      go_wp2_with fail
      go_region
      go_wp2_with fail
      have F := parse_fin HB0.out HF.out hzW HHr.out HX.out
      unfold set9 at F
      generalize ((((w1.setCell ⟨w.heap.size, 0, none⟩ (.string o1)).setCell ⟨w.heap.size, 1, none⟩ (.slice A1 k1 c1)).setCell ⟨w.heap.size, 2, none⟩ (.int .i64 ((top l).t.lv : Int))).alloc (.cells #[.string o1, .slice A1 k1 c1, .int .i64 ((top l).t.lv : Int)] 45)).drew = W9 at F ⊢
      obtain ⟨f1, f2, f3⟩ := F
      obtain ⟨q0, q1, q2, _⟩ := c3 f1
      clear f1 z0 z1 z2 b0 b1
      refine bodyPost_ret (v := .tuple #[.agg #[.string o1, .slice A1 k1 c1, .int .i64 ((top l).t.lv : Int)], .bool false]) (by simp [results, Tryd.results15, go_sem, q0, q1, q2] <;> omega) rfl ?_
      rw [show topB l = false by unfold topB; rw [hb, hr]; rfl]
      exact ⟨_, rfl, f2, f3⟩
end Go.Proofs.YtfocokjihbenmaaDoor.Fo
