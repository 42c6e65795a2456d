/-
  The contracts of DateOf and Weekday of the calendar's reference.
-/
import Derived.Test.YtlkbdnjpcagopaaDoorCaRMin
namespace Go.Proofs.YtlkbdnjpcagopaaDoor.Ca
open Go.RowKit
set_option linter.unusedSimpArgs false

theorem rinst {n : Int} (h : 0 ≤ n ∧ n < 52596000) (w : World) : Calls Tryd.prog 38 #[.int .i64 n] w fun e w' => e = .returned (.bool true) ∧ w = w' := by
  have := instant_any n w
  rwa [decide_eq_true h] at this
theorem rinst_no {n : Int} (h : ¬ (0 ≤ n ∧ n < 52596000)) (w : World) : Calls Tryd.prog 38 #[.int .i64 n] w fun e w' => e = .returned (.bool false) ∧ w = w' := by
  have := instant_any n w
  rwa [decide_eq_false h] at this
theorem RDateOf_no {n : Int} (h : ¬ (0 ≤ n ∧ n < 52596000)) (w : World) :
    Calls Tryd.prog 16 #[.int .i64 n] w fun e w' => e = .returned (.tuple #[.agg #[.int .i64 0, .int .i64 0, .int .i64 0], .int .i64 0, .int .i64 2]) ∧ Below w.heap.size w w' := by
  have HC := Lib.hid (fun w => rinst_no h w)
  clear h
  go_enter Tryd.func16, Tryd.ntmps16
  go_wp2_with fail
  refine (HC.out _).mono ?_
  rintro e w1 ⟨rfl, rfl⟩
  go_wp2
  exact bodyPost_ret (v := .tuple #[.agg #[.int .i64 0, .int .i64 0, .int .i64 0], .int .i64 0, .int .i64 2]) (by simp [results, Tryd.results16, go_sem]) rfl ⟨rfl, (Below.refl _ w).alloc (Nat.le_refl _) _⟩
theorem RWeekday_no {n : Int} (h : ¬ (0 ≤ n ∧ n < 52596000)) (w : World) :
    Calls Tryd.prog 18 #[.int .i64 n] w fun e w' => e = .returned (.tuple #[.int .i64 0, .int .i64 2]) ∧ Below w.heap.size w w' := by
  have HC := Lib.hid (fun w => rinst_no h w)
  clear h
  go_enter Tryd.func18, Tryd.ntmps18
  go_wp2_with fail
  refine (HC.out _).mono ?_
  rintro e w1 ⟨rfl, rfl⟩
  go_wp2
  go_ret2
  exact ⟨rfl, Below.refl _ w⟩
theorem RWeekday_yes {n : Int} (h : 0 ≤ n ∧ n < 52596000) (w : World) :
    Calls Tryd.prog 18 #[.int .i64 n] w fun e w' => e = .returned (.tuple #[.int .i64 (wd (n / 1440)), .int .i64 0]) ∧ Below w.heap.size w w' := by
  have HC := Lib.hid (fun w => rinst h w)
  obtain ⟨h1, h2⟩ := h
  go_enter Tryd.func18, Tryd.ntmps18
  go_wp2_with fail
  refine (HC.out _).mono ?_
  rintro e w1 ⟨rfl, rfl⟩
  go_wp2
  go_ret2
  exact ⟨rfl, Below.refl _ w⟩
/-- Two blocks of dates of the call's own: the result's and the variable's. -/
structure Two (w wr : World) (p q r : Int) : Prop where
  c0 : wr.cell? ⟨w.heap.size + 1, 0, none⟩ = some (.int .i64 p)
  c1 : wr.cell? ⟨w.heap.size + 1, 1, none⟩ = some (.int .i64 q)
  c2 : wr.cell? ⟨w.heap.size + 1, 2, none⟩ = some (.int .i64 r)
  f : wr.frozen? ⟨w.heap.size + 1, 0, none⟩ = false
  f1 : wr.frozen? ⟨w.heap.size + 1, 1, none⟩ = false
  f2 : wr.frozen? ⟨w.heap.size + 1, 2, none⟩ = false
  r0 : wr.cell? ⟨w.heap.size, 0, none⟩ = some (.int .i64 0)
  r1 : wr.cell? ⟨w.heap.size, 1, none⟩ = some (.int .i64 0)
  r2 : wr.cell? ⟨w.heap.size, 2, none⟩ = some (.int .i64 0)
  g : wr.frozen? ⟨w.heap.size, 0, none⟩ = false
  g1 : wr.frozen? ⟨w.heap.size, 1, none⟩ = false
  g2 : wr.frozen? ⟨w.heap.size, 2, none⟩ = false
  lt : w.heap.size + 1 < wr.heap.size
  bl : Below w.heap.size w wr
theorem Two.below {w wr w' : World} {p q r : Int} (h : Two w wr p q r) (hb : Below wr.heap.size wr w') : Two w w' p q r := by
  obtain ⟨hc, hf⟩ := bcell hb
  have l := h.lt
  have l0 : w.heap.size < wr.heap.size := by omega
  exact ⟨(hc _ _ l).trans h.c0, (hc _ _ l).trans h.c1, (hc _ _ l).trans h.c2, (hf _ _ l).trans h.f, (hf _ _ l).trans h.f1, (hf _ _ l).trans h.f2, (hc _ _ l0).trans h.r0, (hc _ _ l0).trans h.r1, (hc _ _ l0).trans h.r2, (hf _ _ l0).trans h.g, (hf _ _ l0).trans h.g1, (hf _ _ l0).trans h.g2, by have := hb.size; omega, h.bl.trans (hb.mono h.bl.size)⟩
theorem Two.set0 {w wr : World} {p q r : Int} (h : Two w wr p q r) (x : Int) : Two w (wr.setCell ⟨w.heap.size + 1, 0, none⟩ (.int .i64 x)) x q r := by
  have s0 : wr.cell? ⟨w.heap.size + 1, 0, none⟩ ≠ none := by rw [h.c0]; simp
  constructor <;> first | exact h.bl.setCell (Nat.le_succ _) _ | (simp; exact h.lt) | (rw [World.frozen?_setCell]; first | exact h.f | exact h.f1 | exact h.f2 | exact h.g | exact h.g1 | exact h.g2) | (exact World.cell?_setCell_same _ _ _ h.c0) | (refine (World.cell?_setCell_other _ _ _ _ (by simp)).trans ?_; first | exact h.c0 | exact h.c1 | exact h.c2 | exact h.r0 | exact h.r1 | exact h.r2)
theorem Two.set1 {w wr : World} {p q r : Int} (h : Two w wr p q r) (x : Int) : Two w (wr.setCell ⟨w.heap.size + 1, 1, none⟩ (.int .i64 x)) p x r := by
  constructor <;> first | exact h.bl.setCell (Nat.le_succ _) _ | (simp; exact h.lt) | (rw [World.frozen?_setCell]; first | exact h.f | exact h.f1 | exact h.f2 | exact h.g | exact h.g1 | exact h.g2) | (exact World.cell?_setCell_same _ _ _ h.c1) | (refine (World.cell?_setCell_other _ _ _ _ (by simp)).trans ?_; first | exact h.c0 | exact h.c1 | exact h.c2 | exact h.r0 | exact h.r1 | exact h.r2)
theorem Two.set2 {w wr : World} {p q r : Int} (h : Two w wr p q r) (x : Int) : Two w (wr.setCell ⟨w.heap.size + 1, 2, none⟩ (.int .i64 x)) p q x := by
  constructor <;> first | exact h.bl.setCell (Nat.le_succ _) _ | (simp; exact h.lt) | (rw [World.frozen?_setCell]; first | exact h.f | exact h.f1 | exact h.f2 | exact h.g | exact h.g1 | exact h.g2) | (exact World.cell?_setCell_same _ _ _ h.c2) | (refine (World.cell?_setCell_other _ _ _ _ (by simp)).trans ?_; first | exact h.c0 | exact h.c1 | exact h.c2 | exact h.r0 | exact h.r1 | exact h.r2)
set_option maxRecDepth 100000 in
set_option maxHeartbeats 2000000 in
theorem RDateOf_yes {y m d c : Int} (hk : Ok y m d) (c1 : 0 ≤ c) (c2 : c < 1440) (w : World) :
    Calls Tryd.prog 16 #[.int .i64 (inst y m d c)] w fun e w' => e = .returned (.tuple #[.agg #[.int .i64 y, .int .i64 m, .int .i64 d], .int .i64 c, .int .i64 0]) ∧ Below w.heap.size w w' := by
  obtain ⟨i1, i2, i3, i4⟩ := inst_range hk c1 c2
  have HK := Lib.hid hk
  have hr := hk.range
  have hY := hk.y1
  have hY2 := hk.y2
  have hM := hk.m1
  have hM2 := hk.m2
  have hd := hk.d1
  have hday := hk.day
  have hyr := hk.in_year
  have hmo := hk.in_month
  obtain ⟨q1, q2⟩ := hday
  have HC := Lib.hid (fun w => rinst ⟨i1, i2⟩ w)
  obtain ⟨n, hn⟩ : ∃ n, inst y m d c = n := ⟨_, rfl⟩
  obtain ⟨D, hD⟩ : ∃ D, dn y m d = D := ⟨_, rfl⟩
  rw [hn] at i1 i2 i3 i4 HC
  rw [hD] at hr q1 q2 i3
  have e1 : D - dby y - cum y m + 1 = d := by rw [← hD]; unfold dn; omega
  have HM := Lib.hid e1
  have p1 : cum y m ≤ D - dby y := by omega
  have p2 : D - dby y < cum y (m + 1) := by omega
  have HB0 := Lib.hid dby_zero
  have I3 := Lib.hid i3
  have I4 := Lib.hid i4
  rw [hn]
  clear hn hD e1 i3 i4 hk hmo hyr
  go_enter Tryd.func16, Tryd.ntmps16
  go_wp2_with fail
  refine (HC.out _).mono ?_
  rintro e w1 ⟨rfl, rfl⟩
  go_wp2
  go_loopw [5] (fun a wr => ∃ k : Int, 2000 ≤ k ∧ k ≤ y ∧ a = .int .i64 (D - dby k) ∧ Hid (Two w wr k 1 0)) (fun a _ => (intOf a).toNat)
  case atStart =>
    refine ⟨2000, by omega, by omega, by rw [HB0.out, I3.out]; go_num, Lib.hid ?_⟩
    constructor <;> first | exact ((Below.refl _ w).alloc (Nat.le_refl _) _).alloc (by simp) _ | (simp; done) | (simp; omega)
  case round =>
    obtain ⟨k, k1, k2, rfl, H2⟩ := hrel
    have T0 := H2.out.c0
    have TF := H2.out.f
    have b1 := dby_mono k1
    have b2 := dby_mono k2
    have b0 := HB0.out
    rw [b0] at b1
    clear b0
    have b4 := yl_ge k
    have HS := Lib.hid (dby_succ k)
    by_cases hlt : k < y
    · have b5 := dby_mono (a := k + 1) (b := y) (by omega)
      rw [HS.out] at b5
      have g1 : yl k ≤ D - dby k := by omega
      go_wp2_with fail
      refine (yearDays_any k _ (by omega) (by omega)).mono ?_
      rintro e w1 ⟨rfl, hb1⟩
      have H3 := Lib.hid (H2.out.below hb1)
      clear T0 TF H2 hb1
      have T0 := H3.out.c0
      go_wp2_with fail
      refine (yearDays_any k _ (by omega) (by omega)).mono ?_
      rintro e w2 ⟨rfl, hb2⟩
      have H4 := Lib.hid (H3.out.below hb2)
      clear T0 H3 hb2
      have T0 := H4.out.c0
      have TF := H4.out.f
      go_wp2
      go_roundw
      case rel => exact ⟨k + 1, by omega, by omega, by rw [HS.out]; go_num, Lib.hid (H4.out.set0 _)⟩
      case measure => simp [intOf]; omega
    · obtain rfl : k = y := by omega
      rw [HS.out] at q2
      have g1 : D - dby k < yl k := by omega
      go_wp2_with fail
      refine (yearDays_any k _ (by omega) (by omega)).mono ?_
      rintro e w1 ⟨rfl, hb1⟩
      have H3 := Lib.hid (H2.out.below hb1)
      clear T0 TF H2 hb1
      go_wp2
      go_loopw [5] (fun a wr => ∃ j : Int, 1 ≤ j ∧ j ≤ m ∧ a = .int .i64 (D - dby k - cum k j) ∧ Hid (Two w wr k j 0)) (fun a _ => (intOf a).toNat)
      case atStart => exact ⟨1, by omega, by omega, by rw [cum_one]; go_num, H3⟩
      case round =>
        obtain ⟨j, j1, j2, rfl, H2⟩ := hrel
        have T0 := H2.out.c0
        have T1 := H2.out.c1
        have b5 := cum_bd k j1 (by omega)
        have b6 := ml_ge k j
        have HU := Lib.hid (cum_succ k j1 (by omega))
        by_cases hlt : j < m
        · have b7 := cum_mono k (a := j + 1) (b := m) (by omega) (by omega) (by omega)
          rw [HU.out] at b7
          have g2 : ml k j ≤ D - dby k - cum k j := by omega
          go_wp2_with fail
          refine (days_any k j _ (by omega) (by omega) (by omega) (by omega)).mono ?_
          rintro e w1 ⟨rfl, hb1⟩
          have H3 := Lib.hid (H2.out.below hb1)
          clear T0 T1 H2 hb1
          have T0 := H3.out.c0
          have T1 := H3.out.c1
          go_wp2_with fail
          refine (days_any k j _ (by omega) (by omega) (by omega) (by omega)).mono ?_
          rintro e w2 ⟨rfl, hb2⟩
          have H4 := Lib.hid (H3.out.below hb2)
          clear T0 T1 H3 hb2
          have T1 := H4.out.c1
          have TF := H4.out.f1
          go_wp2
          go_roundw
          case rel => exact ⟨j + 1, by omega, by omega, by rw [HU.out]; go_num, Lib.hid (H4.out.set1 _)⟩
          case measure => simp [intOf]; omega
        · obtain rfl : j = m := by omega
          rw [HU.out] at p2
          have g2 : D - dby k - cum k j < ml k j := by omega
          go_wp2_with fail
          refine (days_any k j _ (by omega) (by omega) (by omega) (by omega)).mono ?_
          rintro e w1 ⟨rfl, hb1⟩
          have H3 := Lib.hid (H2.out.below hb1)
          clear T0 T1 H2 hb1
          have T0 := H3.out.c0
          have T1 := H3.out.c1
          have T2 := H3.out.c2
          have TF := H3.out.f2
          have R0 := H3.out.r0
          have R1 := H3.out.r1
          have R2 := H3.out.r2
          have G0 := H3.out.g
          have G1 := H3.out.g1
          have G2 := H3.out.g2
          have i6 : n % 1440 = c := I4.out
          go_wp2
          refine bodyPost_ret (v := .tuple #[.agg #[.int .i64 k, .int .i64 j, .int .i64 (D - dby k - cum k j + 1)], .int .i64 c, .int .i64 0]) (by simp [results, Tryd.results16, go_sem, R0, R1, R2, i6]) rfl ⟨by rw [HM.out], ?_⟩
          exact (((H3.out.bl.setCell (Nat.le_succ _) _).setCell (Nat.le_refl _) _).setCell (Nat.le_refl _) _).setCell (Nat.le_refl _) _
end Go.Proofs.YtlkbdnjpcagopaaDoor.Ca
