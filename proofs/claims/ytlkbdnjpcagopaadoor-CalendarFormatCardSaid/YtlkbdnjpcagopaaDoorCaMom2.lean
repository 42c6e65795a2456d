/-
  The contracts of momentOf, DateOf, Weekday of package calendar.
-/
import Derived.Test.YtlkbdnjpcagopaaDoorCaMoment
import Derived.RegionTactic
import Derived.ChangeAlike
namespace Go.Proofs.YtlkbdnjpcagopaaDoor.Ca
open Go.RowKit

/-- An instant taken apart. -/
def mom (y m d c : Int) : Value := .agg #[.int .i64 y, .int .i64 m, .int .i64 d, .int .i64 (cum y m + d - 1), .int .i64 (wd (dn y m d)), .int .i64 c]
set_option maxRecDepth 100000 in
set_option maxHeartbeats 2000000 in
theorem momentOf_any {y m d c : Int} (hk : Ok y m d) (c1 : 0 ≤ c) (c2 : c < 1440) (w : World) (ht : Tb w) :
    Calls Tryd.prog 37 #[.int .i64 (inst y m d c)] w fun e w' => e = .returned (mom y m d c) ∧ Below w.heap.size w w' := by
  have HT : Hid (∀ w', Below w.heap.size w w' → Tb w') := Lib.hid (fun w' hb => ht.below hb)
  obtain ⟨i1, i2, i3, i4⟩ := inst_range hk c1 c2
  have HK := Lib.hid hk
  have hr := hk.range
  have hY := hk.y1
  have hY2 := hk.y2
  have hM := hk.m1
  have hM2 := hk.m2
  have hd := hk.d1
  have hday := hk.day
  have hyr := hk.in_year
  have hmo := hk.in_month
  obtain ⟨q1, q2⟩ := hday
  obtain ⟨n, hn⟩ : ∃ n, inst y m d c = n := ⟨_, rfl⟩
  obtain ⟨D, hD⟩ : ∃ D, dn y m d = D := ⟨_, rfl⟩
  rw [hn] at i1 i2 i3 i4
  rw [hD] at hr q1 q2 i3
  have e1 : cum y m + d - 1 = D - dby y := by rw [← hD]; unfold dn; omega
  have HM : Hid (mom y m d c = .agg #[.int .i64 y, .int .i64 m, .int .i64 (D - dby y - cum y m + 1), .int .i64 (D - dby y), .int .i64 ((D + 5) % 7 + 1), .int .i64 c]) := Lib.hid (by
    unfold mom wd; rw [hD, e1, show D - dby y - cum y m + 1 = d by omega])
  have p1 : cum y m ≤ D - dby y := by omega
  have p2 : D - dby y < cum y (m + 1) := by omega
  have b0 : dby 2000 = 0 := dby_zero
  have I3 := Lib.hid i3
  have I4 := Lib.hid i4
  rw [hn]
  have HD := Lib.hid hD
  have HE := Lib.hid e1
  have HB0 := Lib.hid b0
  clear hn hD e1 i3 i4 b0 hk
  have i5 : n / 1440 = D := I3.out
  have i6 : n % 1440 = c := I4.out
  go_enter Tryd.func37, Tryd.ntmps37
  go_wp2
  clear i5 i6
  go_loop [3, 5] (fun a b => ∃ k : Int, 2000 ≤ k ∧ k ≤ y ∧ a = .int .i64 (D - dby k) ∧ b = .int .i64 k) (fun _ b => (y - intOf b).toNat)
  case atStart => exact ⟨2000, by omega, by omega, by rw [HB0.out, I3.out]; go_num, rfl⟩
  case round =>
    obtain ⟨k, k1, k2, rfl, rfl⟩ := hrel
    have b1 := dby_mono k1
    have b2 := dby_mono k2
    have b0 := HB0.out
    rw [b0] at b1
    clear b0
    have b4 := yl_ge k
    have HS := Lib.hid (dby_succ k)
    by_cases hlt : k < y
    · have b5 := dby_mono (a := k + 1) (b := y) (by omega)
      rw [HS.out] at b5
      have g1 : yl k ≤ D - dby k := by omega
      go_wp2_with fail
      refine (yearLength_any k _ (by omega)).mono ?_
      rintro e w' ⟨rfl, rfl⟩
      go_wp2_with fail
      refine (yearLength_any k _ (by omega)).mono ?_
      rintro e w' ⟨rfl, rfl⟩
      go_wp2
      go_round
      case rel => exact ⟨k + 1, by omega, by omega, by rw [HS.out]; go_num, rfl⟩
      case measure => simp [intOf]; omega
    · obtain rfl : k = y := by omega
      rw [HS.out] at q2
      have g1 : D - dby k < yl k := by omega
      go_wp2_with fail
      refine (yearLength_any k _ (by omega)).mono ?_
      rintro e w' ⟨rfl, rfl⟩
      go_wp2
      have HT2 := Lib.hid (HT.out _ (((Below.refl _ w).alloc (Nat.le_refl _) (.cells #[.int .i64 0, .int .i64 0, .int .i64 0, .int .i64 0, .int .i64 0, .int .i64 0] 48)).alloc (by simp) (.cells #[.int .i64 0, .int .i64 0, .int .i64 0, .int .i64 (D - dby k), .int .i64 ((D + 5) % 7 + 1), .int .i64 c] 48)))
      go_loop [3, 6] (fun a b => ∃ j : Int, 1 ≤ j ∧ j ≤ m ∧ a = .int .i64 (D - dby k - cum k j) ∧ b = .int .i64 j) (fun _ b => (m - intOf b).toNat)
      case atStart => exact ⟨1, by omega, by omega, by rw [cum_one]; go_num, rfl⟩
      case round =>
        obtain ⟨j, j1, j2, rfl, rfl⟩ := hrel
        have b5 := cum_bd k j1 (by omega)
        have b6 := ml_ge k j
        have HU := Lib.hid (cum_succ k j1 (by omega))
        by_cases hlt : j < m
        · have b7 := cum_mono k (a := j + 1) (b := m) (by omega) (by omega) (by omega)
          rw [HU.out] at b7
          have g2 : ml k j ≤ D - dby k - cum k j := by omega
          go_wp2_with fail
          refine (monthLength_any k j _ (by omega) (by omega) (by omega) HT2.out).mono ?_
          rintro e w' ⟨rfl, rfl⟩
          go_wp2_with fail
          refine (monthLength_any k j _ (by omega) (by omega) (by omega) HT2.out).mono ?_
          rintro e w' ⟨rfl, rfl⟩
          go_wp2
          go_round
          case rel => exact ⟨j + 1, by omega, by omega, by rw [HU.out]; go_num, rfl⟩
          case measure => simp [intOf]; omega
        · obtain rfl : j = m := by omega
          rw [HU.out] at p2
          have g2 : D - dby k - cum k j < ml k j := by omega
          go_wp2_with fail
          refine (monthLength_any k j _ (by omega) (by omega) (by omega) HT2.out).mono ?_
          rintro e w' ⟨rfl, rfl⟩
          go_wp2
          refine bodyPost_ret (v := .agg #[.int .i64 k, .int .i64 j, .int .i64 (D - dby k - cum k j + 1), .int .i64 (D - dby k), .int .i64 ((D + 5) % 7 + 1), .int .i64 c]) (by simp [results, Tryd.results37, go_sem]) rfl ⟨by rw [HM.out], ?_⟩
          exact ((Below.refl _ w).alloc (Nat.le_refl _) _).alloc (by simp) _

theorem DateOf_no {n : Int} (h : ¬ (0 ≤ n ∧ n < 52596000)) (w : World) :
    Calls Tryd.prog 15 #[.int .i64 n] w fun e w' => e = .returned (.tuple #[.agg #[.int .i64 0, .int .i64 0, .int .i64 0], .int .i64 0, .int .i64 2]) ∧ Below w.heap.size w w' := by
  have HC := Lib.hid (fun w => isInstant_any n w)
  simp only [h, decide_false] at HC
  clear h
  go_enter Tryd.func15, Tryd.ntmps15
  go_wp2_with fail
  refine (HC.out _).mono ?_
  rintro e w1 ⟨rfl, rfl⟩
  go_wp2
  exact bodyPost_ret (v := .tuple #[.agg #[.int .i64 0, .int .i64 0, .int .i64 0], .int .i64 0, .int .i64 2]) (by simp [results, Tryd.results15, go_sem]) rfl ⟨rfl, (Below.refl _ w).alloc (Nat.le_refl _) _⟩
theorem Weekday_no {n : Int} (h : ¬ (0 ≤ n ∧ n < 52596000)) (w : World) :
    Calls Tryd.prog 17 #[.int .i64 n] w fun e w' => e = .returned (.tuple #[.int .i64 0, .int .i64 2]) ∧ Below w.heap.size w w' := by
  have HC := Lib.hid (fun w => isInstant_any n w)
  simp only [h, decide_false] at HC
  clear h
  go_enter Tryd.func17, Tryd.ntmps17
  go_wp2_with fail
  refine (HC.out _).mono ?_
  rintro e w1 ⟨rfl, rfl⟩
  go_wp2
  go_ret2
  exact ⟨rfl, Below.refl _ w⟩
theorem isInst {n : Int} (h : 0 ≤ n ∧ n < 52596000) (w : World) : Calls Tryd.prog 36 #[.int .i64 n] w fun e w' => e = .returned (.bool true) ∧ w = w' := by
  have := isInstant_any n w
  rwa [decide_eq_true h] at this
set_option maxRecDepth 100000 in
set_option maxHeartbeats 1000000 in
theorem DateOf_yes {y m d c : Int} (hk : Ok y m d) (c1 : 0 ≤ c) (c2 : c < 1440) (w : World) (ht : Tb w) :
    Calls Tryd.prog 15 #[.int .i64 (inst y m d c)] w fun e w' => e = .returned (.tuple #[.agg #[.int .i64 y, .int .i64 m, .int .i64 d], .int .i64 c, .int .i64 0]) ∧ Below w.heap.size w w' := by
  have hr := inst_range hk c1 c2
  have HC := Lib.hid (fun w => isInst ⟨hr.1, hr.2.1⟩ w)
  have HM := Lib.hid (fun w ht => momentOf_any hk c1 c2 w ht)
  have HA := Lib.hid (ht.below ((Below.refl _ w).alloc (Nat.le_refl _) (.cells #[.int .i64 0, .int .i64 0, .int .i64 0] 23)))
  obtain ⟨n, hn⟩ : ∃ n, inst y m d c = n := ⟨_, rfl⟩
  rw [hn] at HC HM
  rw [hn]
  clear hn hk hr
  go_enter Tryd.func15, Tryd.ntmps15
  go_wp2_with fail
  refine (HC.out _).mono ?_
  rintro e w1 ⟨rfl, rfl⟩
  go_wp2_with fail
  refine (HM.out _ HA.out).mono ?_
  rintro e w1 ⟨rfl, hb⟩
  unfold mom
  obtain ⟨hc, hf⟩ := bcell hb
  have hz : w.heap.size < w1.heap.size := by have := hb.size; simp at this; omega
  have HB := Lib.hid (below1 hb)
  clear hb
  go_wp2
  go_region
  all_goals
    go_wp2
    refine bodyPost_ret (v := .tuple #[.agg #[.int .i64 y, .int .i64 m, .int .i64 d], .int .i64 c, .int .i64 0]) (by simp [results, Tryd.results15, go_sem, hc, hz]) rfl ⟨rfl, ?_⟩
    exact below_drewN ((((HB.out.setCell (Nat.le_refl _) _).setCell (Nat.le_refl _) _).setCell (Nat.le_refl _) _).alloc (by simp; omega) _) 1
set_option maxRecDepth 100000 in
theorem Weekday_yes {y m d c : Int} (hk : Ok y m d) (c1 : 0 ≤ c) (c2 : c < 1440) (w : World) (ht : Tb w) :
    Calls Tryd.prog 17 #[.int .i64 (inst y m d c)] w fun e w' => e = .returned (.tuple #[.int .i64 (wd (dn y m d)), .int .i64 0]) ∧ Below w.heap.size w w' := by
  have hr := inst_range hk c1 c2
  have HC := Lib.hid (fun w => isInst ⟨hr.1, hr.2.1⟩ w)
  have HM := Lib.hid (fun w ht => momentOf_any hk c1 c2 w ht)
  obtain ⟨n, hn⟩ : ∃ n, inst y m d c = n := ⟨_, rfl⟩
  rw [hn] at HC HM
  rw [hn]
  clear hn hk hr
  have hfd : ∀ w : World, (Instr.field 48 (.agg #[.int .i64 y, .int .i64 m, .int .i64 d, .int .i64 (cum y m + d - 1), .int .i64 (wd (dn y m d)), .int .i64 c]) 2).run Tryd.prog w = .ok (.int .i64 (wd (dn y m d))) w := fun _ => by kernel_rfl
  go_enter Tryd.func17, Tryd.ntmps17
  go_wp2_with fail
  refine (HC.out _).mono ?_
  rintro e w1 ⟨rfl, rfl⟩
  go_wp2_with fail
  refine (HM.out _ ht).mono ?_
  rintro e w1 ⟨rfl, hb⟩
  unfold mom
  go_wp2
  go_ret2
  exact ⟨rfl, hb⟩
end Go.Proofs.YtlkbdnjpcagopaaDoor.Ca
