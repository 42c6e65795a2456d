/-
  The contracts of exists, Minute, momentOf, DateOf, Weekday of package calendar.
-/
import Derived.Test.YtlkbdnjpcagopaaDoorCaLeaf
namespace Go.Proofs.YtlkbdnjpcagopaaDoor.Ca
open Go.RowKit

theorem below1 {w w1 : World} {A : Obj} (hb : Below (w.alloc A).heap.size (w.alloc A) w1) : Below w.heap.size w w1 :=
  ((Below.refl _ w).alloc (Nat.le_refl _) A).trans (hb.mono (by simp))
theorem leap_q (y : Int) (w : World) (h : 0 ≤ y) : Calls Tryd.prog 51 #[.int .i64 y] w fun e w' => e = .returned (.bool (decide (y % 4 = 0))) ∧ ∃ k, w' = w.drewN k :=
  (leap_any y w h).mono fun _ _ ⟨he, hw⟩ => ⟨he, 0, hw.symm⟩
theorem monthLength_q (y m : Int) (w : World) (h : 0 ≤ y) (h1 : 1 ≤ m) (h2 : m ≤ 12) (ht : Tb w) : Calls Tryd.prog 32 #[.int .i64 y, .int .i64 m] w fun e w' => e = .returned (.int .i64 (ml y m)) ∧ ∃ k, w' = w.drewN k :=
  (monthLength_any y m w h h1 h2 ht).mono fun _ _ ⟨he, hw⟩ => ⟨he, 0, hw.symm⟩
theorem okB_in (y m d : Int) : okB y m d = (decide (2000 ≤ y) && (decide (y ≤ 2099) && (decide (1 ≤ m) && (decide (m ≤ 12) && (decide (1 ≤ d) && decide (d ≤ ml y m)))))) := by
  unfold okB; rw [Bool.eq_iff_iff]; simp
set_option maxRecDepth 100000 in
set_option maxHeartbeats 2000000 in
theorem exists_any (y m d : Int) (w : World) (ht : Tb w) :
    Calls Tryd.prog 30 #[.agg #[.int .i64 y, .int .i64 m, .int .i64 d]] w fun e w' => e = .returned (.bool (okB y m d)) ∧ Below w.heap.size w w' := by
  have hO := okB_in y m d
  have hA : ∀ n, Tb ((w.alloc (.cells #[.int .i64 y, .int .i64 m, .int .i64 d] 23)).drewN n) := fun n => ht.below (below_drewN ((Below.refl _ w).alloc (Nat.le_refl _) _) n)
  have HT := Lib.hid hA
  clear hA
  cases h1 : decide (2000 ≤ y)
  · rw [h1] at hO
    have HO := Lib.hid hO; clear hO
    go_enter Tryd.func30, Tryd.ntmps30
    go_wp2
    go_quiet (fail)
    go_wp2
    go_ret
    exact ⟨ret_bool (by rw [HO.out]; rfl), below_drewN ((Below.refl _ _).alloc (Nat.le_refl _) _) _⟩
  · cases h2 : decide (y ≤ 2099)
    · rw [h1, h2] at hO
      have HO := Lib.hid hO; clear hO
      go_enter Tryd.func30, Tryd.ntmps30
      go_wp2
      go_quiet (fail)
      go_wp2
      go_ret
      exact ⟨ret_bool (by rw [HO.out]; rfl), below_drewN ((Below.refl _ _).alloc (Nat.le_refl _) _) _⟩
    · cases h3 : decide (1 ≤ m)
      · rw [h1, h2, h3] at hO
        have HO := Lib.hid hO; clear hO
        go_enter Tryd.func30, Tryd.ntmps30
        go_wp2
        go_quiet (fail)
        go_wp2
        go_ret
        exact ⟨ret_bool (by rw [HO.out]; rfl), below_drewN ((Below.refl _ _).alloc (Nat.le_refl _) _) _⟩
      · cases h4 : decide (m ≤ 12)
        · rw [h1, h2, h3, h4] at hO
          have HO := Lib.hid hO; clear hO
          go_enter Tryd.func30, Tryd.ntmps30
          go_wp2
          go_quiet (fail)
          go_wp2
          go_ret
          exact ⟨ret_bool (by rw [HO.out]; rfl), below_drewN ((Below.refl _ _).alloc (Nat.le_refl _) _) _⟩
        · cases h5 : decide (1 ≤ d)
          · rw [h1, h2, h3, h4, h5] at hO
            have HO := Lib.hid hO; clear hO
            go_enter Tryd.func30, Tryd.ntmps30
            go_wp2
            go_quiet (fail)
            go_wp2
            go_ret
            exact ⟨ret_bool (by rw [HO.out]; rfl), below_drewN ((Below.refl _ _).alloc (Nat.le_refl _) _) _⟩
          · rw [h1, h2, h3, h4, h5] at hO
            have HO := Lib.hid hO; clear hO
            have g1 : 2000 ≤ y := of_decide_eq_true h1
            have g3 : 1 ≤ m := of_decide_eq_true h3
            have g4 : m ≤ 12 := of_decide_eq_true h4
            go_enter Tryd.func30, Tryd.ntmps30
            go_wp2
            go_quiet ((go_at_call 32; exact (Calls.quiet_of (monthLength_q y m _ (by omega) g3 g4 (HT.out _)))))
            go_wp2
            go_ret
            exact ⟨ret_bool (by rw [HO.out]; rfl), below_drewN ((Below.refl _ _).alloc (Nat.le_refl _) _) _⟩

theorem minu_no {y m d c : Int} (h : ¬ (okB y m d = true ∧ 0 ≤ c ∧ c < 1440)) : minu y m d c = ⟨0, 2⟩ := by unfold minu; rw [if_neg h]
set_option maxRecDepth 100000 in
set_option maxHeartbeats 2000000 in
theorem Minute_any (y m d c : Int) (w : World) (ht : Tb w) :
    Calls Tryd.prog 13 #[.agg #[.int .i64 y, .int .i64 m, .int .i64 d], .int .i64 c] w fun e w' => e = .returned (.tuple #[.int .i64 (minu y m d c).n, .int .i64 (minu y m d c).e]) ∧ Below w.heap.size w w' := by
  have HT : Hid (∀ w', Below w.heap.size w w' → Tb w') := Lib.hid (fun w' hb => ht.below hb)
  have HA := Lib.hid (ht.below ((Below.refl _ w).alloc (Nat.le_refl _) (.cells #[.int .i64 y, .int .i64 m, .int .i64 d] 23)))
  cases h1 : okB y m d
  · have HN := Lib.hid (minu_no (c := c) (fun h => by rw [h1] at h; cases h.1))
    have HC := Lib.hid (fun w ht => exists_any y m d w ht)
    rw [h1] at HC
    clear h1
    go_enter Tryd.func13, Tryd.ntmps13
    go_wp2_with fail
    refine (HC.out _ HA.out).mono ?_
    rintro e w1 ⟨rfl, hb⟩
    go_wp2
    go_ret2
    exact ⟨by rw [HN.out]; rfl, below1 hb⟩
  · by_cases h2 : 0 ≤ c ∧ c < 1440
    · obtain ⟨c1, c2⟩ := h2
      have hk := okB_iff.1 h1
      have HR := Lib.hid (minu_ok hk c1 c2)
      have hr := hk.range
      have hY := hk.y1
      have hY2 := hk.y2
      have hM := hk.m1
      have hM2 := hk.m2
      have hd := hk.d1
      have hd2 := hk.d2
      have hml := ml_ge y m
      have HC := Lib.hid (fun w ht => exists_any y m d w ht)
      rw [h1] at HC
      have HK := Lib.hid hk
      have hD : inst y m d c = (d - 1 + dby y + cum y m) * 1440 + c := by unfold inst dn; rw [show dby y + cum y m + d - 1 = d - 1 + dby y + cum y m by omega]
      have HD := Lib.hid hD
      unfold dn at hr
      clear h1 hk hD
      go_enter Tryd.func13, Tryd.ntmps13
      go_wp2_with fail
      refine (HC.out _ HA.out).mono ?_
      rintro e w1 ⟨rfl, hb⟩
      obtain ⟨hc, hf⟩ := bcell hb
      have hz : w.heap.size < w1.heap.size := by have := hb.size; simp at this; omega
      have HB := Lib.hid (below1 hb)
      have HT1 := Lib.hid (HT.out _ HB.out)
      clear hb
      go_wp2
      go_loop [6, 7] (fun a b => ∃ k : Int, 2000 ≤ k ∧ k ≤ y ∧ a = .int .i64 (d - 1 + dby k) ∧ b = .int .i64 k) (fun _ b => (y - intOf b).toNat)
      case atStart => exact ⟨2000, by omega, by omega, by rw [dby_zero]; go_num, rfl⟩
      case round =>
        obtain ⟨k, k1, k2, rfl, rfl⟩ := hrel
        have b1 := dby_mono k1
        have b2 := dby_mono k2
        rw [dby_zero] at b1
        have b3 := cum_bd y hM (by omega)
        have b4 := yl_ge k
        have HS := Lib.hid (dby_succ k)
        by_cases hlt : k < y
        · go_wp2_with fail
          refine (yearLength_any k _ (by omega)).mono ?_
          rintro e w' ⟨rfl, rfl⟩
          go_wp2
          go_round
          case rel => exact ⟨k + 1, by omega, by omega, by rw [HS.out]; go_num, rfl⟩
          case measure => simp [intOf]; omega
        · obtain rfl : k = y := by omega
          go_wp2
          go_loop [6, 8] (fun a b => ∃ j : Int, 1 ≤ j ∧ j ≤ m ∧ a = .int .i64 (d - 1 + dby k + cum k j) ∧ b = .int .i64 j) (fun _ b => (m - intOf b).toNat)
          case atStart => exact ⟨1, by omega, by omega, by rw [cum_one]; go_num, rfl⟩
          case round =>
            obtain ⟨j, j1, j2, rfl, rfl⟩ := hrel
            have b5 := cum_bd k j1 (by omega)
            have b6 := ml_ge k j
            have HU := Lib.hid (cum_succ k j1 (by omega))
            by_cases hlt : j < m
            · go_wp2_with fail
              refine (monthLength_any k j _ (by omega) (by omega) (by omega) HT1.out).mono ?_
              rintro e w' ⟨rfl, rfl⟩
              go_wp2
              go_round
              case rel => exact ⟨j + 1, by omega, by omega, by rw [HU.out]; go_num, rfl⟩
              case measure => simp [intOf]; omega
            · obtain rfl : j = m := by omega
              go_wp2
              go_ret2
              exact ⟨by rw [HR.out, HD.out]; rfl, HB.out⟩
    · have HN := Lib.hid (minu_no (y := y) (m := m) (d := d) (c := c) (fun h => h2 h.2))
      have HC := Lib.hid (fun w ht => exists_any y m d w ht)
      rw [h1] at HC
      clear h1
      by_cases h3 : c < 0
      · clear h2
        go_enter Tryd.func13, Tryd.ntmps13
        go_wp2_with fail
        refine (HC.out _ HA.out).mono ?_
        rintro e w1 ⟨rfl, hb⟩
        go_wp2
        go_ret2
        exact ⟨by rw [HN.out]; rfl, below1 hb⟩
      · have h4 : 1440 ≤ c := by omega
        clear h2
        go_enter Tryd.func13, Tryd.ntmps13
        go_wp2_with fail
        refine (HC.out _ HA.out).mono ?_
        rintro e w1 ⟨rfl, hb⟩
        go_wp2
        go_ret2
        exact ⟨by rw [HN.out]; rfl, below1 hb⟩
end Go.Proofs.YtlkbdnjpcagopaaDoor.Ca
