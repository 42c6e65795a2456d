/-
  The contracts of days, yearDays, before, Minute, DateOf, Weekday of the calendar's reference.
-/
import Derived.Test.YtlkbdnjpcagopaaDoorCaMom2
namespace Go.Proofs.YtlkbdnjpcagopaaDoor.Ca
open Go.RowKit

set_option maxRecDepth 100000 in
set_option maxHeartbeats 1000000 in
theorem days_any (y m : Int) (w : World) (h : 2000 ≤ y) (h' : y ≤ 2099) (h1 : 1 ≤ m) (h2 : m ≤ 12) : Calls Tryd.prog 33 #[.int .i64 y, .int .i64 m] w fun e w' => e = .returned (.int .i64 (ml y m)) ∧ Below w.heap.size w w' := by
  have H : ml y m = if m = 2 ∧ y % 4 = 0 then 29 else ml 2001 m := by
    split
    · rename_i h; unfold ml; rw [if_pos h.1, if_pos h.2]
    · rename_i h; exact ml_plain h
  by_cases hm : m = 2 ∧ y % 4 = 0
  · rw [if_pos hm] at H
    have HH := Lib.hid H
    obtain ⟨rfl, hy⟩ := hm
    have g1 : (y % 4 == 0) = true := by simp [hy]
    clear H hy
    by_cases g : y % 100 = 0
    · have g2 : y = 2000 := by omega
      subst g2
      go_enter Tryd.func33, Tryd.ntmps33
      go_wp2
      go_ret
      exact ⟨ret_int HH.out.symm, (Below.refl _ _).alloc (Nat.le_refl _) _⟩
    · have g2 : (y % 100 == 0) = false := by simp [g]
      clear g
      go_enter Tryd.func33, Tryd.ntmps33
      go_wp2
      all_goals go_ret
      all_goals exact ⟨ret_int HH.out.symm, (Below.refl _ _).alloc (Nat.le_refl _) _⟩
  · rw [if_neg hm] at H
    have HH := Lib.hid H
    clear H
    by_cases e2 : m = 2
    · subst e2
      have hy : ¬ y % 4 = 0 := fun e => hm ⟨rfl, e⟩
      have g1 : (y % 4 == 0) = false := by simp [hy]
      clear hm hy
      go_enter Tryd.func33, Tryd.ntmps33
      go_wp2
      all_goals go_ret
      all_goals exact ⟨ret_int HH.out.symm, (Below.refl _ _).alloc (Nat.le_refl _) _⟩
    · have hm3 : m = 1 ∨ m = 3 ∨ m = 4 ∨ m = 5 ∨ m = 6 ∨ m = 7 ∨ m = 8 ∨ m = 9 ∨ m = 10 ∨ m = 11 ∨ m = 12 := by omega
      clear hm e2
      rcases hm3 with rfl | rfl | rfl | rfl | rfl | rfl | rfl | rfl | rfl | rfl | rfl
      all_goals
        go_enter Tryd.func33, Tryd.ntmps33
        go_wp2
        go_ret
        exact ⟨ret_int HH.out.symm, (Below.refl _ _).alloc (Nat.le_refl _) _⟩
theorem yearDays_any (y : Int) (w : World) (h : 2000 ≤ y) (h' : y ≤ 2099) : Calls Tryd.prog 35 #[.int .i64 y] w fun e w' => e = .returned (.int .i64 (yl y)) ∧ Below w.heap.size w w' := by
  have H := Lib.hid (show 337 + ml y 2 = yl y by unfold ml yl; simp; split <;> omega)
  have hm := ml_ge y 2
  go_enter Tryd.func35, Tryd.ntmps35
  go_wp2_with fail
  refine (days_any y 2 _ h h' (by omega) (by omega)).mono ?_
  rintro e w1 ⟨rfl, hb⟩
  go_wp2
  go_ret
  exact ⟨ret_int H.out, hb⟩
set_option maxRecDepth 100000 in
set_option maxHeartbeats 1000000 in
theorem before_any {y m d : Int} (hk : Ok y m d) (w : World) : Calls Tryd.prog 34 #[.agg #[.int .i64 y, .int .i64 m, .int .i64 d]] w fun e w' => e = .returned (.int .i64 (d - 1 + cum y m)) ∧ Below w.heap.size w w' := by
  have hY := hk.y1
  have hY2 := hk.y2
  have hM := hk.m1
  have hM2 := hk.m2
  have hd := hk.d1
  have hd2 := hk.d2
  have hml := ml_ge y m
  clear hk
  go_enter Tryd.func34, Tryd.ntmps34
  go_wp2
  go_loopw [3, 4] (fun a b wr => ∃ j : Int, 1 ≤ j ∧ j ≤ m ∧ a = .int .i64 (d - 1 + cum y j) ∧ b = .int .i64 j ∧ Below (w.alloc (.cells #[.int .i64 y, .int .i64 m, .int .i64 d] 23)).heap.size (w.alloc (.cells #[.int .i64 y, .int .i64 m, .int .i64 d] 23)) wr) (fun _ b _ => (m - intOf b).toNat)
  case atStart => exact ⟨1, by omega, by omega, by rw [cum_one]; go_num, rfl, Below.refl _ _⟩
  case round =>
    obtain ⟨j, j1, j2, rfl, rfl, hb⟩ := hrel
    obtain ⟨hc, hf⟩ := bcell hb
    have b5 := cum_bd y j1 (by omega)
    have b6 := ml_ge y j
    have HU := Lib.hid (cum_succ y j1 (by omega))
    have HB := Lib.hid hb
    clear hb
    by_cases hlt : j < m
    · go_wp2_with fail
      refine (days_any y j _ hY hY2 (by omega) (by omega)).mono ?_
      rintro e w1 ⟨rfl, hb1⟩
      have HB1 := Lib.hid (HB.out.trans (hb1.mono HB.out.size))
      clear hb1
      go_wp2
      go_roundw
      case rel => exact ⟨j + 1, by omega, by omega, by rw [HU.out]; go_num, rfl, HB1.out⟩
      case measure => simp [intOf]; omega
    · obtain rfl : j = m := by omega
      go_wp2
      go_ret
      exact ⟨rfl, below1 HB.out⟩
end Go.Proofs.YtlkbdnjpcagopaaDoor.Ca
