/-
  The contracts of Start and Add of the calendar's reference.
-/
import Derived.Test.YtlkbdnjpcagopaaDoorCaRDate
import Derived.Test.YtlkbdnjpcagopaaDoorCaAdd
namespace Go.Proofs.YtlkbdnjpcagopaaDoor.Ca
open Go.RowKit
set_option linter.unusedVariables false
set_option linter.unusedSimpArgs false

theorem RStart_no1 {u n : Int} (h : ¬ (0 ≤ n ∧ n < 52596000)) (w : World) :
    Calls Tryd.prog 21 #[.int .i64 u, .int .i64 n] w fun e w' => e = .returned (.tuple #[.int .i64 0, .int .i64 2]) ∧ Below w.heap.size w w' := by
  have HC := Lib.hid (fun w => RDateOf_no h w)
  clear h
  go_enter Tryd.func21, Tryd.ntmps21
  go_wp2_with fail
  (with_reducible refine (HC.out _).mono ?_)
  rintro e w1 ⟨rfl, hb⟩
  go_wp2
  go_ret2
  exact ⟨rfl, hb.alloc hb.size _⟩
theorem bad_unit {u : Int} (h : ¬ (1 ≤ u ∧ u ≤ 5)) : (decide (u < 1) = true) ∨ (decide (u < 1) = false ∧ decide (5 < u) = true) := by
  by_cases a : u < 1
  · exact .inl (by simpa using a)
  · exact .inr ⟨by simpa using a, by simp; omega⟩
set_option maxRecDepth 100000 in
theorem RStart_no2 {y m d c u : Int} (hk : Ok y m d) (c1 : 0 ≤ c) (c2 : c < 1440) (h : ¬ (1 ≤ u ∧ u ≤ 5)) (w : World) :
    Calls Tryd.prog 21 #[.int .i64 u, .int .i64 (inst y m d c)] w fun e w' => e = .returned (.tuple #[.int .i64 0, .int .i64 2]) ∧ Below w.heap.size w w' := by
  have HC := Lib.hid (fun w => RDateOf_yes hk c1 c2 w)
  obtain ⟨n, hn⟩ : ∃ n, inst y m d c = n := ⟨_, rfl⟩
  rw [hn] at HC
  rw [hn]
  clear hn hk
  rcases bad_unit h with h1 | ⟨h1, h2⟩
  all_goals
    clear h
    go_enter Tryd.func21, Tryd.ntmps21
    go_wp2_with fail
    (with_reducible refine (HC.out _).mono ?_)
    rintro e w1 ⟨rfl, hb⟩
    go_wp2
    go_ret2
    exact ⟨rfl, hb.alloc hb.size _⟩
set_option maxRecDepth 100000 in
set_option maxHeartbeats 1000000 in
theorem RStart_yes {y m d c u : Int} (hk : Ok y m d) (c1 : 0 ≤ c) (c2 : c < 1440) (h : 1 ≤ u ∧ u ≤ 5) (w : World) :
    Calls Tryd.prog 21 #[.int .i64 u, .int .i64 (inst y m d c)] w fun e w' => e = .returned (.tuple #[.int .i64 (inst y (sm u m) (sd u d) (sc u c)), .int .i64 0]) ∧ Below w.heap.size w w' := by
  have hr := inst_range hk c1 c2
  have HC := Lib.hid (fun w => RDateOf_yes hk c1 c2 w)
  have hm4 := minu_ok (start_ok 4 hk) (c := 0) (by omega) (by omega)
  have hm5 := minu_ok (start_ok 5 hk) (c := 0) (by omega) (by omega)
  have H4 := Lib.hid (fun w => RMinute_any y m 1 0 w)
  have H5 := Lib.hid (fun w => RMinute_any y 1 1 0 w)
  have e4 : minu y m 1 0 = ⟨inst y m 1 0, 0⟩ := hm4
  have e5 : minu y 1 1 0 = ⟨inst y 1 1 0, 0⟩ := hm5
  rw [e4] at H4
  rw [e5] at H5
  have hu : u = 1 ∨ u = 2 ∨ u = 3 ∨ u = 4 ∨ u = 5 := by omega
  have hq : inst y m d c % 60 = c % 60 := by unfold inst; omega
  have hq2 := hr.2.2.2
  have hdn : inst y m d c = inst y m d 0 + c := by unfold inst; omega
  have hn0 := hr.1
  have hn1 := hr.2.1
  obtain ⟨n, hn⟩ : ∃ n, inst y m d c = n := ⟨_, rfl⟩
  have HE : Hid (inst y (sm u m) (sd u d) (sc u c) = if u = 1 then n else if u = 2 then n - n % 60 else if u = 3 then n - n % 1440 else if u = 4 then inst y m 1 0 else inst y 1 1 0) := Lib.hid (by
    rw [← hn, hq, hq2]
    rcases hu with rfl | rfl | rfl | rfl | rfl
    · rfl
    · show inst y m d (c - c % 60) = inst y m d c - c % 60; unfold inst; omega
    · show inst y m d 0 = inst y m d c - c; omega
    · rfl
    · rfl)
  rw [hn] at HC hn0 hn1
  rw [hn]
  clear hn hr hk hdn h hm4 hm5 e4 e5 hq hq2
  rcases hu with rfl | rfl | rfl | rfl | rfl
  · simp only [Int.reduceEq, if_true, if_false] at HE
    go_enter Tryd.func21, Tryd.ntmps21
    go_wp2_with fail
    (with_reducible refine (HC.out _).mono ?_)
    rintro e w1 ⟨rfl, hb⟩
    go_wp2
    go_ret2
    exact ⟨by rw [HE.out]; rfl, hb.alloc hb.size _⟩
  · simp only [Int.reduceEq, if_true, if_false] at HE
    go_enter Tryd.func21, Tryd.ntmps21
    go_wp2_with fail
    (with_reducible refine (HC.out _).mono ?_)
    rintro e w1 ⟨rfl, hb⟩
    go_wp2
    go_ret2
    exact ⟨by rw [HE.out]; rfl, hb.alloc hb.size _⟩
  · simp only [Int.reduceEq, if_true, if_false] at HE
    go_enter Tryd.func21, Tryd.ntmps21
    go_wp2_with fail
    (with_reducible refine (HC.out _).mono ?_)
    rintro e w1 ⟨rfl, hb⟩
    go_wp2
    go_ret2
    exact ⟨by rw [HE.out]; rfl, hb.alloc hb.size _⟩
  · simp only [Int.reduceEq, if_true, if_false] at HE
    go_enter Tryd.func21, Tryd.ntmps21
    go_wp2_with fail
    (with_reducible refine (HC.out _).mono ?_)
    rintro e w1 ⟨rfl, hb⟩
    go_wp2_with fail
    (with_reducible refine (H4.out _).mono ?_)
    rintro e w2 ⟨rfl, hb2⟩
    go_wp2
    go_ret2
    exact ⟨by rw [HE.out]; rfl, (hb.alloc hb.size _).trans (hb2.mono (hb.alloc hb.size _).size)⟩
  · simp only [Int.reduceEq, if_true, if_false] at HE
    go_enter Tryd.func21, Tryd.ntmps21
    go_wp2_with fail
    (with_reducible refine (HC.out _).mono ?_)
    rintro e w1 ⟨rfl, hb⟩
    go_wp2_with fail
    (with_reducible refine (H5.out _).mono ?_)
    rintro e w2 ⟨rfl, hb2⟩
    go_wp2
    go_ret2
    exact ⟨by rw [HE.out]; rfl, (hb.alloc hb.size _).trans (hb2.mono (hb.alloc hb.size _).size)⟩
theorem RAdd_no1 {u n k : Int} (h : ¬ (0 ≤ n ∧ n < 52596000)) (w : World) :
    Calls Tryd.prog 23 #[.int .i64 n, .int .i64 u, .int .i64 k] w fun e w' => e = .returned (.tuple #[.int .i64 0, .int .i64 2]) ∧ Below w.heap.size w w' := by
  have HC := Lib.hid (fun w => RDateOf_no h w)
  clear h
  go_enter Tryd.func23, Tryd.ntmps23
  go_wp2_with fail
  (with_reducible refine (HC.out _).mono ?_)
  rintro e w1 ⟨rfl, hb⟩
  go_wp2
  go_ret2
  exact ⟨rfl, hb.alloc hb.size _⟩
set_option maxRecDepth 100000 in
theorem RAdd_no2 {y m d c u k : Int} (hk : Ok y m d) (c1 : 0 ≤ c) (c2 : c < 1440) (h : ¬ (1 ≤ u ∧ u ≤ 5)) (w : World) :
    Calls Tryd.prog 23 #[.int .i64 (inst y m d c), .int .i64 u, .int .i64 k] w fun e w' => e = .returned (.tuple #[.int .i64 0, .int .i64 2]) ∧ Below w.heap.size w w' := by
  have HC := Lib.hid (fun w => RDateOf_yes hk c1 c2 w)
  obtain ⟨n, hn⟩ : ∃ n, inst y m d c = n := ⟨_, rfl⟩
  rw [hn] at HC
  rw [hn]
  clear hn hk
  rcases bad_unit h with h1 | ⟨h1, h2⟩
  all_goals
    clear h
    go_enter Tryd.func23, Tryd.ntmps23
    go_wp2_with fail
    (with_reducible refine (HC.out _).mono ?_)
    rintro e w1 ⟨rfl, hb⟩
    go_wp2
    go_ret2
    exact ⟨rfl, hb.alloc hb.size _⟩
end Go.Proofs.YtlkbdnjpcagopaaDoor.Ca
