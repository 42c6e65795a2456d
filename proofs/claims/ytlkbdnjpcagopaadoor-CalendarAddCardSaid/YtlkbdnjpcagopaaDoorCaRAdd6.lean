/-
  The contract of Add of the calendar's reference.
-/
import Derived.Test.YtlkbdnjpcagopaaDoorCaRAdd4
import Derived.Test.YtlkbdnjpcagopaaDoorCaRAdd5
namespace Go.Proofs.YtlkbdnjpcagopaaDoor.Ca
open Go.RowKit
set_option linter.unusedVariables false
set_option linter.unusedSimpArgs false

set_option maxRecDepth 100000 in
set_option maxHeartbeats 2000000 in
theorem RAdd_yes {y m d c u k : Int} (hk : Ok y m d) (c1 : 0 ≤ c) (c2 : c < 1440) (h : 1 ≤ u ∧ u ≤ 5) (w : World) :
    Calls Tryd.prog 23 #[.int .i64 (inst y m d c), .int .i64 u, .int .i64 k] w fun e w' => e = .returned (.tuple #[.int .i64 (addU y m d c u k).n, .int .i64 (addU y m d c u k).e]) ∧ Below w.heap.size w w' := by
  have hA := addU_ref (k := k) hk c1 c2 h
  have hr := inst_range hk c1 c2
  have HC := Lib.hid (fun w => RDateOf_yes hk c1 c2 w)
  have hu : u = 4 ∨ u = 5 ∨ u = 1 ∨ u = 2 ∨ u = 3 := by omega
  by_cases hb1 : k < -52596000
  · rw [if_pos (.inl hb1)] at hA
    have HA := Lib.hid hA
    obtain ⟨n, hn⟩ : ∃ n, inst y m d c = n := ⟨_, rfl⟩
    rw [hn] at HC
    rw [hn]
    clear hr h hA hk hn
    have g1 : decide (k < -52596000) = true := by simpa using hb1
    rcases hu with rfl | rfl | rfl | rfl | rfl
    all_goals
      go_enter Tryd.func23, Tryd.ntmps23
      go_wp2_with fail
      (with_reducible refine (HC.out _).mono ?_)
      rintro e w1 ⟨rfl, hb⟩
      go_wp2
      go_ret2
      exact ⟨by rw [HA.out]; rfl, hb.alloc hb.size _⟩
  · by_cases hb2 : 52596000 < k
    · rw [if_pos (.inr hb2)] at hA
      have HA := Lib.hid hA
      obtain ⟨n, hn⟩ : ∃ n, inst y m d c = n := ⟨_, rfl⟩
      rw [hn] at HC
      rw [hn]
      clear hr h hA hk hn
      rcases hu with rfl | rfl | rfl | rfl | rfl
      all_goals
        go_enter Tryd.func23, Tryd.ntmps23
        go_wp2_with fail
        (with_reducible refine (HC.out _).mono ?_)
        rintro e w1 ⟨rfl, hb⟩
        go_wp2
        go_ret2
        exact ⟨by rw [HA.out]; rfl, hb.alloc hb.size _⟩
    · rw [if_neg (by omega)] at hA
      rcases hu with rfl | rfl | hu
      · simp only [if_true] at hA
        rw [hA]; exact RAdd_4 hk c1 c2 (by omega) (by omega) w
      · simp only [Int.reduceEq, if_true, if_false] at hA
        rw [hA, Int.mul_comm 12 k]; exact RAdd_5 hk c1 c2 (by omega) (by omega) w
      · obtain ⟨r0, r1, _, _⟩ := hr
        obtain ⟨n, hn⟩ : ∃ n, inst y m d c = n := ⟨_, rfl⟩
        rw [hn] at HC hA r0 r1
        rw [hn]
        obtain ⟨q, hq⟩ : ∃ q, k * (if u = 1 then 1 else if u = 2 then 60 else 1440) = q := ⟨_, rfl⟩
        have hu4 : ¬ u = 4 ∧ ¬ u = 5 := by omega
        rw [if_neg hu4.1, if_neg hu4.2, hq] at hA
        have HA := Lib.hid hA
        clear hA hu4 h hk hn
        by_cases hin : 0 ≤ n + q ∧ n + q < 52596000
        · rw [if_pos hin] at HA
          have HI := Lib.hid (fun w => rinst hin w)
          rcases hu with rfl | rfl | rfl
          all_goals
            simp only [Int.reduceEq, if_true, if_false] at hq
            subst hq
            clear hin
            go_enter Tryd.func23, Tryd.ntmps23
            go_wp2_with fail
            (with_reducible refine (HC.out _).mono ?_)
            rintro e w1 ⟨rfl, hb⟩
            have HB := Lib.hid ((hb.alloc hb.size (.cells #[.int .i64 y, .int .i64 m, .int .i64 d] 23)).alloc (by rw [World.size_alloc]; have := hb.size; omega) (.cells #[.int .i64 0, .int .i64 1, .int .i64 60, .int .i64 1440] 3))
            clear hb
            go_wp2_with fail
            ((first | (with_reducible refine (HI.out _).mono ?_) | (rw [Int.mul_one] at HI; (with_reducible refine (HI.out _).mono ?_))))
            rintro e w2 ⟨rfl, rfl⟩
            go_wp2
            go_ret2
            exact ⟨by rw [HA.out]; simp, HB.out⟩
        · rw [if_neg hin] at HA
          have HI := Lib.hid (fun w => rinst_no hin w)
          rcases hu with rfl | rfl | rfl
          all_goals
            simp only [Int.reduceEq, if_true, if_false] at hq
            subst hq
            clear hin
            go_enter Tryd.func23, Tryd.ntmps23
            go_wp2_with fail
            (with_reducible refine (HC.out _).mono ?_)
            rintro e w1 ⟨rfl, hb⟩
            have HB := Lib.hid ((hb.alloc hb.size (.cells #[.int .i64 y, .int .i64 m, .int .i64 d] 23)).alloc (by rw [World.size_alloc]; have := hb.size; omega) (.cells #[.int .i64 0, .int .i64 1, .int .i64 60, .int .i64 1440] 3))
            clear hb
            go_wp2_with fail
            ((first | (with_reducible refine (HI.out _).mono ?_) | (rw [Int.mul_one] at HI; (with_reducible refine (HI.out _).mono ?_))))
            rintro e w2 ⟨rfl, rfl⟩
            go_wp2
            go_ret2
            exact ⟨by rw [HA.out]; rfl, HB.out⟩
end Go.Proofs.YtlkbdnjpcagopaaDoor.Ca
