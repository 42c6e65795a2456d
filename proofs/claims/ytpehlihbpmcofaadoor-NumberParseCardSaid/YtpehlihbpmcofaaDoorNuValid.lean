/-
  The contracts of Valid of package number and of its reference.
-/
import Derived.Test.YtpehlihbpmcofaaDoorNuFit
namespace Go.Proofs.YtpehlihbpmcofaaDoor.Nu
open Go.RowKit

theorem okB_in (n d : Int) : okB n d = (decide (0 < d) && (inB d && (inB n && (gc n d == 1)))) := by
  unfold okB inB gc
  rw [Bool.eq_iff_iff]; simp; omega
set_option maxHeartbeats 1000000 in
theorem Valid_any (n d : Int) (w : World) :
    Calls Tryd.prog 16 #[.agg #[.int .i64 n, .int .i64 d]] w fun e w' => e = .returned (.bool (okB n d)) ∧ Below w.heap.size w w' := by
  have hO := okB_in n d
  cases h1 : decide (0 < d)
  · rw [h1] at hO
    have HO := Lib.hid hO; clear hO
    go_enter Tryd.func16, Tryd.ntmps16
    go_wp2
    go_ret
    exact ⟨ret_bool (by rw [HO.out]; rfl), (Below.refl _ _).alloc (Nat.le_refl _) _⟩
  · rw [h1] at hO
    cases h2 : inB d
    · rw [h2] at hO
      have HO := Lib.hid hO; clear hO
      go_enter Tryd.func16, Tryd.ntmps16
      go_wp2_with fail
      refine (inRange_any _ _).mono ?_
      rintro e w' ⟨rfl, rfl⟩
      go_wp2
      go_ret
      exact ⟨ret_bool (by rw [HO.out]; rfl), (Below.refl _ _).alloc (Nat.le_refl _) _⟩
    · rw [h2] at hO
      cases h3 : inB n
      · rw [h3] at hO
        have HO := Lib.hid hO; clear hO
        go_enter Tryd.func16, Tryd.ntmps16
        go_wp2_with fail
        refine (inRange_any _ _).mono ?_
        rintro e w' ⟨rfl, rfl⟩
        go_wp2_with fail
        refine (inRange_any _ _).mono ?_
        rintro e w' ⟨rfl, rfl⟩
        go_wp2
        go_ret
        exact ⟨ret_bool (by rw [HO.out]; rfl), (Below.refl _ _).alloc (Nat.le_refl _) _⟩
      · rw [h3] at hO
        have hn : n.natAbs ≤ 1000000000 := by unfold inB at h3; simp at h3; omega
        have hd : d.natAbs ≤ 1000000000 := by unfold inB at h2; simp at h2; omega
        have HO := Lib.hid hO; clear hO
        go_enter Tryd.func16, Tryd.ntmps16
        go_wp2_with fail
        refine (inRange_any _ _).mono ?_
        rintro e w' ⟨rfl, rfl⟩
        go_wp2_with fail
        refine (inRange_any _ _).mono ?_
        rintro e w' ⟨rfl, rfl⟩
        go_wp2_with fail
        refine (divisor_any _ _ _ (by omega) (by omega)).mono ?_
        rintro e w' ⟨rfl, k, rfl⟩
        go_wp2
        go_ret
        exact ⟨ret_bool (by rw [HO.out]; rfl), below_drewN ((Below.refl _ _).alloc (Nat.le_refl _) _) _⟩

theorem gc_abs (n d : Int) : gc (n.natAbs : Int) d = gc n d := by unfold gc Int.gcd; rw [Int.natAbs_natCast]
theorem abs_q (n : Int) (w : World) (h : n.natAbs ≤ 1000000000) : Calls Tryd.prog 48 #[.int .i64 n] w fun e w' => e = .returned (.int .i64 (n.natAbs : Int)) ∧ ∃ k, w' = w.drewN k :=
  (abs_any n w (by omega) (by omega)).mono fun _ _ ⟨he, hw⟩ => ⟨he, 0, hw.symm⟩
theorem gcd_q (n d : Int) (w : World) (h : n.natAbs ≤ 1000000000) (h1 : 1 ≤ d) (h2 : d ≤ 1000000000) : Calls Tryd.prog 47 #[.int .i64 (n.natAbs : Int), .int .i64 d] w fun e w' => e = .returned (.int .i64 (gc n d)) ∧ ∃ k, w' = w.drewN k := by
  have := gcd_any (n.natAbs : Int) d w (by omega) (by omega) (by omega) (by omega)
  rw [gc_abs] at this
  exact this
set_option maxHeartbeats 2000000 in
theorem RefValid_any (n d : Int) (w : World) :
    Calls Tryd.prog 17 #[.agg #[.int .i64 n, .int .i64 d]] w fun e w' => e = .returned (.bool (okB n d)) ∧ Below w.heap.size w w' := by
  have hO := okB_in n d
  by_cases h1 : 1 ≤ d
  · by_cases h2 : d ≤ 1000000000
    · by_cases h3 : -1000000000 ≤ n
      · by_cases h4 : n ≤ 1000000000
        · have hO2 : okB n d = (gc n d == 1) := by
            rw [hO, show decide (0 < d) = true by rw [decide_eq_true_iff]; omega, show inB d = true by unfold inB; rw [decide_eq_true_iff]; omega, show inB n = true by unfold inB; rw [decide_eq_true_iff]; omega]; rfl
          have HO := Lib.hid hO2; clear hO hO2
          have hna : n.natAbs ≤ 1000000000 := by omega
          go_enter Tryd.func17, Tryd.ntmps17
          go_wp2
          go_quiet ((first | (go_at_call 48; exact (Calls.quiet_of (abs_q n _ hna))) | (go_at_call 47; exact (Calls.quiet_of (gcd_q n d _ hna h1 h2)))))
          go_wp2
          go_ret
          exact ⟨ret_bool (by rw [HO.out]), below_drewN ((Below.refl _ _).alloc (Nat.le_refl _) _) _⟩
        · have hd : decide (n ≤ 1000000000) = false := by simpa using h4
          have HO := Lib.hid (show okB n d = false by rw [hO, show inB n = false by unfold inB; rw [decide_eq_false_iff_not]; omega]; simp); clear hO
          go_enter Tryd.func17, Tryd.ntmps17
          go_wp2
          go_quiet ((fail))
          go_wp2
          go_ret
          exact ⟨ret_bool (by rw [HO.out]), below_drewN ((Below.refl _ _).alloc (Nat.le_refl _) _) _⟩
      · have hd : decide (-1000000000 ≤ n) = false := by simpa using h3
        have HO := Lib.hid (show okB n d = false by rw [hO]; unfold inB; simp; omega); clear hO
        go_enter Tryd.func17, Tryd.ntmps17
        go_wp2
        go_quiet ((fail))
        go_wp2
        go_ret
        exact ⟨ret_bool (by rw [HO.out]), below_drewN ((Below.refl _ _).alloc (Nat.le_refl _) _) _⟩
    · have hd : decide (d ≤ 1000000000) = false := by simpa using h2
      have HO := Lib.hid (show okB n d = false by rw [hO]; unfold inB; simp; omega); clear hO
      go_enter Tryd.func17, Tryd.ntmps17
      go_wp2
      go_quiet ((fail))
      go_wp2
      go_ret
      exact ⟨ret_bool (by rw [HO.out]), below_drewN ((Below.refl _ _).alloc (Nat.le_refl _) _) _⟩
  · have hd : decide (1 ≤ d) = false := by simpa using h1
    have HO := Lib.hid (show okB n d = false by rw [hO]; unfold inB; simp; omega); clear hO
    go_enter Tryd.func17, Tryd.ntmps17
    go_wp2
    go_quiet ((fail))
    go_wp2
    go_ret
    exact ⟨ret_bool (by rw [HO.out]), below_drewN ((Below.refl _ _).alloc (Nat.le_refl _) _) _⟩
end Go.Proofs.YtpehlihbpmcofaaDoor.Nu
