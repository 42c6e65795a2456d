/-
  The contracts of Valid of package number and of its reference.
-/
import Derived.Test.YtfocokjihbenmaaDoorNuFit
namespace Go.Proofs.YtfocokjihbenmaaDoor.Nu
open Go.RowKit

theorem okB_in (n d : Int) : okB n d = (decide (0 < d) && (inB d && (inB n && (gc n d == 1)))) := by
  unfold okB inB gc
  rw [Bool.eq_iff_iff]; simp; omega
set_option maxHeartbeats 1000000 in
theorem Valid_any (n d : Int) (w : World) :
    Calls Tryd.prog 83 #[.agg #[.int .i64 n, .int .i64 d]] w fun e w' => e = .returned (.bool (okB n d)) ∧ Below w.heap.size w w' := by
  have hO := okB_in n d
  cases h1 : decide (0 < d)
  · rw [h1] at hO
    have HO := Lib.hid hO; clear hO
    go_enter Tryd.func83, Tryd.ntmps83
    go_wp2
    go_ret
    exact ⟨ret_bool (by rw [HO.out]; rfl), (Below.refl _ _).alloc (Nat.le_refl _) _⟩
  · rw [h1] at hO
    cases h2 : inB d
    · rw [h2] at hO
      have HO := Lib.hid hO; clear hO
      go_enter Tryd.func83, Tryd.ntmps83
      go_wp2_with fail
      refine (inRange_any _ _).mono ?_
      rintro e w' ⟨rfl, rfl⟩
      go_wp2
      go_ret
      exact ⟨ret_bool (by rw [HO.out]; rfl), (Below.refl _ _).alloc (Nat.le_refl _) _⟩
    · rw [h2] at hO
      cases h3 : inB n
      · rw [h3] at hO
        have HO := Lib.hid hO; clear hO
        go_enter Tryd.func83, Tryd.ntmps83
        go_wp2_with fail
        refine (inRange_any _ _).mono ?_
        rintro e w' ⟨rfl, rfl⟩
        go_wp2_with fail
        refine (inRange_any _ _).mono ?_
        rintro e w' ⟨rfl, rfl⟩
        go_wp2
        go_ret
        exact ⟨ret_bool (by rw [HO.out]; rfl), (Below.refl _ _).alloc (Nat.le_refl _) _⟩
      · rw [h3] at hO
        have hn : n.natAbs ≤ 1000000000 := by unfold inB at h3; simp at h3; omega
        have hd : d.natAbs ≤ 1000000000 := by unfold inB at h2; simp at h2; omega
        have HO := Lib.hid hO; clear hO
        go_enter Tryd.func83, Tryd.ntmps83
        go_wp2_with fail
        refine (inRange_any _ _).mono ?_
        rintro e w' ⟨rfl, rfl⟩
        go_wp2_with fail
        refine (inRange_any _ _).mono ?_
        rintro e w' ⟨rfl, rfl⟩
        go_wp2_with fail
        refine (divisor_any _ _ _ (by omega) (by omega)).mono ?_
        rintro e w' ⟨rfl, k, rfl⟩
        go_wp2
        go_ret
        exact ⟨ret_bool (by rw [HO.out]; rfl), below_drewN ((Below.refl _ _).alloc (Nat.le_refl _) _) _⟩

theorem gc_abs (n d : Int) : gc (n.natAbs : Int) d = gc n d := by unfold gc Int.gcd; rw [Int.natAbs_natCast]
end Go.Proofs.YtfocokjihbenmaaDoor.Nu
