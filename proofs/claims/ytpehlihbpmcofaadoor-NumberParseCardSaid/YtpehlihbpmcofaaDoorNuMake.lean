/-
  The contracts of Make and Floor of package number and of its reference.
-/
import Derived.Test.YtpehlihbpmcofaaDoorNuCmp
namespace Go.Proofs.YtpehlihbpmcofaaDoor.Nu
open Go.RowKit

theorem below1 {w w1 : World} {A : Obj} (hb : Below (w.alloc A).heap.size (w.alloc A) w1) : Below w.heap.size w w1 :=
  ((Below.refl _ w).alloc (Nat.le_refl _) A).trans (hb.mono (by simp))
theorem size1 {w w1 : World} {A : Obj} (hb : Below (w.alloc A).heap.size (w.alloc A) w1) : w.heap.size < w1.heap.size := by
  have := hb.size; simp at this; omega
set_option maxRecDepth 100000 in
set_option maxHeartbeats 1000000 in
theorem Make_any (n d : Int) (w : World) :
    Calls Tryd.prog 14 #[.int .i64 n, .int .i64 d] w fun e w' => e = .returned (.tuple #[.agg #[.int .i64 (make n d).n, .int .i64 (make n d).d], .int .i64 (make n d).e]) ∧ Below w.heap.size w w' := by
  cases h1 : inB n
  · have HA : Hid (make n d = ⟨0, 0, 2⟩) := Lib.hid (by unfold make; rw [h1]; rfl)
    go_enter Tryd.func14, Tryd.ntmps14
    go_wp2_with fail
    refine (inRange_any _ _).mono ?_
    rintro e w' ⟨rfl, rfl⟩
    go_wp2
    exact bodyPost_ret (v := .tuple #[.agg #[.int .i64 0, .int .i64 0], .int .i64 2]) (by simp [results, Tryd.results14, go_sem]) rfl ⟨by rw [HA.out], (Below.refl _ _).alloc (Nat.le_refl _) _⟩
  · cases h2 : inB d
    · have HA : Hid (make n d = ⟨0, 0, 2⟩) := Lib.hid (by unfold make; rw [h1, h2]; rfl)
      go_enter Tryd.func14, Tryd.ntmps14
      go_wp2_with fail
      refine (inRange_any _ _).mono ?_
      rintro e w' ⟨rfl, rfl⟩
      go_wp2_with fail
      refine (inRange_any _ _).mono ?_
      rintro e w' ⟨rfl, rfl⟩
      go_wp2
      exact bodyPost_ret (v := .tuple #[.agg #[.int .i64 0, .int .i64 0], .int .i64 2]) (by simp [results, Tryd.results14, go_sem]) rfl ⟨by rw [HA.out], (Below.refl _ _).alloc (Nat.le_refl _) _⟩
    · by_cases hz : d = 0
      · subst hz
        have HA : Hid (make n 0 = ⟨0, 0, 16⟩) := Lib.hid (by unfold make; rw [h1, h2]; rfl)
        go_enter Tryd.func14, Tryd.ntmps14
        go_wp2_with fail
        refine (inRange_any _ _).mono ?_
        rintro e w' ⟨rfl, rfl⟩
        go_wp2_with fail
        refine (inRange_any _ _).mono ?_
        rintro e w' ⟨rfl, rfl⟩
        go_wp2
        exact bodyPost_ret (v := .tuple #[.agg #[.int .i64 0, .int .i64 0], .int .i64 16]) (by simp [results, Tryd.results14, go_sem]) rfl ⟨by rw [HA.out], (Below.refl _ _).alloc (Nat.le_refl _) _⟩
      · have HA : Hid (make n d = fit n d) := Lib.hid (by unfold make; rw [h1, h2]; simp [hz])
        have hn : n.natAbs ≤ 1000000000 := by unfold inB at h1; rw [decide_eq_true_iff] at h1; omega
        have hd : d.natAbs ≤ 1000000000 := by unfold inB at h2; rw [decide_eq_true_iff] at h2; omega
        have hz0 : (d == 0) = false := by simpa using hz
        have HZ := Lib.hid hz; clear hz
        go_enter Tryd.func14, Tryd.ntmps14
        go_wp2_with fail
        refine (inRange_any _ _).mono ?_
        rintro e w' ⟨rfl, rfl⟩
        go_wp2_with fail
        refine (inRange_any _ _).mono ?_
        rintro e w' ⟨rfl, rfl⟩
        go_wp2_with fail
        refine (fit_any n d _ (by omega) (by omega) HZ.out).mono ?_
        rintro e w1 ⟨rfl, hb⟩
        obtain ⟨hc, hf⟩ := bcell hb
        have z0 := size1 hb
        have HB := Lib.hid (below1 hb)
        go_wp2
        exact bodyPost_ret (v := .tuple #[.agg #[.int .i64 (fit n d).n, .int .i64 (fit n d).d], .int .i64 (fit n d).e]) (by simp [results, Tryd.results14, go_sem, hc]) rfl ⟨by rw [HA.out], below_two HB.out _ _⟩

set_option maxRecDepth 100000 in
set_option maxHeartbeats 1000000 in
theorem RMake_any (n d : Int) (w : World) :
    Calls Tryd.prog 15 #[.int .i64 n, .int .i64 d] w fun e w' => e = .returned (.tuple #[.agg #[.int .i64 (make n d).n, .int .i64 (make n d).d], .int .i64 (make n d).e]) ∧ Below w.heap.size w w' := by
  by_cases hB : inB n = true ∧ inB d = true
  · obtain ⟨h1, h2⟩ := hB
    have hn : -1000000000 ≤ n ∧ n ≤ 1000000000 := by unfold inB at h1; rw [decide_eq_true_iff] at h1; omega
    have hd : -1000000000 ≤ d ∧ d ≤ 1000000000 := by unfold inB at h2; rw [decide_eq_true_iff] at h2; omega
    obtain ⟨n1, n2⟩ := hn
    obtain ⟨d1, d2⟩ := hd
    by_cases hz : d = 0
    · subst hz
      have HA : Hid (make n 0 = ⟨0, 0, 16⟩) := Lib.hid (by unfold make; rw [h1, h2]; rfl)
      clear h1 h2
      go_enter Tryd.func15, Tryd.ntmps15
      go_wp2
      exact bodyPost_ret (v := .tuple #[.agg #[.int .i64 0, .int .i64 0], .int .i64 16]) (by simp [results, Tryd.results15, go_sem]) rfl ⟨by rw [HA.out], (Below.refl _ _).alloc (Nat.le_refl _) _⟩
    · have HA : Hid (make n d = fit n d) := Lib.hid (by unfold make; rw [h1, h2]; simp [hz])
      have hz0 : (d == 0) = false := by simpa using hz
      have HZ := Lib.hid hz; clear hz h1 h2
      go_enter Tryd.func15, Tryd.ntmps15
      go_wp2_with fail
      refine (form_any n d _ (by omega) (by omega) HZ.out).mono ?_
      rintro e w1 ⟨rfl, hb⟩
      obtain ⟨hc, hf⟩ := bcell hb
      have z0 := size1 hb
      have HB := Lib.hid (below1 hb)
      go_wp2
      exact bodyPost_ret (v := .tuple #[.agg #[.int .i64 (fit n d).n, .int .i64 (fit n d).d], .int .i64 (fit n d).e]) (by simp [results, Tryd.results15, go_sem, hc]) rfl ⟨by rw [HA.out], below_two HB.out _ _⟩
  · have HA : Hid (make n d = ⟨0, 0, 2⟩) := Lib.hid (by unfold make; cases h1 : inB n <;> cases h2 : inB d <;> simp [h1, h2] at hB ⊢)
    have hB2 : n < -1000000000 ∨ 1000000000 < n ∨ d < -1000000000 ∨ 1000000000 < d := by
      unfold inB at hB; simp at hB; omega
    clear hB
    by_cases c1 : n < -1000000000
    · go_enter Tryd.func15, Tryd.ntmps15
      go_wp2
      exact bodyPost_ret (v := .tuple #[.agg #[.int .i64 0, .int .i64 0], .int .i64 2]) (by simp [results, Tryd.results15, go_sem]) rfl ⟨by rw [HA.out], (Below.refl _ _).alloc (Nat.le_refl _) _⟩
    · have e1 : decide (n < -1000000000) = false := by simpa using c1
      by_cases c2 : 1000000000 < n
      · clear hB2
        go_enter Tryd.func15, Tryd.ntmps15
        go_wp2
        exact bodyPost_ret (v := .tuple #[.agg #[.int .i64 0, .int .i64 0], .int .i64 2]) (by simp [results, Tryd.results15, go_sem]) rfl ⟨by rw [HA.out], (Below.refl _ _).alloc (Nat.le_refl _) _⟩
      · have e2 : decide (1000000000 < n) = false := by simpa using c2
        by_cases c3 : d < -1000000000
        · clear hB2
          go_enter Tryd.func15, Tryd.ntmps15
          go_wp2
          exact bodyPost_ret (v := .tuple #[.agg #[.int .i64 0, .int .i64 0], .int .i64 2]) (by simp [results, Tryd.results15, go_sem]) rfl ⟨by rw [HA.out], (Below.refl _ _).alloc (Nat.le_refl _) _⟩
        · have e3 : decide (d < -1000000000) = false := by simpa using c3
          have c4 : 1000000000 < d := by omega
          clear hB2
          go_enter Tryd.func15, Tryd.ntmps15
          go_wp2
          exact bodyPost_ret (v := .tuple #[.agg #[.int .i64 0, .int .i64 0], .int .i64 2]) (by simp [results, Tryd.results15, go_sem]) rfl ⟨by rw [HA.out], (Below.refl _ _).alloc (Nat.le_refl _) _⟩

/-- The largest integer that is at most n / d. -/
def flr (n d : Int) : Int := if okB n d then Int.fdiv n d else 0
def flE (n d : Int) : Int := if okB n d then 0 else 7
set_option maxRecDepth 100000 in
set_option maxHeartbeats 1000000 in
theorem Floor_any (n d : Int) (w : World) :
    Calls Tryd.prog 31 #[.agg #[.int .i64 n, .int .i64 d]] w fun e w' => e = .returned (.tuple #[.int .i64 (flr n d), .int .i64 (flE n d)]) ∧ Below w.heap.size w w' := by
  cases h1 : okB n d
  · have HA : Hid (flr n d = 0 ∧ flE n d = 7) := Lib.hid (by unfold flr flE; rw [h1]; exact ⟨rfl, rfl⟩)
    have V1 := Lib.hid h1; clear h1
    go_enter Tryd.func31, Tryd.ntmps31
    go_wp2_with fail
    refine (Valid_no V1.out _).mono ?_
    rintro e w1 ⟨rfl, hb⟩
    obtain ⟨hc, hf⟩ := bcell hb
    go_wp2
    go_ret2
    exact ⟨by rw [HA.out.1, HA.out.2]; rfl, below1 hb⟩
  · have HA : Hid (flr n d = Int.fdiv n d ∧ flE n d = 0) := Lib.hid (by unfold flr flE; rw [h1]; exact ⟨rfl, rfl⟩)
    have hO := okB_iff.1 h1
    have q1 := hO.n1; have q2 := hO.n2; have q3 := hO.d1
    have V1 := Lib.hid h1; clear h1 hO
    go_enter Tryd.func31, Tryd.ntmps31
    go_wp2_with fail
    refine (Valid_yes V1.out _).mono ?_
    rintro e w1 ⟨rfl, hb⟩
    obtain ⟨hc, hf⟩ := bcell hb
    have z0 := size1 hb
    have HB := Lib.hid (below1 hb)
    go_wp2_with fail
    refine (floor_any n d _ (by omega) (by omega)).mono ?_
    rintro e w2 ⟨rfl, rfl⟩
    go_wp2
    go_ret2
    exact ⟨by rw [HA.out.1, HA.out.2]; rfl, HB.out⟩
theorem flr_ref (n d : Int) (hd : d ≠ 0) : (n - Int.fmod n d).tdiv d = Int.fdiv n d := by
  have h := Int.fmod_add_mul_fdiv n d
  have e : n - Int.fmod n d = d * Int.fdiv n d := by
    generalize d * n.fdiv d = z at *
    generalize n.fmod d = y at *
    omega
  rw [e, Int.mul_tdiv_cancel_left _ hd]
theorem below_q (p q : Int) (w : World) (h1 : q.natAbs ≤ 4611686018427387904) (hq : q ≠ 0) :
    Calls Tryd.prog 51 #[.int .i64 p, .int .i64 q] w fun e w' => e = .returned (.int .i64 (Int.fmod p q)) ∧ ∃ k, w' = w.drewN k :=
  (below_any p q w h1 hq).mono fun _ _ ⟨he, hw⟩ => ⟨he, 0, hw.symm⟩
set_option maxRecDepth 100000 in
set_option maxHeartbeats 1000000 in
theorem RFloor_any (n d : Int) (w : World) :
    Calls Tryd.prog 32 #[.agg #[.int .i64 n, .int .i64 d]] w fun e w' => e = .returned (.tuple #[.int .i64 (flr n d), .int .i64 (flE n d)]) ∧ Below w.heap.size w w' := by
  cases h1 : okB n d
  · have HA : Hid (flr n d = 0 ∧ flE n d = 7) := Lib.hid (by unfold flr flE; rw [h1]; exact ⟨rfl, rfl⟩)
    have V1 := Lib.hid h1; clear h1
    go_enter Tryd.func32, Tryd.ntmps32
    go_wp2_with fail
    refine (RValid_no V1.out _).mono ?_
    rintro e w1 ⟨rfl, hb⟩
    obtain ⟨hc, hf⟩ := bcell hb
    go_wp2
    go_ret2
    exact ⟨by rw [HA.out.1, HA.out.2]; rfl, below1 hb⟩
  · have HA : Hid (flr n d = Int.fdiv n d ∧ flE n d = 0) := Lib.hid (by unfold flr flE; rw [h1]; exact ⟨rfl, rfl⟩)
    have hO := okB_iff.1 h1
    have q1 := hO.n1; have q2 := hO.n2; have q3 := hO.d1; have q4 := hO.d2
    have hm1 := Int.fmod_nonneg_of_pos n (show 0 < d by omega)
    have hm2 := Int.fmod_lt_of_pos n (show 0 < d by omega)
    have e1 : IntKind.i64.wrap (n - Int.fmod n d) = n - Int.fmod n d := IntWalk.i64_in _ (by generalize n.fmod d = y at *; omega)
    have hb0 := tdiv_bd (n - Int.fmod n d) d (B := 3000000000) (by generalize n.fmod d = y at *; omega)
    have e2 := flr_ref n d (by omega)
    rw [e2] at hb0
    have e3 : IntKind.i64.wrap (Int.fdiv n d) = Int.fdiv n d := IntWalk.i64_in _ (by generalize n.fdiv d = y at *; omega)
    have hd0 : (d == 0) = false := by rw [beq_eq_false_iff_ne]; omega
    have V1 := Lib.hid h1; clear h1 hO hm1 hm2 hb0
    go_enter Tryd.func32, Tryd.ntmps32
    go_wp2_with fail
    refine (RValid_yes V1.out _).mono ?_
    rintro e w1 ⟨rfl, hb⟩
    obtain ⟨hc, hf⟩ := bcell hb
    have z0 := size1 hb
    have HB := Lib.hid (below1 hb)
    go_wp2
    go_quiet ((go_at_call 51; exact (Calls.quiet_of (below_q n d _ (by omega) (by omega)))))
    go_wp2
    go_ret2
    exact ⟨by rw [HA.out.1, HA.out.2]; rfl, below_drewN HB.out _⟩
end Go.Proofs.YtpehlihbpmcofaaDoor.Nu
