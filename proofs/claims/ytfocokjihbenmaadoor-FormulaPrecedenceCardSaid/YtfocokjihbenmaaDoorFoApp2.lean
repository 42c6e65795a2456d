/-
  The contracts of the operators, continued.
-/
import Derived.Test.YtfocokjihbenmaaDoorFoApp
namespace Go.Proofs.YtfocokjihbenmaaDoor.Fo
open Go.RowKit Go.Proofs.YtfocokjihbenmaaDoor.Nu
set_option linter.unusedVariables false
set_option linter.unusedSimpArgs false

set_option maxRecDepth 100000 in
set_option maxHeartbeats 2000000 in
theorem ap_and (a p b q : Int) (w : World) : Calls Tryd.prog 31 #[.string ⟨#[97, 110, 100]⟩, .agg #[.int .i64 a, .int .i64 p], .agg #[.int .i64 b, .int .i64 q]] w fun e w' => e = .returned (res (tr (decide (a ≠ 0) && decide (b ≠ 0)))) ∧ Below w.heap.size w w' := by
  cases ha : decide (a ≠ 0)
  · have HA := Lib.hid ha; clear ha
    rw [Bool.false_and]
    go_enter Tryd.func31, Tryd.ntmps31
    go_wp2_with fail
    refine (isTrue_any a p _).mono ?_
    rintro e w1 ⟨rfl, hb⟩
    rw [HA.out]
    obtain ⟨hc, hf⟩ := bcell hb
    obtain ⟨y0, y1, y2⟩ := size3 hb
    have HB := Lib.hid (below3 hb)
    go_wp2_with fail
    refine (truth_any false _).mono ?_
    rintro e w9 ⟨rfl, hb9⟩
    obtain ⟨hc9, hf9⟩ := bcell hb9
    obtain ⟨z0, z1, z2⟩ := size4 y2 hb9
    have HB9 := Lib.hid (HB.out.trans (hb9.mono HB.out.size))
    go_wp2
    exact bodyPost_ret (v := res (tr false)) (by simp [results, Tryd.results31, go_sem, hc9, hc, y2, res, tr]) rfl ⟨rfl, two3 HB9.out _ _⟩
  · have HA := Lib.hid ha; clear ha
    rw [Bool.true_and]
    cases hq : decide (b ≠ 0)
    · have HQ := Lib.hid hq; clear hq
      go_enter Tryd.func31, Tryd.ntmps31
      go_wp2_with fail
      refine (isTrue_any a p _).mono ?_
      rintro e w1 ⟨rfl, hb⟩
      rw [HA.out]
      obtain ⟨hc, hf⟩ := bcell hb
      obtain ⟨y0, y1, y2⟩ := size3 hb
      have HB := Lib.hid (below3 hb)
      go_wp2_with fail
      refine (isTrue_any b q _).mono ?_
      rintro e w2 ⟨rfl, hb2⟩
      rw [HQ.out]
      obtain ⟨hc2, hf2⟩ := bcell hb2
      obtain ⟨x0, x1, x2⟩ := size4 y2 hb2
      have HB2 := Lib.hid (HB.out.trans (hb2.mono HB.out.size))
      go_wp2_with fail
      refine (truth_any false _).mono ?_
      rintro e w9 ⟨rfl, hb9⟩
      obtain ⟨hc9, hf9⟩ := bcell hb9
      obtain ⟨z0, z1, z2⟩ := size4 x2 hb9
      have HB9 := Lib.hid (HB2.out.trans (hb9.mono HB2.out.size))
      go_wp2
      exact bodyPost_ret (v := res (tr false)) (by simp [results, Tryd.results31, go_sem, hc9, hc2, hc, y2, x2, res, tr]) rfl ⟨rfl, two3 HB9.out _ _⟩
    · have HQ := Lib.hid hq; clear hq
      go_enter Tryd.func31, Tryd.ntmps31
      go_wp2_with fail
      refine (isTrue_any a p _).mono ?_
      rintro e w1 ⟨rfl, hb⟩
      rw [HA.out]
      obtain ⟨hc, hf⟩ := bcell hb
      obtain ⟨y0, y1, y2⟩ := size3 hb
      have HB := Lib.hid (below3 hb)
      go_wp2_with fail
      refine (isTrue_any b q _).mono ?_
      rintro e w2 ⟨rfl, hb2⟩
      rw [HQ.out]
      obtain ⟨hc2, hf2⟩ := bcell hb2
      obtain ⟨x0, x1, x2⟩ := size4 y2 hb2
      have HB2 := Lib.hid (HB.out.trans (hb2.mono HB.out.size))
      go_wp2_with fail
      refine (truth_any true _).mono ?_
      rintro e w9 ⟨rfl, hb9⟩
      obtain ⟨hc9, hf9⟩ := bcell hb9
      obtain ⟨z0, z1, z2⟩ := size4 x2 hb9
      have HB9 := Lib.hid (HB2.out.trans (hb9.mono HB2.out.size))
      go_wp2
      exact bodyPost_ret (v := res (tr true)) (by simp [results, Tryd.results31, go_sem, hc9, hc2, hc, y2, x2, res, tr]) rfl ⟨rfl, two3 HB9.out _ _⟩
set_option maxRecDepth 100000 in
set_option maxHeartbeats 2000000 in
theorem ap_or (a p b q : Int) (w : World) : Calls Tryd.prog 31 #[.string ⟨#[111, 114]⟩, .agg #[.int .i64 a, .int .i64 p], .agg #[.int .i64 b, .int .i64 q]] w fun e w' => e = .returned (res (tr (decide (a ≠ 0) || decide (b ≠ 0)))) ∧ Below w.heap.size w w' := by
  cases ha : decide (a ≠ 0)
  · have HA := Lib.hid ha; clear ha
    rw [Bool.false_or]
    cases hq : decide (b ≠ 0)
    · have HQ := Lib.hid hq; clear hq
      go_enter Tryd.func31, Tryd.ntmps31
      go_wp2_with fail
      refine (isTrue_any a p _).mono ?_
      rintro e w1 ⟨rfl, hb⟩
      rw [HA.out]
      obtain ⟨hc, hf⟩ := bcell hb
      obtain ⟨y0, y1, y2⟩ := size3 hb
      have HB := Lib.hid (below3 hb)
      go_wp2_with fail
      refine (isTrue_any b q _).mono ?_
      rintro e w2 ⟨rfl, hb2⟩
      rw [HQ.out]
      obtain ⟨hc2, hf2⟩ := bcell hb2
      obtain ⟨x0, x1, x2⟩ := size4 y2 hb2
      have HB2 := Lib.hid (HB.out.trans (hb2.mono HB.out.size))
      go_wp2_with fail
      refine (truth_any false _).mono ?_
      rintro e w9 ⟨rfl, hb9⟩
      obtain ⟨hc9, hf9⟩ := bcell hb9
      obtain ⟨z0, z1, z2⟩ := size4 x2 hb9
      have HB9 := Lib.hid (HB2.out.trans (hb9.mono HB2.out.size))
      go_wp2
      exact bodyPost_ret (v := res (tr false)) (by simp [results, Tryd.results31, go_sem, hc9, hc2, hc, y2, x2, res, tr]) rfl ⟨rfl, two3 HB9.out _ _⟩
    · have HQ := Lib.hid hq; clear hq
      go_enter Tryd.func31, Tryd.ntmps31
      go_wp2_with fail
      refine (isTrue_any a p _).mono ?_
      rintro e w1 ⟨rfl, hb⟩
      rw [HA.out]
      obtain ⟨hc, hf⟩ := bcell hb
      obtain ⟨y0, y1, y2⟩ := size3 hb
      have HB := Lib.hid (below3 hb)
      go_wp2_with fail
      refine (isTrue_any b q _).mono ?_
      rintro e w2 ⟨rfl, hb2⟩
      rw [HQ.out]
      obtain ⟨hc2, hf2⟩ := bcell hb2
      obtain ⟨x0, x1, x2⟩ := size4 y2 hb2
      have HB2 := Lib.hid (HB.out.trans (hb2.mono HB.out.size))
      go_wp2_with fail
      refine (truth_any true _).mono ?_
      rintro e w9 ⟨rfl, hb9⟩
      obtain ⟨hc9, hf9⟩ := bcell hb9
      obtain ⟨z0, z1, z2⟩ := size4 x2 hb9
      have HB9 := Lib.hid (HB2.out.trans (hb9.mono HB2.out.size))
      go_wp2
      exact bodyPost_ret (v := res (tr true)) (by simp [results, Tryd.results31, go_sem, hc9, hc2, hc, y2, x2, res, tr]) rfl ⟨rfl, two3 HB9.out _ _⟩
  · have HA := Lib.hid ha; clear ha
    rw [Bool.true_or]
    go_enter Tryd.func31, Tryd.ntmps31
    go_wp2_with fail
    refine (isTrue_any a p _).mono ?_
    rintro e w1 ⟨rfl, hb⟩
    rw [HA.out]
    obtain ⟨hc, hf⟩ := bcell hb
    obtain ⟨y0, y1, y2⟩ := size3 hb
    have HB := Lib.hid (below3 hb)
    go_wp2_with fail
    refine (truth_any true _).mono ?_
    rintro e w9 ⟨rfl, hb9⟩
    obtain ⟨hc9, hf9⟩ := bcell hb9
    obtain ⟨z0, z1, z2⟩ := size4 y2 hb9
    have HB9 := Lib.hid (HB.out.trans (hb9.mono HB.out.size))
    go_wp2
    exact bodyPost_ret (v := res (tr true)) (by simp [results, Tryd.results31, go_sem, hc9, hc, y2, res, tr]) rfl ⟨rfl, two3 HB9.out _ _⟩
set_option maxRecDepth 100000 in
set_option maxHeartbeats 2000000 in
theorem ap_eq (a p b q : Int) (w : World) : Calls Tryd.prog 31 #[.string ⟨#[61]⟩, .agg #[.int .i64 a, .int .i64 p], .agg #[.int .i64 b, .int .i64 q]] w fun e w' => e = .returned (res (tr (holdsB [61] (cmp a p b q)))) ∧ Below w.heap.size w w' := by
  have H3 := Lib.hid (fun w => holds_eq (cmp a p b q) (cmp_three a p b q) w)
  have HC := Lib.hid (fun w => Compare_any a p b q w)
  generalize cmp a p b q = c at H3 HC ⊢
  cases hh : holdsB [61] c
  all_goals
    have HH := Lib.hid hh; clear hh
    go_enter Tryd.func31, Tryd.ntmps31
    go_wp2_with fail
    refine (HC.out _).mono ?_
    rintro e w1 ⟨rfl, hb⟩
    obtain ⟨hc, hf⟩ := bcell hb
    obtain ⟨y0, y1, y2⟩ := size3 hb
    have HB := Lib.hid (below3 hb)
    go_wp2_with fail
    refine (H3.out _).mono ?_
    rintro e w2 ⟨rfl, rfl⟩
    rw [HH.out]
    go_wp2_with fail
    refine (truth_any _ _).mono ?_
    rintro e w9 ⟨rfl, hb9⟩
    obtain ⟨hc9, hf9⟩ := bcell hb9
    obtain ⟨z0, z1, z2⟩ := size4 y2 hb9
    have HB9 := Lib.hid (HB.out.trans (hb9.mono HB.out.size))
    go_wp2
    first
      | exact bodyPost_ret (v := res (tr false)) (by simp [results, Tryd.results31, go_sem, hc9, hc, y2, res, tr]) rfl ⟨rfl, two3 HB9.out _ _⟩
      | exact bodyPost_ret (v := res (tr true)) (by simp [results, Tryd.results31, go_sem, hc9, hc, y2, res, tr]) rfl ⟨rfl, two3 HB9.out _ _⟩
set_option maxRecDepth 100000 in
set_option maxHeartbeats 2000000 in
theorem ap_ne (a p b q : Int) (w : World) : Calls Tryd.prog 31 #[.string ⟨#[60, 62]⟩, .agg #[.int .i64 a, .int .i64 p], .agg #[.int .i64 b, .int .i64 q]] w fun e w' => e = .returned (res (tr (holdsB [60, 62] (cmp a p b q)))) ∧ Below w.heap.size w w' := by
  have H3 := Lib.hid (fun w => holds_ne (cmp a p b q) (cmp_three a p b q) w)
  have HC := Lib.hid (fun w => Compare_any a p b q w)
  generalize cmp a p b q = c at H3 HC ⊢
  cases hh : holdsB [60, 62] c
  all_goals
    have HH := Lib.hid hh; clear hh
    go_enter Tryd.func31, Tryd.ntmps31
    go_wp2_with fail
    refine (HC.out _).mono ?_
    rintro e w1 ⟨rfl, hb⟩
    obtain ⟨hc, hf⟩ := bcell hb
    obtain ⟨y0, y1, y2⟩ := size3 hb
    have HB := Lib.hid (below3 hb)
    go_wp2_with fail
    refine (H3.out _).mono ?_
    rintro e w2 ⟨rfl, rfl⟩
    rw [HH.out]
    go_wp2_with fail
    refine (truth_any _ _).mono ?_
    rintro e w9 ⟨rfl, hb9⟩
    obtain ⟨hc9, hf9⟩ := bcell hb9
    obtain ⟨z0, z1, z2⟩ := size4 y2 hb9
    have HB9 := Lib.hid (HB.out.trans (hb9.mono HB.out.size))
    go_wp2
    first
      | exact bodyPost_ret (v := res (tr false)) (by simp [results, Tryd.results31, go_sem, hc9, hc, y2, res, tr]) rfl ⟨rfl, two3 HB9.out _ _⟩
      | exact bodyPost_ret (v := res (tr true)) (by simp [results, Tryd.results31, go_sem, hc9, hc, y2, res, tr]) rfl ⟨rfl, two3 HB9.out _ _⟩
set_option maxRecDepth 100000 in
set_option maxHeartbeats 2000000 in
theorem ap_lt (a p b q : Int) (w : World) : Calls Tryd.prog 31 #[.string ⟨#[60]⟩, .agg #[.int .i64 a, .int .i64 p], .agg #[.int .i64 b, .int .i64 q]] w fun e w' => e = .returned (res (tr (holdsB [60] (cmp a p b q)))) ∧ Below w.heap.size w w' := by
  have H3 := Lib.hid (fun w => holds_lt (cmp a p b q) (cmp_three a p b q) w)
  have HC := Lib.hid (fun w => Compare_any a p b q w)
  generalize cmp a p b q = c at H3 HC ⊢
  cases hh : holdsB [60] c
  all_goals
    have HH := Lib.hid hh; clear hh
    go_enter Tryd.func31, Tryd.ntmps31
    go_wp2_with fail
    refine (HC.out _).mono ?_
    rintro e w1 ⟨rfl, hb⟩
    obtain ⟨hc, hf⟩ := bcell hb
    obtain ⟨y0, y1, y2⟩ := size3 hb
    have HB := Lib.hid (below3 hb)
    go_wp2_with fail
    refine (H3.out _).mono ?_
    rintro e w2 ⟨rfl, rfl⟩
    rw [HH.out]
    go_wp2_with fail
    refine (truth_any _ _).mono ?_
    rintro e w9 ⟨rfl, hb9⟩
    obtain ⟨hc9, hf9⟩ := bcell hb9
    obtain ⟨z0, z1, z2⟩ := size4 y2 hb9
    have HB9 := Lib.hid (HB.out.trans (hb9.mono HB.out.size))
    go_wp2
    first
      | exact bodyPost_ret (v := res (tr false)) (by simp [results, Tryd.results31, go_sem, hc9, hc, y2, res, tr]) rfl ⟨rfl, two3 HB9.out _ _⟩
      | exact bodyPost_ret (v := res (tr true)) (by simp [results, Tryd.results31, go_sem, hc9, hc, y2, res, tr]) rfl ⟨rfl, two3 HB9.out _ _⟩
set_option maxRecDepth 100000 in
set_option maxHeartbeats 2000000 in
theorem ap_gt (a p b q : Int) (w : World) : Calls Tryd.prog 31 #[.string ⟨#[62]⟩, .agg #[.int .i64 a, .int .i64 p], .agg #[.int .i64 b, .int .i64 q]] w fun e w' => e = .returned (res (tr (holdsB [62] (cmp a p b q)))) ∧ Below w.heap.size w w' := by
  have H3 := Lib.hid (fun w => holds_gt (cmp a p b q) (cmp_three a p b q) w)
  have HC := Lib.hid (fun w => Compare_any a p b q w)
  generalize cmp a p b q = c at H3 HC ⊢
  cases hh : holdsB [62] c
  all_goals
    have HH := Lib.hid hh; clear hh
    go_enter Tryd.func31, Tryd.ntmps31
    go_wp2_with fail
    refine (HC.out _).mono ?_
    rintro e w1 ⟨rfl, hb⟩
    obtain ⟨hc, hf⟩ := bcell hb
    obtain ⟨y0, y1, y2⟩ := size3 hb
    have HB := Lib.hid (below3 hb)
    go_wp2_with fail
    refine (H3.out _).mono ?_
    rintro e w2 ⟨rfl, rfl⟩
    rw [HH.out]
    go_wp2_with fail
    refine (truth_any _ _).mono ?_
    rintro e w9 ⟨rfl, hb9⟩
    obtain ⟨hc9, hf9⟩ := bcell hb9
    obtain ⟨z0, z1, z2⟩ := size4 y2 hb9
    have HB9 := Lib.hid (HB.out.trans (hb9.mono HB.out.size))
    go_wp2
    first
      | exact bodyPost_ret (v := res (tr false)) (by simp [results, Tryd.results31, go_sem, hc9, hc, y2, res, tr]) rfl ⟨rfl, two3 HB9.out _ _⟩
      | exact bodyPost_ret (v := res (tr true)) (by simp [results, Tryd.results31, go_sem, hc9, hc, y2, res, tr]) rfl ⟨rfl, two3 HB9.out _ _⟩
set_option maxRecDepth 100000 in
set_option maxHeartbeats 2000000 in
theorem ap_le (a p b q : Int) (w : World) : Calls Tryd.prog 31 #[.string ⟨#[60, 61]⟩, .agg #[.int .i64 a, .int .i64 p], .agg #[.int .i64 b, .int .i64 q]] w fun e w' => e = .returned (res (tr (holdsB [60, 61] (cmp a p b q)))) ∧ Below w.heap.size w w' := by
  have H3 := Lib.hid (fun w => holds_le (cmp a p b q) (cmp_three a p b q) w)
  have HC := Lib.hid (fun w => Compare_any a p b q w)
  generalize cmp a p b q = c at H3 HC ⊢
  cases hh : holdsB [60, 61] c
  all_goals
    have HH := Lib.hid hh; clear hh
    go_enter Tryd.func31, Tryd.ntmps31
    go_wp2_with fail
    refine (HC.out _).mono ?_
    rintro e w1 ⟨rfl, hb⟩
    obtain ⟨hc, hf⟩ := bcell hb
    obtain ⟨y0, y1, y2⟩ := size3 hb
    have HB := Lib.hid (below3 hb)
    go_wp2_with fail
    refine (H3.out _).mono ?_
    rintro e w2 ⟨rfl, rfl⟩
    rw [HH.out]
    go_wp2_with fail
    refine (truth_any _ _).mono ?_
    rintro e w9 ⟨rfl, hb9⟩
    obtain ⟨hc9, hf9⟩ := bcell hb9
    obtain ⟨z0, z1, z2⟩ := size4 y2 hb9
    have HB9 := Lib.hid (HB.out.trans (hb9.mono HB.out.size))
    go_wp2
    first
      | exact bodyPost_ret (v := res (tr false)) (by simp [results, Tryd.results31, go_sem, hc9, hc, y2, res, tr]) rfl ⟨rfl, two3 HB9.out _ _⟩
      | exact bodyPost_ret (v := res (tr true)) (by simp [results, Tryd.results31, go_sem, hc9, hc, y2, res, tr]) rfl ⟨rfl, two3 HB9.out _ _⟩
set_option maxRecDepth 100000 in
set_option maxHeartbeats 2000000 in
theorem ap_ge (a p b q : Int) (w : World) : Calls Tryd.prog 31 #[.string ⟨#[62, 61]⟩, .agg #[.int .i64 a, .int .i64 p], .agg #[.int .i64 b, .int .i64 q]] w fun e w' => e = .returned (res (tr (holdsB [62, 61] (cmp a p b q)))) ∧ Below w.heap.size w w' := by
  have H3 := Lib.hid (fun w => holds_ge (cmp a p b q) (cmp_three a p b q) w)
  have HC := Lib.hid (fun w => Compare_any a p b q w)
  generalize cmp a p b q = c at H3 HC ⊢
  cases hh : holdsB [62, 61] c
  all_goals
    have HH := Lib.hid hh; clear hh
    go_enter Tryd.func31, Tryd.ntmps31
    go_wp2_with fail
    refine (HC.out _).mono ?_
    rintro e w1 ⟨rfl, hb⟩
    obtain ⟨hc, hf⟩ := bcell hb
    obtain ⟨y0, y1, y2⟩ := size3 hb
    have HB := Lib.hid (below3 hb)
    go_wp2_with fail
    refine (H3.out _).mono ?_
    rintro e w2 ⟨rfl, rfl⟩
    rw [HH.out]
    go_wp2_with fail
    refine (truth_any _ _).mono ?_
    rintro e w9 ⟨rfl, hb9⟩
    obtain ⟨hc9, hf9⟩ := bcell hb9
    obtain ⟨z0, z1, z2⟩ := size4 y2 hb9
    have HB9 := Lib.hid (HB.out.trans (hb9.mono HB.out.size))
    go_wp2
    first
      | exact bodyPost_ret (v := res (tr false)) (by simp [results, Tryd.results31, go_sem, hc9, hc, y2, res, tr]) rfl ⟨rfl, two3 HB9.out _ _⟩
      | exact bodyPost_ret (v := res (tr true)) (by simp [results, Tryd.results31, go_sem, hc9, hc, y2, res, tr]) rfl ⟨rfl, two3 HB9.out _ _⟩
end Go.Proofs.YtfocokjihbenmaaDoor.Fo
