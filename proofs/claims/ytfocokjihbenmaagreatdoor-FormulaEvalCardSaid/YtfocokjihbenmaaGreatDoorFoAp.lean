/-
  The contracts of the operators.
  The contracts of the operators, continued.
  The contracts of roundTo, raise and the operators in front of their operand.
  The trees that formulas have, and their values.
  The contract of applyPrefix at every operator, and of apply at every operator.
  The contract of value.
-/
import Derived.Test.YtfocokjihbenmaaGreatDoorFoMm
import Derived.Test.YtfocokjihbenmaaGreatDoorNuMo
import Derived.Deep.RegionWith
import Derived.Test.YtfocokjihbenmaaGreatDoorFoPl
import Derived.Test.YtfocokjihbenmaaGreatDoorNuPs
namespace Go.Proofs.YtfocokjihbenmaaGreatDoor.Fo
open Go.RowKit Go.Proofs.YtfocokjihbenmaaGreatDoor.Nu
set_option linter.unusedVariables false
set_option linter.unusedSimpArgs false

def num2 (n d : Int) : Value := .agg #[.int .i64 n, .int .i64 d]
def res (r : R3) : Value := .tuple #[.agg #[.int .i64 r.n, .int .i64 r.d], .int .i64 r.e]
theorem integer_any (i : Int) (w : World) : Calls Tryz.prog 62 #[.int .i64 i] w fun e w' => e = .returned (.agg #[.int .i64 i, .int .i64 1]) ∧ Below w.heap.size w w' := by
  go_enter Tryz.func62, Tryz.ntmps62
  go_wp2
  exact bodyPost_ret (v := .agg #[.int .i64 i, .int .i64 1]) (by simp [results, Tryz.results62, go_sem]) rfl ⟨rfl, (Below.refl _ w).alloc (Nat.le_refl _) _⟩
theorem one3 {w W : World} (h : Below w.heap.size w W) (u v : Value) : Below w.heap.size w ((W.setCell ⟨w.heap.size, 0, none⟩ u).setCell ⟨w.heap.size, 1, none⟩ v) := (h.setCell (Nat.le_refl _) _).setCell (Nat.le_refl _) _
theorem truth_any (b : Bool) (w : World) : Calls Tryz.prog 63 #[.bool b] w fun e w' => e = .returned (.agg #[.int .i64 (tr b).n, .int .i64 1]) ∧ Below w.heap.size w w' := by
  cases b
  all_goals
    go_enter Tryz.func63, Tryz.ntmps63
    go_wp2_with fail
    refine (integer_any _ _).mono ?_
    rintro e w1 ⟨rfl, hb⟩
    obtain ⟨hc, hf⟩ := bcell hb
    have hz : w.heap.size < w1.heap.size := by have := hb.size; simp at this; omega
    have HB := Lib.hid (below1 hb)
    go_wp2
    first
      | exact bodyPost_ret (v := .agg #[.int .i64 0, .int .i64 1]) (by simp [results, Tryz.results63, go_sem, hc]) rfl ⟨rfl, one3 HB.out _ _⟩
      | exact bodyPost_ret (v := .agg #[.int .i64 1, .int .i64 1]) (by simp [results, Tryz.results63, go_sem, hc]) rfl ⟨rfl, one3 HB.out _ _⟩
theorem isTrue_any (n d : Int) (w : World) : Calls Tryz.prog 64 #[.agg #[.int .i64 n, .int .i64 d]] w fun e w' => e = .returned (.bool (decide (n ≠ 0))) ∧ Below w.heap.size w w' := by
  by_cases hn : n = 0
  · subst hn
    go_enter Tryz.func64, Tryz.ntmps64
    go_wp2
    go_ret
    exact ⟨rfl, (Below.refl _ w).alloc (Nat.le_refl _) _⟩
  · have hd : (n == 0) = false := by simpa using hn
    have HN := Lib.hid hn; clear hn
    go_enter Tryz.func64, Tryz.ntmps64
    go_wp2
    go_ret
    exact ⟨by rw [decide_eq_true HN.out]; simp [hd, bne], (Below.refl _ w).alloc (Nat.le_refl _) _⟩
theorem holds_eq (c : Int) (hc : c = -1 ∨ c = 0 ∨ c = 1) (w : World) : Calls Tryz.prog 72 #[.string ⟨#[61]⟩, .int .i64 c] w fun e w' => e = .returned (.bool (holdsB [61] c)) ∧ w' = w := by
  rcases hc with rfl | rfl | rfl
  all_goals
    go_enter Tryz.func72, Tryz.ntmps72
    go_wp2
    go_ret
    exact ⟨rfl, rfl⟩
theorem holds_ne (c : Int) (hc : c = -1 ∨ c = 0 ∨ c = 1) (w : World) : Calls Tryz.prog 72 #[.string ⟨#[60, 62]⟩, .int .i64 c] w fun e w' => e = .returned (.bool (holdsB [60, 62] c)) ∧ w' = w := by
  rcases hc with rfl | rfl | rfl
  all_goals
    go_enter Tryz.func72, Tryz.ntmps72
    go_wp2
    go_ret
    exact ⟨rfl, rfl⟩
theorem holds_lt (c : Int) (hc : c = -1 ∨ c = 0 ∨ c = 1) (w : World) : Calls Tryz.prog 72 #[.string ⟨#[60]⟩, .int .i64 c] w fun e w' => e = .returned (.bool (holdsB [60] c)) ∧ w' = w := by
  rcases hc with rfl | rfl | rfl
  all_goals
    go_enter Tryz.func72, Tryz.ntmps72
    go_wp2
    go_ret
    exact ⟨rfl, rfl⟩
theorem holds_gt (c : Int) (hc : c = -1 ∨ c = 0 ∨ c = 1) (w : World) : Calls Tryz.prog 72 #[.string ⟨#[62]⟩, .int .i64 c] w fun e w' => e = .returned (.bool (holdsB [62] c)) ∧ w' = w := by
  rcases hc with rfl | rfl | rfl
  all_goals
    go_enter Tryz.func72, Tryz.ntmps72
    go_wp2
    go_ret
    exact ⟨rfl, rfl⟩
theorem holds_le (c : Int) (hc : c = -1 ∨ c = 0 ∨ c = 1) (w : World) : Calls Tryz.prog 72 #[.string ⟨#[60, 61]⟩, .int .i64 c] w fun e w' => e = .returned (.bool (holdsB [60, 61] c)) ∧ w' = w := by
  rcases hc with rfl | rfl | rfl
  all_goals
    go_enter Tryz.func72, Tryz.ntmps72
    go_wp2
    go_ret
    exact ⟨rfl, rfl⟩
theorem holds_ge (c : Int) (hc : c = -1 ∨ c = 0 ∨ c = 1) (w : World) : Calls Tryz.prog 72 #[.string ⟨#[62, 61]⟩, .int .i64 c] w fun e w' => e = .returned (.bool (holdsB [62, 61] c)) ∧ w' = w := by
  rcases hc with rfl | rfl | rfl
  all_goals
    go_enter Tryz.func72, Tryz.ntmps72
    go_wp2
    go_ret
    exact ⟨rfl, rfl⟩
theorem cmp_three (a p b q : Int) : cmp a p b q = -1 ∨ cmp a p b q = 0 ∨ cmp a p b q = 1 := by
  unfold cmp; repeat' split
  all_goals omega
set_option maxRecDepth 100000 in
set_option maxHeartbeats 2000000 in
theorem ap_add (a p b q : Int) (w : World) : Calls Tryz.prog 36 #[.string ⟨#[43]⟩, .agg #[.int .i64 a, .int .i64 p], .agg #[.int .i64 b, .int .i64 q]] w fun e w' => e = .returned (res (add a p b q)) ∧ Below w.heap.size w w' := by
  go_enter Tryz.func36, Tryz.ntmps36
  go_wp2_with fail
  refine (Add_any a p b q _).mono ?_
  rintro e w1 ⟨rfl, hb⟩
  obtain ⟨hc, hf⟩ := bcell hb
  obtain ⟨z0, z1, z2⟩ := size3 hb
  have HB := Lib.hid (below3 hb)
  go_wp2
  exact bodyPost_ret (v := res (add a p b q)) (by simp [results, Tryz.results36, go_sem, hc, res]) rfl ⟨rfl, two3 HB.out _ _⟩
set_option maxRecDepth 100000 in
set_option maxHeartbeats 2000000 in
theorem ap_sub (a p b q : Int) (h : I64 b) (w : World) : Calls Tryz.prog 36 #[.string ⟨#[45]⟩, .agg #[.int .i64 a, .int .i64 p], .agg #[.int .i64 b, .int .i64 q]] w fun e w' => e = .returned (res (sub a p b q)) ∧ Below w.heap.size w w' := by
  go_enter Tryz.func36, Tryz.ntmps36
  go_wp2_with fail
  refine (Sub_any a p b q _ h).mono ?_
  rintro e w1 ⟨rfl, hb⟩
  obtain ⟨hc, hf⟩ := bcell hb
  obtain ⟨z0, z1, z2⟩ := size3 hb
  have HB := Lib.hid (below3 hb)
  go_wp2
  exact bodyPost_ret (v := res (sub a p b q)) (by simp [results, Tryz.results36, go_sem, hc, res]) rfl ⟨rfl, two3 HB.out _ _⟩
set_option maxRecDepth 100000 in
set_option maxHeartbeats 2000000 in
theorem ap_mul (a p b q : Int) (w : World) : Calls Tryz.prog 36 #[.string ⟨#[42]⟩, .agg #[.int .i64 a, .int .i64 p], .agg #[.int .i64 b, .int .i64 q]] w fun e w' => e = .returned (res (mul a p b q)) ∧ Below w.heap.size w w' := by
  go_enter Tryz.func36, Tryz.ntmps36
  go_wp2_with fail
  refine (Mul_any a p b q _).mono ?_
  rintro e w1 ⟨rfl, hb⟩
  obtain ⟨hc, hf⟩ := bcell hb
  obtain ⟨z0, z1, z2⟩ := size3 hb
  have HB := Lib.hid (below3 hb)
  go_wp2
  exact bodyPost_ret (v := res (mul a p b q)) (by simp [results, Tryz.results36, go_sem, hc, res]) rfl ⟨rfl, two3 HB.out _ _⟩
set_option maxRecDepth 100000 in
set_option maxHeartbeats 2000000 in
theorem ap_div (a p b q : Int) (w : World) : Calls Tryz.prog 36 #[.string ⟨#[47]⟩, .agg #[.int .i64 a, .int .i64 p], .agg #[.int .i64 b, .int .i64 q]] w fun e w' => e = .returned (res (div a p b q)) ∧ Below w.heap.size w w' := by
  go_enter Tryz.func36, Tryz.ntmps36
  go_wp2_with fail
  refine (Div_any a p b q _).mono ?_
  rintro e w1 ⟨rfl, hb⟩
  obtain ⟨hc, hf⟩ := bcell hb
  obtain ⟨z0, z1, z2⟩ := size3 hb
  have HB := Lib.hid (below3 hb)
  go_wp2
  exact bodyPost_ret (v := res (div a p b q)) (by simp [results, Tryz.results36, go_sem, hc, res]) rfl ⟨rfl, two3 HB.out _ _⟩
set_option maxRecDepth 100000 in
set_option maxHeartbeats 2000000 in
theorem ap_mod (a p b q : Int) (w : World) : Calls Tryz.prog 36 #[.string ⟨#[109, 111, 100]⟩, .agg #[.int .i64 a, .int .i64 p], .agg #[.int .i64 b, .int .i64 q]] w fun e w' => e = .returned (res (mod a p b q)) ∧ Below w.heap.size w w' := by
  go_enter Tryz.func36, Tryz.ntmps36
  go_wp2_with fail
  refine (Mod_any a p b q _).mono ?_
  rintro e w1 ⟨rfl, hb⟩
  obtain ⟨hc, hf⟩ := bcell hb
  obtain ⟨z0, z1, z2⟩ := size3 hb
  have HB := Lib.hid (below3 hb)
  go_wp2
  exact bodyPost_ret (v := res (mod a p b q)) (by simp [results, Tryz.results36, go_sem, hc, res]) rfl ⟨rfl, two3 HB.out _ _⟩
end Go.Proofs.YtfocokjihbenmaaGreatDoor.Fo

namespace Go.Proofs.YtfocokjihbenmaaGreatDoor.Fo
open Go.RowKit Go.Proofs.YtfocokjihbenmaaGreatDoor.Nu
set_option linter.unusedVariables false
set_option linter.unusedSimpArgs false

set_option maxRecDepth 100000 in
set_option maxHeartbeats 2000000 in
theorem ap_and (a p b q : Int) (w : World) : Calls Tryz.prog 36 #[.string ⟨#[97, 110, 100]⟩, .agg #[.int .i64 a, .int .i64 p], .agg #[.int .i64 b, .int .i64 q]] w fun e w' => e = .returned (res (tr (decide (a ≠ 0) && decide (b ≠ 0)))) ∧ Below w.heap.size w w' := by
  cases ha : decide (a ≠ 0)
  · have HA := Lib.hid ha; clear ha
    rw [Bool.false_and]
    go_enter Tryz.func36, Tryz.ntmps36
    go_wp2_with fail
    refine (isTrue_any a p _).mono ?_
    rintro e w1 ⟨rfl, hb⟩
    rw [HA.out]
    obtain ⟨hc, hf⟩ := bcell hb
    obtain ⟨y0, y1, y2⟩ := size3 hb
    have HB := Lib.hid (below3 hb)
    go_wp2_with fail
    refine (truth_any false _).mono ?_
    rintro e w9 ⟨rfl, hb9⟩
    obtain ⟨hc9, hf9⟩ := bcell hb9
    obtain ⟨z0, z1, z2⟩ := size4 y2 hb9
    have HB9 := Lib.hid (HB.out.trans (hb9.mono HB.out.size))
    go_wp2
    exact bodyPost_ret (v := res (tr false)) (by simp [results, Tryz.results36, go_sem, hc9, hc, y2, res, tr]) rfl ⟨rfl, two3 HB9.out _ _⟩
  · have HA := Lib.hid ha; clear ha
    rw [Bool.true_and]
    cases hq : decide (b ≠ 0)
    · have HQ := Lib.hid hq; clear hq
      go_enter Tryz.func36, Tryz.ntmps36
      go_wp2_with fail
      refine (isTrue_any a p _).mono ?_
      rintro e w1 ⟨rfl, hb⟩
      rw [HA.out]
      obtain ⟨hc, hf⟩ := bcell hb
      obtain ⟨y0, y1, y2⟩ := size3 hb
      have HB := Lib.hid (below3 hb)
      go_wp2_with fail
      refine (isTrue_any b q _).mono ?_
      rintro e w2 ⟨rfl, hb2⟩
      rw [HQ.out]
      obtain ⟨hc2, hf2⟩ := bcell hb2
      obtain ⟨x0, x1, x2⟩ := size4 y2 hb2
      have HB2 := Lib.hid (HB.out.trans (hb2.mono HB.out.size))
      go_wp2_with fail
      refine (truth_any false _).mono ?_
      rintro e w9 ⟨rfl, hb9⟩
      obtain ⟨hc9, hf9⟩ := bcell hb9
      obtain ⟨z0, z1, z2⟩ := size4 x2 hb9
      have HB9 := Lib.hid (HB2.out.trans (hb9.mono HB2.out.size))
      go_wp2
      exact bodyPost_ret (v := res (tr false)) (by simp [results, Tryz.results36, go_sem, hc9, hc2, hc, y2, x2, res, tr]) rfl ⟨rfl, two3 HB9.out _ _⟩
    · have HQ := Lib.hid hq; clear hq
      go_enter Tryz.func36, Tryz.ntmps36
      go_wp2_with fail
      refine (isTrue_any a p _).mono ?_
      rintro e w1 ⟨rfl, hb⟩
      rw [HA.out]
      obtain ⟨hc, hf⟩ := bcell hb
      obtain ⟨y0, y1, y2⟩ := size3 hb
      have HB := Lib.hid (below3 hb)
      go_wp2_with fail
      refine (isTrue_any b q _).mono ?_
      rintro e w2 ⟨rfl, hb2⟩
      rw [HQ.out]
      obtain ⟨hc2, hf2⟩ := bcell hb2
      obtain ⟨x0, x1, x2⟩ := size4 y2 hb2
      have HB2 := Lib.hid (HB.out.trans (hb2.mono HB.out.size))
      go_wp2_with fail
      refine (truth_any true _).mono ?_
      rintro e w9 ⟨rfl, hb9⟩
      obtain ⟨hc9, hf9⟩ := bcell hb9
      obtain ⟨z0, z1, z2⟩ := size4 x2 hb9
      have HB9 := Lib.hid (HB2.out.trans (hb9.mono HB2.out.size))
      go_wp2
      exact bodyPost_ret (v := res (tr true)) (by simp [results, Tryz.results36, go_sem, hc9, hc2, hc, y2, x2, res, tr]) rfl ⟨rfl, two3 HB9.out _ _⟩
set_option maxRecDepth 100000 in
set_option maxHeartbeats 2000000 in
theorem ap_or (a p b q : Int) (w : World) : Calls Tryz.prog 36 #[.string ⟨#[111, 114]⟩, .agg #[.int .i64 a, .int .i64 p], .agg #[.int .i64 b, .int .i64 q]] w fun e w' => e = .returned (res (tr (decide (a ≠ 0) || decide (b ≠ 0)))) ∧ Below w.heap.size w w' := by
  cases ha : decide (a ≠ 0)
  · have HA := Lib.hid ha; clear ha
    rw [Bool.false_or]
    cases hq : decide (b ≠ 0)
    · have HQ := Lib.hid hq; clear hq
      go_enter Tryz.func36, Tryz.ntmps36
      go_wp2_with fail
      refine (isTrue_any a p _).mono ?_
      rintro e w1 ⟨rfl, hb⟩
      rw [HA.out]
      obtain ⟨hc, hf⟩ := bcell hb
      obtain ⟨y0, y1, y2⟩ := size3 hb
      have HB := Lib.hid (below3 hb)
      go_wp2_with fail
      refine (isTrue_any b q _).mono ?_
      rintro e w2 ⟨rfl, hb2⟩
      rw [HQ.out]
      obtain ⟨hc2, hf2⟩ := bcell hb2
      obtain ⟨x0, x1, x2⟩ := size4 y2 hb2
      have HB2 := Lib.hid (HB.out.trans (hb2.mono HB.out.size))
      go_wp2_with fail
      refine (truth_any false _).mono ?_
      rintro e w9 ⟨rfl, hb9⟩
      obtain ⟨hc9, hf9⟩ := bcell hb9
      obtain ⟨z0, z1, z2⟩ := size4 x2 hb9
      have HB9 := Lib.hid (HB2.out.trans (hb9.mono HB2.out.size))
      go_wp2
      exact bodyPost_ret (v := res (tr false)) (by simp [results, Tryz.results36, go_sem, hc9, hc2, hc, y2, x2, res, tr]) rfl ⟨rfl, two3 HB9.out _ _⟩
    · have HQ := Lib.hid hq; clear hq
      go_enter Tryz.func36, Tryz.ntmps36
      go_wp2_with fail
      refine (isTrue_any a p _).mono ?_
      rintro e w1 ⟨rfl, hb⟩
      rw [HA.out]
      obtain ⟨hc, hf⟩ := bcell hb
      obtain ⟨y0, y1, y2⟩ := size3 hb
      have HB := Lib.hid (below3 hb)
      go_wp2_with fail
      refine (isTrue_any b q _).mono ?_
      rintro e w2 ⟨rfl, hb2⟩
      rw [HQ.out]
      obtain ⟨hc2, hf2⟩ := bcell hb2
      obtain ⟨x0, x1, x2⟩ := size4 y2 hb2
      have HB2 := Lib.hid (HB.out.trans (hb2.mono HB.out.size))
      go_wp2_with fail
      refine (truth_any true _).mono ?_
      rintro e w9 ⟨rfl, hb9⟩
      obtain ⟨hc9, hf9⟩ := bcell hb9
      obtain ⟨z0, z1, z2⟩ := size4 x2 hb9
      have HB9 := Lib.hid (HB2.out.trans (hb9.mono HB2.out.size))
      go_wp2
      exact bodyPost_ret (v := res (tr true)) (by simp [results, Tryz.results36, go_sem, hc9, hc2, hc, y2, x2, res, tr]) rfl ⟨rfl, two3 HB9.out _ _⟩
  · have HA := Lib.hid ha; clear ha
    rw [Bool.true_or]
    go_enter Tryz.func36, Tryz.ntmps36
    go_wp2_with fail
    refine (isTrue_any a p _).mono ?_
    rintro e w1 ⟨rfl, hb⟩
    rw [HA.out]
    obtain ⟨hc, hf⟩ := bcell hb
    obtain ⟨y0, y1, y2⟩ := size3 hb
    have HB := Lib.hid (below3 hb)
    go_wp2_with fail
    refine (truth_any true _).mono ?_
    rintro e w9 ⟨rfl, hb9⟩
    obtain ⟨hc9, hf9⟩ := bcell hb9
    obtain ⟨z0, z1, z2⟩ := size4 y2 hb9
    have HB9 := Lib.hid (HB.out.trans (hb9.mono HB.out.size))
    go_wp2
    exact bodyPost_ret (v := res (tr true)) (by simp [results, Tryz.results36, go_sem, hc9, hc, y2, res, tr]) rfl ⟨rfl, two3 HB9.out _ _⟩
set_option maxRecDepth 100000 in
set_option maxHeartbeats 2000000 in
theorem ap_eq (a p b q : Int) (w : World) : Calls Tryz.prog 36 #[.string ⟨#[61]⟩, .agg #[.int .i64 a, .int .i64 p], .agg #[.int .i64 b, .int .i64 q]] w fun e w' => e = .returned (res (tr (holdsB [61] (cmp a p b q)))) ∧ Below w.heap.size w w' := by
  have H3 := Lib.hid (fun w => holds_eq (cmp a p b q) (cmp_three a p b q) w)
  have HC := Lib.hid (fun w => Compare_any a p b q w)
  generalize cmp a p b q = c at H3 HC ⊢
  cases hh : holdsB [61] c
  all_goals
    have HH := Lib.hid hh; clear hh
    go_enter Tryz.func36, Tryz.ntmps36
    go_wp2_with fail
    refine (HC.out _).mono ?_
    rintro e w1 ⟨rfl, hb⟩
    obtain ⟨hc, hf⟩ := bcell hb
    obtain ⟨y0, y1, y2⟩ := size3 hb
    have HB := Lib.hid (below3 hb)
    go_wp2_with fail
    refine (H3.out _).mono ?_
    rintro e w2 ⟨rfl, rfl⟩
    rw [HH.out]
    go_wp2_with fail
    refine (truth_any _ _).mono ?_
    rintro e w9 ⟨rfl, hb9⟩
    obtain ⟨hc9, hf9⟩ := bcell hb9
    obtain ⟨z0, z1, z2⟩ := size4 y2 hb9
    have HB9 := Lib.hid (HB.out.trans (hb9.mono HB.out.size))
    go_wp2
    first
      | exact bodyPost_ret (v := res (tr false)) (by simp [results, Tryz.results36, go_sem, hc9, hc, y2, res, tr]) rfl ⟨rfl, two3 HB9.out _ _⟩
      | exact bodyPost_ret (v := res (tr true)) (by simp [results, Tryz.results36, go_sem, hc9, hc, y2, res, tr]) rfl ⟨rfl, two3 HB9.out _ _⟩
set_option maxRecDepth 100000 in
set_option maxHeartbeats 2000000 in
theorem ap_ne (a p b q : Int) (w : World) : Calls Tryz.prog 36 #[.string ⟨#[60, 62]⟩, .agg #[.int .i64 a, .int .i64 p], .agg #[.int .i64 b, .int .i64 q]] w fun e w' => e = .returned (res (tr (holdsB [60, 62] (cmp a p b q)))) ∧ Below w.heap.size w w' := by
  have H3 := Lib.hid (fun w => holds_ne (cmp a p b q) (cmp_three a p b q) w)
  have HC := Lib.hid (fun w => Compare_any a p b q w)
  generalize cmp a p b q = c at H3 HC ⊢
  cases hh : holdsB [60, 62] c
  all_goals
    have HH := Lib.hid hh; clear hh
    go_enter Tryz.func36, Tryz.ntmps36
    go_wp2_with fail
    refine (HC.out _).mono ?_
    rintro e w1 ⟨rfl, hb⟩
    obtain ⟨hc, hf⟩ := bcell hb
    obtain ⟨y0, y1, y2⟩ := size3 hb
    have HB := Lib.hid (below3 hb)
    go_wp2_with fail
    refine (H3.out _).mono ?_
    rintro e w2 ⟨rfl, rfl⟩
    rw [HH.out]
    go_wp2_with fail
    refine (truth_any _ _).mono ?_
    rintro e w9 ⟨rfl, hb9⟩
    obtain ⟨hc9, hf9⟩ := bcell hb9
    obtain ⟨z0, z1, z2⟩ := size4 y2 hb9
    have HB9 := Lib.hid (HB.out.trans (hb9.mono HB.out.size))
    go_wp2
    first
      | exact bodyPost_ret (v := res (tr false)) (by simp [results, Tryz.results36, go_sem, hc9, hc, y2, res, tr]) rfl ⟨rfl, two3 HB9.out _ _⟩
      | exact bodyPost_ret (v := res (tr true)) (by simp [results, Tryz.results36, go_sem, hc9, hc, y2, res, tr]) rfl ⟨rfl, two3 HB9.out _ _⟩
set_option maxRecDepth 100000 in
set_option maxHeartbeats 2000000 in
theorem ap_lt (a p b q : Int) (w : World) : Calls Tryz.prog 36 #[.string ⟨#[60]⟩, .agg #[.int .i64 a, .int .i64 p], .agg #[.int .i64 b, .int .i64 q]] w fun e w' => e = .returned (res (tr (holdsB [60] (cmp a p b q)))) ∧ Below w.heap.size w w' := by
  have H3 := Lib.hid (fun w => holds_lt (cmp a p b q) (cmp_three a p b q) w)
  have HC := Lib.hid (fun w => Compare_any a p b q w)
  generalize cmp a p b q = c at H3 HC ⊢
  cases hh : holdsB [60] c
  all_goals
    have HH := Lib.hid hh; clear hh
    go_enter Tryz.func36, Tryz.ntmps36
    go_wp2_with fail
    refine (HC.out _).mono ?_
    rintro e w1 ⟨rfl, hb⟩
    obtain ⟨hc, hf⟩ := bcell hb
    obtain ⟨y0, y1, y2⟩ := size3 hb
    have HB := Lib.hid (below3 hb)
    go_wp2_with fail
    refine (H3.out _).mono ?_
    rintro e w2 ⟨rfl, rfl⟩
    rw [HH.out]
    go_wp2_with fail
    refine (truth_any _ _).mono ?_
    rintro e w9 ⟨rfl, hb9⟩
    obtain ⟨hc9, hf9⟩ := bcell hb9
    obtain ⟨z0, z1, z2⟩ := size4 y2 hb9
    have HB9 := Lib.hid (HB.out.trans (hb9.mono HB.out.size))
    go_wp2
    first
      | exact bodyPost_ret (v := res (tr false)) (by simp [results, Tryz.results36, go_sem, hc9, hc, y2, res, tr]) rfl ⟨rfl, two3 HB9.out _ _⟩
      | exact bodyPost_ret (v := res (tr true)) (by simp [results, Tryz.results36, go_sem, hc9, hc, y2, res, tr]) rfl ⟨rfl, two3 HB9.out _ _⟩
set_option maxRecDepth 100000 in
set_option maxHeartbeats 2000000 in
theorem ap_gt (a p b q : Int) (w : World) : Calls Tryz.prog 36 #[.string ⟨#[62]⟩, .agg #[.int .i64 a, .int .i64 p], .agg #[.int .i64 b, .int .i64 q]] w fun e w' => e = .returned (res (tr (holdsB [62] (cmp a p b q)))) ∧ Below w.heap.size w w' := by
  have H3 := Lib.hid (fun w => holds_gt (cmp a p b q) (cmp_three a p b q) w)
  have HC := Lib.hid (fun w => Compare_any a p b q w)
  generalize cmp a p b q = c at H3 HC ⊢
  cases hh : holdsB [62] c
  all_goals
    have HH := Lib.hid hh; clear hh
    go_enter Tryz.func36, Tryz.ntmps36
    go_wp2_with fail
    refine (HC.out _).mono ?_
    rintro e w1 ⟨rfl, hb⟩
    obtain ⟨hc, hf⟩ := bcell hb
    obtain ⟨y0, y1, y2⟩ := size3 hb
    have HB := Lib.hid (below3 hb)
    go_wp2_with fail
    refine (H3.out _).mono ?_
    rintro e w2 ⟨rfl, rfl⟩
    rw [HH.out]
    go_wp2_with fail
    refine (truth_any _ _).mono ?_
    rintro e w9 ⟨rfl, hb9⟩
    obtain ⟨hc9, hf9⟩ := bcell hb9
    obtain ⟨z0, z1, z2⟩ := size4 y2 hb9
    have HB9 := Lib.hid (HB.out.trans (hb9.mono HB.out.size))
    go_wp2
    first
      | exact bodyPost_ret (v := res (tr false)) (by simp [results, Tryz.results36, go_sem, hc9, hc, y2, res, tr]) rfl ⟨rfl, two3 HB9.out _ _⟩
      | exact bodyPost_ret (v := res (tr true)) (by simp [results, Tryz.results36, go_sem, hc9, hc, y2, res, tr]) rfl ⟨rfl, two3 HB9.out _ _⟩
set_option maxRecDepth 100000 in
set_option maxHeartbeats 2000000 in
theorem ap_le (a p b q : Int) (w : World) : Calls Tryz.prog 36 #[.string ⟨#[60, 61]⟩, .agg #[.int .i64 a, .int .i64 p], .agg #[.int .i64 b, .int .i64 q]] w fun e w' => e = .returned (res (tr (holdsB [60, 61] (cmp a p b q)))) ∧ Below w.heap.size w w' := by
  have H3 := Lib.hid (fun w => holds_le (cmp a p b q) (cmp_three a p b q) w)
  have HC := Lib.hid (fun w => Compare_any a p b q w)
  generalize cmp a p b q = c at H3 HC ⊢
  cases hh : holdsB [60, 61] c
  all_goals
    have HH := Lib.hid hh; clear hh
    go_enter Tryz.func36, Tryz.ntmps36
    go_wp2_with fail
    refine (HC.out _).mono ?_
    rintro e w1 ⟨rfl, hb⟩
    obtain ⟨hc, hf⟩ := bcell hb
    obtain ⟨y0, y1, y2⟩ := size3 hb
    have HB := Lib.hid (below3 hb)
    go_wp2_with fail
    refine (H3.out _).mono ?_
    rintro e w2 ⟨rfl, rfl⟩
    rw [HH.out]
    go_wp2_with fail
    refine (truth_any _ _).mono ?_
    rintro e w9 ⟨rfl, hb9⟩
    obtain ⟨hc9, hf9⟩ := bcell hb9
    obtain ⟨z0, z1, z2⟩ := size4 y2 hb9
    have HB9 := Lib.hid (HB.out.trans (hb9.mono HB.out.size))
    go_wp2
    first
      | exact bodyPost_ret (v := res (tr false)) (by simp [results, Tryz.results36, go_sem, hc9, hc, y2, res, tr]) rfl ⟨rfl, two3 HB9.out _ _⟩
      | exact bodyPost_ret (v := res (tr true)) (by simp [results, Tryz.results36, go_sem, hc9, hc, y2, res, tr]) rfl ⟨rfl, two3 HB9.out _ _⟩
set_option maxRecDepth 100000 in
set_option maxHeartbeats 2000000 in
theorem ap_ge (a p b q : Int) (w : World) : Calls Tryz.prog 36 #[.string ⟨#[62, 61]⟩, .agg #[.int .i64 a, .int .i64 p], .agg #[.int .i64 b, .int .i64 q]] w fun e w' => e = .returned (res (tr (holdsB [62, 61] (cmp a p b q)))) ∧ Below w.heap.size w w' := by
  have H3 := Lib.hid (fun w => holds_ge (cmp a p b q) (cmp_three a p b q) w)
  have HC := Lib.hid (fun w => Compare_any a p b q w)
  generalize cmp a p b q = c at H3 HC ⊢
  cases hh : holdsB [62, 61] c
  all_goals
    have HH := Lib.hid hh; clear hh
    go_enter Tryz.func36, Tryz.ntmps36
    go_wp2_with fail
    refine (HC.out _).mono ?_
    rintro e w1 ⟨rfl, hb⟩
    obtain ⟨hc, hf⟩ := bcell hb
    obtain ⟨y0, y1, y2⟩ := size3 hb
    have HB := Lib.hid (below3 hb)
    go_wp2_with fail
    refine (H3.out _).mono ?_
    rintro e w2 ⟨rfl, rfl⟩
    rw [HH.out]
    go_wp2_with fail
    refine (truth_any _ _).mono ?_
    rintro e w9 ⟨rfl, hb9⟩
    obtain ⟨hc9, hf9⟩ := bcell hb9
    obtain ⟨z0, z1, z2⟩ := size4 y2 hb9
    have HB9 := Lib.hid (HB.out.trans (hb9.mono HB.out.size))
    go_wp2
    first
      | exact bodyPost_ret (v := res (tr false)) (by simp [results, Tryz.results36, go_sem, hc9, hc, y2, res, tr]) rfl ⟨rfl, two3 HB9.out _ _⟩
      | exact bodyPost_ret (v := res (tr true)) (by simp [results, Tryz.results36, go_sem, hc9, hc, y2, res, tr]) rfl ⟨rfl, two3 HB9.out _ _⟩
end Go.Proofs.YtfocokjihbenmaaGreatDoor.Fo

namespace Go.Proofs.YtfocokjihbenmaaGreatDoor.Fo
open Go.RowKit Go.Proofs.YtfocokjihbenmaaGreatDoor.Nu
set_option linter.unusedVariables false
set_option linter.unusedSimpArgs false

theorem roundTo_any (a p b q : Int) (w : World) : Calls Tryz.prog 70 #[.agg #[.int .i64 a, .int .i64 p], .agg #[.int .i64 b, .int .i64 q]] w fun e w' => e = .returned (res (rndF ⟨a, p, 0⟩ ⟨b, q, 0⟩)) ∧ Below w.heap.size w w' := by
  by_cases hq : q = 1
  · subst hq
    have e1 : rndF ⟨a, p, 0⟩ ⟨b, 1, 0⟩ = rnd a p b := if_pos rfl
    rw [e1]
    clear e1
    go_enter Tryz.func70, Tryz.ntmps70
    go_wp2_with fail
    refine (Round_any a p b _).mono ?_
    rintro e w1 ⟨rfl, hb⟩
    obtain ⟨hc, hf⟩ := bcell hb
    obtain ⟨z0, z1, z2⟩ := size3 hb
    have HB := Lib.hid (below3 hb)
    go_wp2
    exact bodyPost_ret (v := res (rnd a p b)) (by simp [results, Tryz.results70, go_sem, hc, res]) rfl ⟨rfl, two3 HB.out _ _⟩
  · have e1 : rndF ⟨a, p, 0⟩ ⟨b, q, 0⟩ = ⟨0, 0, 2⟩ := if_neg hq
    rw [e1]
    have hd : (q == 1) = false := by simpa using hq
    clear e1 hq
    go_enter Tryz.func70, Tryz.ntmps70
    go_wp2
    exact bodyPost_ret (v := res ⟨0, 0, 2⟩) (by simp [results, Tryz.results70, go_sem, res]) rfl ⟨rfl, (((Below.refl _ w).alloc (Nat.le_refl _) _).alloc (by simp) _).alloc (by simp; omega) _⟩
theorem fit_err (n d : Int) (h : (fit n d).e ≠ 0) : fit n d = ⟨0, 0, (fit n d).e⟩ := by
  unfold fit at h ⊢
  cases hb : fitB n d
  · rfl
  · rw [hb] at h; exact absurd rfl h
theorem mul_err (a p b q : Int) (h : (mul a p b q).e ≠ 0) : mul a p b q = ⟨0, 0, (mul a p b q).e⟩ := by
  unfold mul at h ⊢
  cases hb : (okB a p && okB b q)
  · rfl
  · rw [hb] at h; exact fit_err _ _ h
theorem pwr_stop (a : R3) (k : Nat) (h : (pwr a k).e ≠ 0) : ∀ j, pwr a (k + j) = pwr a k
  | 0 => rfl
  | j + 1 => by rw [← Nat.add_assoc, pwr, pwr_stop a k h j]; exact if_neg h
theorem pwr_succ (a : R3) (k : Nat) (h : (pwr a k).e = 0) : pwr a (k + 1) = mul (pwr a k).n (pwr a k).d a.n a.d := if_pos h
def nb (n d : Int) : Obj := .cells #[.int .i64 n, .int .i64 d] 24
theorem lt_heap3 {W : World} {g : Nat} {o : Obj} (h : W.heap[g]? = some o) : g < W.heap.size := (Array.getElem?_eq_some_iff.1 h).1
theorem c2 {W : World} {c : Nat} {n d : Int} (h : W.heap[c]? = some (nb n d)) : W.cell? ⟨c, 0, none⟩ = some (.int .i64 n) ∧ W.cell? ⟨c, 1, none⟩ = some (.int .i64 d) ∧ W.frozen? ⟨c, 0, none⟩ = false ∧ W.frozen? ⟨c, 1, none⟩ = false := by
  refine ⟨?_, ?_, ?_, ?_⟩
  · unfold World.cell?; rw [h]; rfl
  · unfold World.cell?; rw [h]; rfl
  · unfold World.frozen?; rw [h]; rfl
  · unfold World.frozen?; rw [h]; rfl
theorem s2 {W : World} {c : Nat} {n d : Int} (h : W.heap[c]? = some (nb n d)) (n' d' : Int) : ((W.setCell ⟨c, 0, none⟩ (.int .i64 n')).setCell ⟨c, 1, none⟩ (.int .i64 d')).heap[c]? = some (nb n' d') := by
  simp only [World.setCell, Array.getElem?_modify, if_pos, h]
  rfl
theorem s2_ne {W : World} {c g : Nat} (h : g ≠ c) (u v : Value) : ((W.setCell ⟨c, 0, none⟩ u).setCell ⟨c, 1, none⟩ v).heap[g]? = W.heap[g]? := by
  rw [Below.heap_setCell _ _ _ _ h, Below.heap_setCell _ _ _ _ h]
theorem nh (w : World) (o : Obj) : (w.alloc o).heap[w.heap.size]? = some o := by
  show (w.heap.push o)[w.heap.size]? = _
  rw [Array.getElem?_push, if_pos rfl]
theorem hp3 (w : World) (A B C : Obj) : (((w.alloc A).alloc B).alloc C).heap[w.heap.size]? = some A ∧ (((w.alloc A).alloc B).alloc C).heap[w.heap.size + 2]? = some C := by
  constructor
  · rw [Below.heap_alloc _ _ _ (by simp; omega), Below.heap_alloc _ _ _ (by simp)]; exact nh _ _
  · have := nh ((w.alloc A).alloc B) C
    simp only [World.size_alloc] at this
    exact this
/-- What holds ahead of a round of raise: the operand, the result, the product. -/
structure Rz (w wr : World) (pb : Nat) (a p n d : Int) : Prop where
  x : wr.heap[w.heap.size]? = some (nb a p)
  r : wr.heap[w.heap.size + 2]? = some (nb 0 0)
  g : wr.heap[pb]? = some (nb n d)
  bl : Below w.heap.size w wr
set_option maxRecDepth 100000 in
set_option maxHeartbeats 4000000 in
theorem raise_any (a p b q : Int) (w : World) : Calls Tryz.prog 71 #[.agg #[.int .i64 a, .int .i64 p], .agg #[.int .i64 b, .int .i64 q]] w fun e w' => e = .returned (res (pwF ⟨a, p, 0⟩ ⟨b, q, 0⟩)) ∧ Below w.heap.size w w' := by
  by_cases hq : q = 1 ∧ 0 ≤ b ∧ b ≤ 30
  · obtain ⟨rfl, h0, h30⟩ := hq
    have e1 : pwF ⟨a, p, 0⟩ ⟨b, 1, 0⟩ = pwr ⟨a, p, 0⟩ b.toNat := if_pos ⟨rfl, h0, h30⟩
    rw [e1]
    clear e1
    obtain ⟨B, rfl⟩ : ∃ B : Nat, b = (B : Int) := ⟨b.toNat, by omega⟩
    rw [Int.toNat_natCast]
    have d1 : decide ((B : Int) < 0) = false := by rw [decide_eq_false_iff_not]; omega
    have d2 : decide ((B : Int) > 30) = false := by rw [decide_eq_false_iff_not]; omega
    have hB30 : B ≤ 30 := by omega
    clear h0 h30
    go_enter Tryz.func71, Tryz.ntmps71
    go_wp2_with fail
    refine (integer_any 1 _).mono ?_
    rintro e w1 ⟨rfl, hb⟩
    have hz1 := hb.size
    simp only [World.size_alloc] at hz1
    obtain ⟨hc, hf⟩ := bcell hb
    have J0 : Hid (∃ k : Nat, 0 = (k : Int) ∧ k ≤ B ∧ (pwr ⟨a, p, 0⟩ k).e = 0 ∧ Rz w (w1.alloc (nb 1 1)) w1.heap.size a p (pwr ⟨a, p, 0⟩ k).n (pwr ⟨a, p, 0⟩ k).d) := Lib.hid ⟨0, rfl, Nat.zero_le _, rfl, (Below.heap_alloc _ _ _ (by omega)).trans ((hb.block _ (by simp; omega)).trans (hp3 w _ _ _).1), (Below.heap_alloc _ _ _ (by omega)).trans ((hb.block _ (by simp)).trans (hp3 w _ _ _).2), nh _ _, (below3 hb).alloc (by omega) _⟩
    unfold nb at J0
    have hlt0 : w.heap.size < w1.heap.size := by omega
    have hlt1 : w.heap.size + 1 < w1.heap.size := by omega
    clear hb
    have HL := Lib.hid hlt0
    go_wp2_with fail
    clear hc hf
    go_loopw [26] (fun i wr => ∃ k : Nat, i = .int .i64 k ∧ k ≤ B ∧ Hid ((pwr ⟨a, p, 0⟩ k).e = 0 ∧ Rz w wr w1.heap.size a p (pwr ⟨a, p, 0⟩ k).n (pwr ⟨a, p, 0⟩ k).d)) (fun i _ => B - (intOf i).toNat)
    case atStart =>
      obtain ⟨k, hk0, hk, h1, h2⟩ := J0.out
      have : k = 0 := by omega
      subst this
      exact ⟨0, rfl, hk, Lib.hid ⟨h1, h2⟩⟩
    case round =>
      obtain ⟨k, rfl, hk, hS⟩ := hrel
      clear J0
      obtain ⟨he, hz⟩ := hS.out
      clear hS
      obtain ⟨g0, g1, g2, g3⟩ := c2 hz.g
      obtain ⟨x0, x1, x2, x3⟩ := c2 hz.x
      obtain ⟨r0, r1, r2, r3⟩ := c2 hz.r
      have hgl := lt_heap3 hz.g
      by_cases hlt : k < B
      · have hd : decide ((k : Int) < (B : Int)) = true := by rw [decide_eq_true_iff]; omega
        have hs := pwr_succ ⟨a, p, 0⟩ k he
        have HE := Lib.hid he
        have HZ := Lib.hid hz
        generalize hN : (pwr ⟨a, p, 0⟩ k).n = n at *
        generalize hD : (pwr ⟨a, p, 0⟩ k).d = d at *
        have HS := Lib.hid hs
        clear he hz hs
        go_wp2_with fail
        refine (Mul_any n d a p _).mono ?_
        rintro e w2 ⟨rfl, hb2⟩
        have hz2 := hb2.size
        have kp : ∀ i, i < wr.heap.size → w2.heap[i]? = wr.heap[i]? := fun i hi => hb2.block i hi
        have hw12 : w1.heap.size < w2.heap.size := by omega
        have hw22 : w.heap.size + 1 + 1 < w2.heap.size := by have := lt_heap3 HZ.out.r; omega
        have HB2 := Lib.hid hb2
        have hg2 := (kp _ (lt_heap3 HZ.out.g)).trans HZ.out.g
        have hx2 := (kp _ (lt_heap3 HZ.out.x)).trans HZ.out.x
        have hr2 := (kp _ (lt_heap3 HZ.out.r)).trans HZ.out.r
        have HG2 := Lib.hid hg2; have HX2 := Lib.hid hx2; have HR2 := Lib.hid hr2
        obtain ⟨m0, m1, m2, m3⟩ := c2 hg2
        obtain ⟨n0, n1, n2, n3⟩ := c2 hr2
        clear hb2 kp hg2 hx2 hr2 g0 g1 g2 g3 x0 x1 x2 x3 r0 r1 r2 r3
        by_cases hm : (mul n d a p).e = 0
        · have HM := Lib.hid hm
          have hr : Hid (∀ W : World, W.heap.size = w2.heap.size + 1 → (∀ i, i < w2.heap.size → i ≠ w1.heap.size → W.heap[i]? = w2.heap[i]?) → W.heap[w1.heap.size]? = some (nb (mul n d a p).n (mul n d a p).d) → W.os = w2.os → W.tape = w2.tape → W.output = w2.output →
              (pwr ⟨a, p, 0⟩ (k + 1)).e = 0 ∧ Rz w W w1.heap.size a p (pwr ⟨a, p, 0⟩ (k + 1)).n (pwr ⟨a, p, 0⟩ (k + 1)).d) := Lib.hid fun W q1 q2 q3 q4 q5 q6 => by
            have bl := HZ.out.bl.trans (HB2.out.mono HZ.out.bl.size)
            rw [HS.out]
            exact ⟨HM.out, (q2 _ (by omega) (by omega)).trans HX2.out, (q2 _ (by omega) (by omega)).trans HR2.out, q3, ⟨q4.trans bl.os, q5.trans bl.tape, q6.trans bl.output, by rw [q1]; omega, fun i hi => (q2 i (by omega) (by omega)).trans (bl.block i hi)⟩⟩
          go_wp2_with fail
          go_roundw
          case rel =>
            refine ⟨k + 1, by simp, by omega, Lib.hid (hr.out _ (by simp [World.setCell]) (fun i hi hne => ?_) ?_ rfl rfl rfl)⟩
            · rw [Below.heap_alloc _ _ _ (by simp [World.setCell]; exact hi)]; exact s2_ne hne _ _
            · rw [Below.heap_alloc _ _ _ (by simp [World.setCell]; omega)]; exact s2 HG2.out _ _
          case measure => simp [intOf]; omega
        · have HM := Lib.hid (mul_err n d a p hm)
          have hd2 : ((mul n d a p).e == 0) = false := by simpa using hm
          have hstop : pwr ⟨a, p, 0⟩ B = ⟨0, 0, (mul n d a p).e⟩ := by
            have e2 : B = (k + 1) + (B - (k + 1)) := by omega
            rw [e2, pwr_stop ⟨a, p, 0⟩ (k + 1) (by rw [HS.out]; exact hm), HS.out]
            exact HM.out
          have HT := Lib.hid hstop
          clear hm hstop
          have bl := HZ.out.bl.trans (HB2.out.mono HZ.out.bl.size)
          have HBL := Lib.hid bl
          clear bl
          go_wp2_with fail
          exact bodyPost_ret (v := res ⟨0, 0, (mul n d a p).e⟩) (by simp [results, Tryz.results71, go_sem, hw22, n0, n1, res]) rfl ⟨by rw [HT.out], (two3 HBL.out _ _).alloc (by simp [World.setCell]; omega) _⟩
      · have ek : k = B := by omega
        subst ek
        have hd : decide ((k : Int) < (k : Int)) = false := by simp
        have HE := Lib.hid he
        have HZ := Lib.hid hz
        clear he hz
        go_wp2_with fail
        exact bodyPost_ret (v := .tuple #[.agg #[.int .i64 (pwr ⟨a, p, 0⟩ k).n, .int .i64 (pwr ⟨a, p, 0⟩ k).d], .int .i64 0]) (by simp [results, Tryz.results71, go_sem, r0, r1]) rfl ⟨by unfold res; rw [HE.out], two3 HZ.out.bl _ _⟩
  · have e1 : pwF ⟨a, p, 0⟩ ⟨b, q, 0⟩ = ⟨0, 0, 2⟩ := if_neg hq
    rw [e1]
    clear e1
    by_cases h1 : q = 1
    · subst h1
      by_cases h2 : b < 0
      · have d1 : decide (b < 0) = true := decide_eq_true h2
        clear hq
        go_enter Tryz.func71, Tryz.ntmps71
        go_wp2
        exact bodyPost_ret (v := res ⟨0, 0, 2⟩) (by simp [results, Tryz.results71, go_sem, res]) rfl ⟨rfl, (((Below.refl _ w).alloc (Nat.le_refl _) _).alloc (by simp) _).alloc (by simp; omega) _⟩
      · have d1 : decide (b < 0) = false := decide_eq_false h2
        have d2 : decide (b > 30) = true := by rw [decide_eq_true_iff]; omega
        clear hq h2
        go_enter Tryz.func71, Tryz.ntmps71
        go_wp2
        exact bodyPost_ret (v := res ⟨0, 0, 2⟩) (by simp [results, Tryz.results71, go_sem, res]) rfl ⟨rfl, (((Below.refl _ w).alloc (Nat.le_refl _) _).alloc (by simp) _).alloc (by simp; omega) _⟩
    · have hd : (q == 1) = false := by simpa using h1
      clear hq
      go_enter Tryz.func71, Tryz.ntmps71
      go_wp2
      exact bodyPost_ret (v := res ⟨0, 0, 2⟩) (by simp [results, Tryz.results71, go_sem, res]) rfl ⟨rfl, (((Below.refl _ w).alloc (Nat.le_refl _) _).alloc (by simp) _).alloc (by simp; omega) _⟩
set_option maxRecDepth 100000 in
set_option maxHeartbeats 2000000 in
theorem ap_rnd (a p b q : Int) (w : World) : Calls Tryz.prog 36 #[.string ⟨#[114, 111, 117, 110, 100]⟩, .agg #[.int .i64 a, .int .i64 p], .agg #[.int .i64 b, .int .i64 q]] w fun e w' => e = .returned (res (rndF ⟨a, p, 0⟩ ⟨b, q, 0⟩)) ∧ Below w.heap.size w w' := by
  have HC := Lib.hid (fun w => roundTo_any a p b q w)
  generalize rndF ⟨a, p, 0⟩ ⟨b, q, 0⟩ = r at HC ⊢
  unfold res at HC
  go_enter Tryz.func36, Tryz.ntmps36
  go_wp2_with fail
  refine (HC.out _).mono ?_
  rintro e w1 ⟨rfl, hb⟩
  obtain ⟨hc, hf⟩ := bcell hb
  obtain ⟨z0, z1, z2⟩ := size3 hb
  have HB := Lib.hid (below3 hb)
  go_wp2
  exact bodyPost_ret (v := res r) (by simp [results, Tryz.results36, go_sem, hc, res]) rfl ⟨rfl, two3 HB.out _ _⟩
set_option maxRecDepth 100000 in
set_option maxHeartbeats 2000000 in
theorem ap_pow (a p b q : Int) (w : World) : Calls Tryz.prog 36 #[.string ⟨#[94]⟩, .agg #[.int .i64 a, .int .i64 p], .agg #[.int .i64 b, .int .i64 q]] w fun e w' => e = .returned (res (pwF ⟨a, p, 0⟩ ⟨b, q, 0⟩)) ∧ Below w.heap.size w w' := by
  have HC := Lib.hid (fun w => raise_any a p b q w)
  generalize pwF ⟨a, p, 0⟩ ⟨b, q, 0⟩ = r at HC ⊢
  unfold res at HC
  go_enter Tryz.func36, Tryz.ntmps36
  go_wp2_with fail
  refine (HC.out _).mono ?_
  rintro e w1 ⟨rfl, hb⟩
  obtain ⟨hc, hf⟩ := bcell hb
  obtain ⟨z0, z1, z2⟩ := size3 hb
  have HB := Lib.hid (below3 hb)
  go_wp2
  exact bodyPost_ret (v := res r) (by simp [results, Tryz.results36, go_sem, hc, res]) rfl ⟨rfl, two3 HB.out _ _⟩
theorem two2 {w W : World} (h : Below w.heap.size w W) (u v : Value) : Below w.heap.size w ((W.setCell ⟨w.heap.size + 1, 0, none⟩ u).setCell ⟨w.heap.size + 1, 1, none⟩ v) :=
  (h.setCell (by show _ ≤ w.heap.size + 1; omega) _).setCell (by show _ ≤ w.heap.size + 1; omega) _
theorem below2 {w w1 : World} {A B : Obj} (hb : Below ((w.alloc A).alloc B).heap.size ((w.alloc A).alloc B) w1) : Below w.heap.size w w1 :=
  (((Below.refl _ w).alloc (Nat.le_refl _) A).alloc (by simp) B).trans (hb.mono (by simp; omega))
theorem size2 {w w1 : World} {A B : Obj} (hb : Below ((w.alloc A).alloc B).heap.size ((w.alloc A).alloc B) w1) : w.heap.size < w1.heap.size ∧ w.heap.size + 1 < w1.heap.size := by
  have := hb.size; simp at this; omega
theorem pre_plus (o : ByteArray) (ho : o = ⟨#[43]⟩ ∨ o = ⟨#[40]⟩) (a p : Int) (w : World) : Calls Tryz.prog 35 #[.string o, .agg #[.int .i64 a, .int .i64 p]] w fun e w' => e = .returned (res ⟨a, p, 0⟩) ∧ Below w.heap.size w w' := by
  rcases ho with rfl | rfl
  all_goals
    go_enter Tryz.func35, Tryz.ntmps35
    go_wp2
    exact bodyPost_ret (v := res ⟨a, p, 0⟩) (by simp [results, Tryz.results35, go_sem, res]) rfl ⟨rfl, ((Below.refl _ w).alloc (Nat.le_refl _) _).alloc (by simp) _⟩
theorem pre_not (a p : Int) (w : World) : Calls Tryz.prog 35 #[.string ⟨#[110, 111, 116]⟩, .agg #[.int .i64 a, .int .i64 p]] w fun e w' => e = .returned (res (tr (decide (a = 0)))) ∧ Below w.heap.size w w' := by
  have hn : decide (a = 0) = !decide (a ≠ 0) := by by_cases h : a = 0 <;> simp [h]
  rw [hn]
  clear hn
  cases ha : decide (a ≠ 0)
  all_goals
    have HA := Lib.hid ha; clear ha
    go_enter Tryz.func35, Tryz.ntmps35
    go_wp2_with fail
    refine (isTrue_any a p _).mono ?_
    rintro e w1 ⟨rfl, hb⟩
    rw [HA.out]
    obtain ⟨hc, hf⟩ := bcell hb
    obtain ⟨y0, y1⟩ := size2 hb
    have HB := Lib.hid (below2 hb)
    go_wp2_with fail
    refine (truth_any _ _).mono ?_
    rintro e w9 ⟨rfl, hb9⟩
    obtain ⟨hc9, hf9⟩ := bcell hb9
    have z1 : w.heap.size + 1 < w9.heap.size := Nat.lt_of_lt_of_le y1 hb9.size
    have HB9 := Lib.hid (HB.out.trans (hb9.mono HB.out.size))
    go_wp2
    first
      | exact bodyPost_ret (v := res (tr false)) (by simp [results, Tryz.results35, go_sem, hc9, hc, y1, res, tr]) rfl ⟨rfl, two2 HB9.out _ _⟩
      | exact bodyPost_ret (v := res (tr true)) (by simp [results, Tryz.results35, go_sem, hc9, hc, y1, res, tr]) rfl ⟨rfl, two2 HB9.out _ _⟩
theorem pre_floor (a p : Int) (w : World) : Calls Tryz.prog 35 #[.string ⟨#[102, 108, 111, 111, 114]⟩, .agg #[.int .i64 a, .int .i64 p]] w fun e w' => e = .returned (res ⟨flr a p, 1, 0⟩) ∧ Below w.heap.size w w' := by
  go_enter Tryz.func35, Tryz.ntmps35
  go_wp2_with fail
  refine (Floor_any a p _).mono ?_
  rintro e w1 ⟨rfl, hb⟩
  obtain ⟨hc, hf⟩ := bcell hb
  obtain ⟨y0, y1⟩ := size2 hb
  have HB := Lib.hid (below2 hb)
  go_wp2_with fail
  refine (integer_any _ _).mono ?_
  rintro e w9 ⟨rfl, hb9⟩
  obtain ⟨hc9, hf9⟩ := bcell hb9
  have z1 : w.heap.size + 1 < w9.heap.size := Nat.lt_of_lt_of_le y1 hb9.size
  have HB9 := Lib.hid (HB.out.trans (hb9.mono HB.out.size))
  go_wp2
  exact bodyPost_ret (v := res ⟨flr a p, 1, 0⟩) (by simp [results, Tryz.results35, go_sem, hc9, hc, y1, res]) rfl ⟨rfl, two2 HB9.out _ _⟩
end Go.Proofs.YtfocokjihbenmaaGreatDoor.Fo

namespace Go.Proofs.YtfocokjihbenmaaGreatDoor.Fo
open Go.Proofs.YtfocokjihbenmaaGreatDoor.Nu

def allB : List Tok := [[43], [45], [42], [47], [109, 111, 100], [114, 111, 117, 110, 100], [94], [97, 110, 100], [111, 114], [61], [60, 62], [60], [62], [60, 61], [62, 61]]
def T.wf : T → Prop
  | .bad => False
  | .num s => s.length ≤ 19
  | .un o x => (o ∈ uns ∨ o = [40]) ∧ x.wf
  | .bin o x y => o ∈ allB ∧ x.wf ∧ y.wf
theorem ops_all (k : Nat) : ∀ o ∈ ops k, o ∈ allB := by
  unfold ops; split <;> decide
theorem cmps_all : ∀ o ∈ cmps, o ∈ allB := by decide
theorem G_wf : ∀ (n k : Nat) (x : T) (l : List Tok) (b : Bool), k ≠ 9 → (∀ t ∈ l, t.length ≤ 19) → (10 ≤ k → b = false → x.wf) →
    (∀ t ∈ (G n k x l b).r, t.length ≤ 19) ∧ ((G n k x l b).b = false → (G n k x l b).t.wf)
  | 0, k, x, l, b, _, hl, _ => ⟨hl, fun h => by cases h⟩
  | n + 1, k, x, l, b, hk9, hl, hx => by
    have nx : ∀ {s : List Tok} {l : List Tok} {o : Tok} {r : List Tok}, next s l = some (o, r) → (∀ t ∈ l, t.length ≤ 19) → (∀ t ∈ r, t.length ≤ 19) := fun h hl t ht => hl t (by rw [(next_le h).1]; exact List.mem_cons_of_mem _ ht)
    have mono : ∀ (n k : Nat) (x : T) (l : List Tok) (b : Bool), (G n k x l b).b = false → b = false := fun n k x l b h => by
      cases b
      · rfl
      · rw [G_bad] at h; cases h
    by_cases h2 : k = 2
    · subst h2; rw [G_2]
      have h1 := G_wf n 3 .bad l b (by decide) hl (fun h => absurd h (by decide))
      cases hq : next cmps (G n 3 .bad l b).r with
      | none => exact h1
      | some y =>
        obtain ⟨o, r⟩ := y
        have h3 := G_wf n 3 .bad r (G n 3 .bad l b).b (by decide) (nx hq h1.1) (fun h => absurd h (by decide))
        exact ⟨h3.1, fun h => ⟨cmps_all _ (next_le hq).2, h1.2 (mono _ _ _ _ _ h), h3.2 h⟩⟩
    by_cases h6 : k = 6
    · subst h6; rw [G_6]
      cases hq : next uns l with
      | none => exact G_wf n 7 .bad l b (by decide) hl (fun h => absurd h (by decide))
      | some y =>
        obtain ⟨o, r⟩ := y
        have h3 := G_wf n 6 .bad r b (by decide) (nx hq hl) (fun h => absurd h (by decide))
        exact ⟨h3.1, fun h => ⟨.inl (next_le hq).2, h3.2 h⟩⟩
    by_cases h7 : k = 7
    · subst h7; rw [G_7]
      have h1 := G_wf n 8 .bad l b (by decide) hl (fun h => absurd h (by decide))
      cases hq : next [[94]] (G n 8 .bad l b).r with
      | none => exact h1
      | some y =>
        obtain ⟨o, r⟩ := y
        have h3 := G_wf n 6 .bad r (G n 8 .bad l b).b (by decide) (nx hq h1.1) (fun h => absurd h (by decide))
        exact ⟨h3.1, fun h => ⟨by have := (next_le hq).2; simp at this; subst this; decide, h1.2 (mono _ _ _ _ _ h), h3.2 h⟩⟩
    by_cases h8 : k = 8
    · subst h8
      cases l with
      | nil => rw [G_8n]; exact ⟨hl, fun h => by cases h⟩
      | cons t l =>
        have hl' : ∀ t ∈ l, t.length ≤ 19 := fun u hu => hl u (List.mem_cons_of_mem _ hu)
        cases ht : isNum t
        · by_cases hp : t = [40]
          · subst hp; rw [G_8p]
            have h1 := G_wf n 0 .bad l b (by decide) hl' (fun h => absurd h (by decide))
            cases hq : next [[41]] (G n 0 .bad l b).r with
            | none => exact ⟨h1.1, fun h => by cases h⟩
            | some y =>
              obtain ⟨o, r⟩ := y
              exact ⟨nx hq h1.1, fun h => ⟨.inr rfl, h1.2 h⟩⟩
          · rw [G_8x _ _ _ _ _ ht hp]; exact ⟨hl, fun h => by cases h⟩
        · rw [G_8d _ _ _ _ _ ht]; exact ⟨hl', fun _ => hl t (by simp)⟩
    by_cases h : k < 10
    · rw [G_lv n k x l b h h2 h6 h7 h8]
      have kk : k + 1 ≠ 9 := by omega
      have kl : ¬ (10 ≤ k + 1) := by omega
      have h1 := G_wf n (k + 1) .bad l b kk hl (fun h' => absurd h' kl)
      have k9 : 10 + k ≠ 9 := by omega
      exact G_wf n (10 + k) _ _ _ k9 h1.1 (fun _ hb => h1.2 hb)
    · obtain ⟨j, rfl⟩ : ∃ j, k = 10 + j := ⟨k - 10, by omega⟩
      rw [G_lp]
      cases hq : next (ops j) l with
      | none => exact ⟨hl, fun h => hx (by omega) h⟩
      | some y =>
        obtain ⟨o, r⟩ := y
        have hr := nx hq hl
        have ho := (next_le hq).2
        have hj : j < 6 := by
          rcases Nat.lt_or_ge j 6 with h9 | h9
          · exact h9
          · unfold ops at ho; split at ho <;> first | omega | simp at ho
        have k9 : j + 1 ≠ 9 := by omega
        have kl : ¬ (10 ≤ j + 1) := by omega
        have h1 := G_wf n (j + 1) .bad r b k9 hr (fun h' => absurd h' kl)
        exact G_wf n (10 + j) _ _ _ (show 10 + j ≠ 9 by omega) h1.1 (fun _ hb => ⟨ops_all j _ ho, hx (by omega) (mono _ _ _ _ _ hb), h1.2 hb⟩)
theorem okB_pos {n d : Int} (h : okB n d = true) : d ≠ 0 := by have := (okB_iff.1 h).d1; omega
theorem and2 {a b : Bool} (h : (a && b) = true) : a = true ∧ b = true := by cases a <;> cases b <;> simp_all
theorem op_ok {c : Bool} {n d : Int} (hd : c = true → d ≠ 0) (h : (if c then fit n d else (⟨0, 0, 7⟩ : R3)).e = 0) : Ok (if c then fit n d else (⟨0, 0, 7⟩ : R3)).n (if c then fit n d else (⟨0, 0, 7⟩ : R3)).d := by
  cases c
  · simp at h
  · exact (fit_ok (hd rfl) h).1
theorem add_ok {a p b q : Int} (h : (add a p b q).e = 0) : Ok (add a p b q).n (add a p b q).d := op_ok (fun h => Int.mul_ne_zero (okB_pos (and2 h).1) (okB_pos (and2 h).2)) h
theorem sub_ok {a p b q : Int} (h : (sub a p b q).e = 0) : Ok (sub a p b q).n (sub a p b q).d := op_ok (fun h => Int.mul_ne_zero (okB_pos (and2 h).1) (okB_pos (and2 h).2)) h
theorem mul_ok {a p b q : Int} (h : (mul a p b q).e = 0) : Ok (mul a p b q).n (mul a p b q).d := op_ok (fun h => Int.mul_ne_zero (okB_pos (and2 h).1) (okB_pos (and2 h).2)) h
theorem div_ok {a p b q : Int} (h : (div a p b q).e = 0) : Ok (div a p b q).n (div a p b q).d := by
  unfold div at h ⊢
  cases hc : (okB a p && okB b q)
  · rw [hc] at h; simp at h
  · rw [hc] at h
    by_cases hb : b = 0
    · subst hb; simp at h
    · simp only [if_true, if_neg hb] at h ⊢
      exact (fit_ok (Int.mul_ne_zero (okB_pos (and2 hc).1) hb) h).1
theorem mod_ok {a p b q : Int} (h : (mod a p b q).e = 0) : Ok (mod a p b q).n (mod a p b q).d := by
  unfold mod at h ⊢
  cases hc : (okB a p && okB b q)
  · rw [hc] at h; simp at h
  · rw [hc] at h
    by_cases hb : b = 0
    · subst hb; simp at h
    · simp only [if_true, if_neg hb] at h ⊢
      exact (fit_ok (Int.mul_ne_zero (okB_pos (and2 hc).1) (okB_pos (and2 hc).2)) h).1
theorem pw_ne' (k : Nat) : pw k ≠ 0 := by
  unfold pw
  exact Int.ne_of_gt (Int.pow_pos (by decide))
theorem rndF_ok {a c : R3} (h : (rndF a c).e = 0) : Ok (rndF a c).n (rndF a c).d := by
  unfold rndF rnd at h ⊢
  by_cases hc : c.d = 1
  · simp only [if_pos hc] at h ⊢
    cases hk : okB a.n a.d
    · rw [hk] at h; simp at h
    · rw [hk] at h
      by_cases hq : 0 ≤ c.n ∧ c.n ≤ 9
      · simp only [if_true, if_pos hq] at h ⊢
        exact (fit_ok (pw_ne' _) h).1
      · simp only [if_true, if_neg hq] at h; cases h
  · simp only [if_neg hc] at h; cases h
theorem ok_one : Ok 1 1 := ⟨by decide, by decide, by decide, by decide, by decide⟩
theorem ok_zero : Ok 0 1 := ⟨by decide, by decide, by decide, by decide, by decide⟩
theorem tr_ok (b : Bool) : Ok (tr b).n (tr b).d := by cases b; exact ok_zero; exact ok_one
theorem pwr_ok (a : R3) : ∀ k, (pwr a k).e = 0 → Ok (pwr a k).n (pwr a k).d
  | 0, _ => ok_one
  | k + 1, h => by
    unfold pwr at h ⊢
    by_cases hk : (pwr a k).e = 0
    · simp only [if_pos hk] at h ⊢; exact mul_ok h
    · simp only [if_neg hk] at h; exact absurd h hk
theorem pwF_ok {a c : R3} (h : (pwF a c).e = 0) : Ok (pwF a c).n (pwF a c).d := by
  unfold pwF at h ⊢
  by_cases hc : c.d = 1 ∧ 0 ≤ c.n ∧ c.n ≤ 30
  · simp only [if_pos hc] at h ⊢; exact pwr_ok _ _ h
  · simp only [if_neg hc] at h; cases h
theorem pbody_ok {g : Bool} {l : List UInt8} (h : (pbody g l).e = 0) : Ok (pbody g l).n (pbody g l).d := by
  unfold pbody at h ⊢
  split
  · rename_i hc; rw [if_pos hc] at h; exact (fit_ok (pw_ne' _) h).1
  · rename_i hc; rw [if_neg hc] at h; cases h
theorem parse_ok {l : List UInt8} (h : (parse l).e = 0) : Ok (parse l).n (parse l).d := by
  unfold parse at h ⊢
  split
  · rename_i hc; rw [if_pos hc] at h; exact pbody_ok h
  · rename_i hc; rw [if_neg hc] at h
    split
    · rename_i hc2; rw [if_pos hc2] at h; exact pbody_ok h
    · rename_i hc2; rw [if_neg hc2] at h; exact pbody_ok h
theorem flr_ok {n d : Int} (h : Ok n d) : Ok (flr n d) 1 := by
  have e : flr n d = Int.fdiv n d := by unfold flr; rw [okB_iff.2 h]; rfl
  have h1 := h.d1; have h2 := h.n1; have h3 := h.n2
  have e2 : Int.fdiv n d = n / d := Int.fdiv_eq_ediv_of_nonneg n (by omega)
  rw [e, e2]
  have h4 : -1000000000 ≤ n / d := (Int.le_ediv_iff_mul_le (by omega)).2 (by omega)
  have h5 : n / d ≤ 1000000000 := by
    have := Int.ediv_le_ediv (c := d) (by omega) h3
    refine Int.le_trans this ?_
    exact Int.ediv_le_self _ (by decide)
  exact ⟨by decide, by decide, h4, h5, by simp⟩
theorem ap1_ok {o : Tok} {a : R3} (ha : Ok a.n a.d) (h : (ap1 o a).e = 0) : Ok (ap1 o a).n (ap1 o a).d := by
  unfold ap1 at h ⊢
  split
  · rename_i hc; rw [if_pos hc] at h; exact sub_ok h
  · split
    · exact tr_ok _
    · split
      · exact flr_ok ha
      · exact ha
theorem ap2_ok {o : Tok} {a c : R3} (h : (ap2 o a c).e = 0) : Ok (ap2 o a c).n (ap2 o a c).d := by
  unfold ap2 at h ⊢
  split
  · rename_i q; rw [if_pos q] at h; exact add_ok h
  rename_i q; rw [if_neg q] at h; split
  · rename_i q; rw [if_pos q] at h; exact sub_ok h
  rename_i q; rw [if_neg q] at h; split
  · rename_i q; rw [if_pos q] at h; exact mul_ok h
  rename_i q; rw [if_neg q] at h; split
  · rename_i q; rw [if_pos q] at h; exact div_ok h
  rename_i q; rw [if_neg q] at h; split
  · rename_i q; rw [if_pos q] at h; exact mod_ok h
  rename_i q; rw [if_neg q] at h; split
  · rename_i q; rw [if_pos q] at h; exact rndF_ok h
  rename_i q; rw [if_neg q] at h; split
  · rename_i q; rw [if_pos q] at h; exact pwF_ok h
  split
  · exact tr_ok _
  split
  · exact tr_ok _
  exact tr_ok _
theorem val_ok : ∀ (x : T), (val x).e = 0 → Ok (val x).n (val x).d
  | .bad, h => by cases h
  | .num s, h => parse_ok h
  | .un o x, h => by
    unfold val at h ⊢
    by_cases hx : (val x).e = 0
    · simp only [if_pos hx] at h ⊢; exact ap1_ok (val_ok x hx) h
    · simp only [if_neg hx] at h; exact absurd h hx
  | .bin o x y, h => by
    unfold val at h ⊢
    by_cases hx : (val x).e = 0
    · by_cases hy : (val y).e = 0
      · simp only [if_pos hx, if_pos hy] at h ⊢; exact ap2_ok h
      · simp only [if_pos hx, if_neg hy] at h; exact absurd h hy
    · simp only [if_neg hx] at h; exact absurd h hx
end Go.Proofs.YtfocokjihbenmaaGreatDoor.Fo

namespace Go.Proofs.YtfocokjihbenmaaGreatDoor.Fo
open Go.RowKit Go.Proofs.YtfocokjihbenmaaGreatDoor.Nu
set_option linter.unusedVariables false
set_option linter.unusedSimpArgs false

set_option maxRecDepth 100000 in
set_option maxHeartbeats 2000000 in
theorem pre_minus (a p : Int) (ha : I64 a) (w : World) : Calls Tryz.prog 35 #[.string ⟨#[45]⟩, .agg #[.int .i64 a, .int .i64 p]] w fun e w' => e = .returned (res (sub 0 1 a p)) ∧ Below w.heap.size w w' := by
  have HS : Hid (∀ W, Calls Tryz.prog 61 #[.agg #[.int .i64 0, .int .i64 1], .agg #[.int .i64 a, .int .i64 p]] W fun e w' => e = .returned (res (sub 0 1 a p)) ∧ Below W.heap.size W w') := Lib.hid fun W => Sub_any 0 1 a p W ha
  generalize sub 0 1 a p = r at HS ⊢
  unfold res at HS
  go_enter Tryz.func35, Tryz.ntmps35
  go_wp2_with fail
  go_region_with (first
    | (go_at_call 61; refine (HS.out _).mono ?_; rintro e w2 ⟨rfl, hb2⟩; obtain ⟨hc2, hf2⟩ := bcell hb2; have z2 : w.heap.size + 1 < w2.heap.size := (Nat.lt_of_lt_of_le z1 hb2.size))
    | (go_at_call 62; refine (integer_any 0 _).mono ?_; rintro e w1 ⟨rfl, hb⟩; obtain ⟨hc, hf⟩ := bcell hb; have z1 : w.heap.size + 1 < w1.heap.size := (by have := hb.size; simp at this; omega)))
  all_goals
    have b1 : Below w.heap.size w w1 := by
      first
        | exact below2 hb
        | exact ((((Below.refl _ w).alloc (Nat.le_refl _) _).alloc (by simp) _).drew).trans (hb.mono (by simp; omega))
    have b2 : Below w.heap.size w w2 := by
      first
        | exact b1.trans (hb2.mono b1.size)
        | exact b1.drew.trans (hb2.mono b1.size)
    have HB := Lib.hid b2
    clear b1 b2 hb hb2
    go_wp2
    first
      | exact bodyPost_ret (v := res r) (by simp [results, Tryz.results35, go_sem, hc2, hc, z1, res]) rfl ⟨rfl, two2 HB.out _ _⟩
      | exact bodyPost_ret (v := res r) (by simp [results, Tryz.results35, go_sem, hc2, hc, z1, res]) rfl ⟨rfl, (two2 HB.out _ _).drew⟩
theorem prefix_any (o : Tok) (ho : o ∈ uns ∨ o = [40]) (r : R3) (hr : Ok r.n r.d) (he : r.e = 0) (w : World) :
    Calls Tryz.prog 35 #[.string ⟨o.toArray⟩, .agg #[.int .i64 r.n, .int .i64 r.d]] w fun e w' => e = .returned (res (ap1 o r)) ∧ Below w.heap.size w w' := by
  have hi : I64 r.n := ⟨by have := hr.n1; omega, by have := hr.n2; omega⟩
  obtain ⟨a, p, e⟩ := r
  simp only at he
  subst he
  have : o = [45] ∨ o = [43] ∨ o = [110, 111, 116] ∨ o = [102, 108, 111, 111, 114] ∨ o = [40] := by
    rcases ho with h | h
    · simp only [uns, List.mem_cons, List.not_mem_nil, or_false] at h
      rcases h with h | h | h | h <;> simp [h]
    · exact .inr (.inr (.inr (.inr h)))
  rcases this with rfl | rfl | rfl | rfl | rfl
  · exact pre_minus a p hi w
  · exact pre_plus ⟨#[43]⟩ (.inl rfl) a p w
  · exact pre_not a p w
  · exact pre_floor a p w
  · exact pre_plus ⟨#[40]⟩ (.inr rfl) a p w
theorem apply_any (o : Tok) (ho : o ∈ allB) (r s : R3) (hs : Ok s.n s.d) (he : r.e = 0) (he2 : s.e = 0) (w : World) :
    Calls Tryz.prog 36 #[.string ⟨o.toArray⟩, .agg #[.int .i64 r.n, .int .i64 r.d], .agg #[.int .i64 s.n, .int .i64 s.d]] w fun e w' => e = .returned (res (ap2 o r s)) ∧ Below w.heap.size w w' := by
  have hi : I64 s.n := ⟨by have := hs.n1; omega, by have := hs.n2; omega⟩
  obtain ⟨a, p, e⟩ := r
  obtain ⟨b, q, e2⟩ := s
  simp only at he he2
  subst he he2
  simp only [allB, List.mem_cons, List.not_mem_nil, or_false] at ho
  rcases ho with rfl | rfl | rfl | rfl | rfl | rfl | rfl | rfl | rfl | rfl | rfl | rfl | rfl | rfl | rfl
  · exact ap_add a p b q w
  · exact ap_sub a p b q hi w
  · exact ap_mul a p b q w
  · exact ap_div a p b q w
  · exact ap_mod a p b q w
  · exact ap_rnd a p b q w
  · exact ap_pow a p b q w
  · exact ap_and a p b q w
  · exact ap_or a p b q w
  · exact ap_eq a p b q w
  · exact ap_ne a p b q w
  · exact ap_lt a p b q w
  · exact ap_gt a p b q w
  · exact ap_le a p b q w
  · exact ap_ge a p b q w
end Go.Proofs.YtfocokjihbenmaaGreatDoor.Fo

namespace Go.Proofs.YtfocokjihbenmaaGreatDoor.Fo
open Go.RowKit Go.Proofs.YtfocokjihbenmaaGreatDoor.Nu
set_option linter.unusedVariables false
set_option linter.unusedSimpArgs false

/-- What value leaves. -/
def Vp (w : World) (x : T) (e : Ending) (w' : World) : Prop := e = .returned (res (val x)) ∧ Below w.heap.size w w'
theorem lt9 {W : World} {g : Nat} {o : Obj} (h : W.heap[g]? = some o) : g < W.heap.size := (Array.getElem?_eq_some_iff.1 h).1
theorem res3 {w W : World} (h : Below w.heap.size w W) (u v : Value) : Below w.heap.size w ((W.setCell ⟨w.heap.size + 1, 0, none⟩ u).setCell ⟨w.heap.size + 1, 1, none⟩ v) := two2 h u v
theorem below33 {w w1 : World} {A B R : Obj} (hb : Below (((w.alloc A).alloc B).alloc R).heap.size (((w.alloc A).alloc B).alloc R) w1) : Below w.heap.size w w1 := below3 hb
theorem hp4 (w : World) (A B C D : Obj) : ((((w.alloc A).alloc B).alloc C).alloc D).heap[w.heap.size]? = some A ∧ ((((w.alloc A).alloc B).alloc C).alloc D).heap[w.heap.size + 1]? = some B ∧ ((((w.alloc A).alloc B).alloc C).alloc D).heap[w.heap.size + 1 + 1]? = some C := by
  refine ⟨?_, ?_, ?_⟩
  · rw [Below.heap_alloc _ _ _ (by simp only [World.size_alloc]; omega), Below.heap_alloc _ _ _ (by simp only [World.size_alloc]; omega), Below.heap_alloc _ _ _ (by simp only [World.size_alloc]; omega)]; exact nh _ _
  · rw [Below.heap_alloc _ _ _ (by simp only [World.size_alloc]; omega), Below.heap_alloc _ _ _ (by simp only [World.size_alloc]; omega)]
    have := nh (w.alloc A) B
    simp only [World.size_alloc] at this
    exact this
  · rw [Below.heap_alloc _ _ _ (by simp only [World.size_alloc]; omega)]
    have := nh ((w.alloc A).alloc B) C
    simp only [World.size_alloc] at this
    exact this
theorem s4 {W : World} {c : Nat} {a b x y : Value} {t : TypeId} (h : W.heap[c]? = some (.cells #[a, b, x, y] t)) (u v : Value) : ((W.setCell ⟨c, 0, none⟩ u).setCell ⟨c, 1, none⟩ v).heap[c]? = some (.cells #[u, v, x, y] t) := by
  simp only [World.setCell, Array.getElem?_modify, if_pos, h]
  rfl
/-- The three blocks of a call of value: the node, the result, the values. -/
structure Bk (w W : World) (o : Tok) (g k : Nat) (lv : Int) (a b c d : Int) : Prop where
  n : W.heap[w.heap.size]? = some (.cells #[.string ⟨o.toArray⟩, .slice (some ⟨g, 0, none⟩) k k, .int .i64 lv] 44)
  r : W.heap[w.heap.size + 1]? = some (nb 0 0)
  v : ∃ t, W.heap[w.heap.size + 1 + 1]? = some (.cells #[.int .i64 a, .int .i64 b, .int .i64 c, .int .i64 d] t)
theorem Bk.below {w W W' : World} {o : Tok} {g k : Nat} {lv a b c d : Int} (h : Bk w W o g k lv a b c d) (hb : Below W.heap.size W W') : Bk w W' o g k lv a b c d :=
  ⟨(hb.block _ (lt9 h.n)).trans h.n, (hb.block _ (lt9 h.r)).trans h.r, h.v.elim fun t ht => ⟨t, (hb.block _ (lt9 ht)).trans ht⟩⟩
theorem Bk.set {w W : World} {o : Tok} {g k : Nat} {lv a b c d : Int} (h : Bk w W o g k lv a b c d) (u v : Int) : Bk w ((W.setCell ⟨w.heap.size + 1 + 1, 0, none⟩ (.int .i64 u)).setCell ⟨w.heap.size + 1 + 1, 1, none⟩ (.int .i64 v)) o g k lv u v c d :=
  ⟨(s2_ne (by omega) _ _).trans h.n, (s2_ne (by omega) _ _).trans h.r, h.v.elim fun t ht => ⟨t, s4 ht _ _⟩⟩
theorem Bk.alloc {w W : World} {o : Tok} {g k : Nat} {lv a b c d : Int} (h : Bk w W o g k lv a b c d) (X : Obj) : Bk w (W.alloc X) o g k lv a b c d := h.below ((Below.refl _ W).alloc (Nat.le_refl _) X)
theorem Bk.facts {w W : World} {o : Tok} {g k : Nat} {lv a b c d : Int} (h : Bk w W o g k lv a b c d) :
    (W.cell? ⟨w.heap.size, 0, none⟩ = some (.string ⟨o.toArray⟩) ∧ W.cell? ⟨w.heap.size, 1, none⟩ = some (.slice (some ⟨g, 0, none⟩) k k) ∧ W.cell? ⟨w.heap.size, 2, none⟩ = some (.int .i64 lv)) ∧
    (W.cell? ⟨w.heap.size + 1, 0, none⟩ = some (.int .i64 0) ∧ W.cell? ⟨w.heap.size + 1, 1, none⟩ = some (.int .i64 0) ∧ W.frozen? ⟨w.heap.size + 1, 0, none⟩ = false ∧ W.frozen? ⟨w.heap.size + 1, 1, none⟩ = false) ∧
    (W.cell? ⟨w.heap.size + 1 + 1, 0, none⟩ = some (.int .i64 a) ∧ W.cell? ⟨w.heap.size + 1 + 1, 1, none⟩ = some (.int .i64 b) ∧ W.cell? ⟨w.heap.size + 1 + 1, 2, none⟩ = some (.int .i64 c) ∧ W.cell? ⟨w.heap.size + 1 + 1, 3, none⟩ = some (.int .i64 d)) ∧
    (W.frozen? ⟨w.heap.size + 1 + 1, 0, none⟩ = false ∧ W.frozen? ⟨w.heap.size + 1 + 1, 1, none⟩ = false ∧ W.frozen? ⟨w.heap.size + 1 + 1, 2, none⟩ = false ∧ W.frozen? ⟨w.heap.size + 1 + 1, 3, none⟩ = false) := by
  obtain ⟨t, hv⟩ := h.v
  have h1 := h.n
  have h2 := h.r
  unfold nb at h2
  refine ⟨⟨?_, ?_, ?_⟩, ⟨?_, ?_, ?_, ?_⟩, ⟨?_, ?_, ?_, ?_⟩, ?_, ?_, ?_, ?_⟩
  all_goals
    first
      | (unfold World.cell?; first | (rw [h1]; rfl) | (rw [h2]; rfl) | (rw [hv]; rfl))
      | (unfold World.frozen?; first | (rw [h1]; rfl) | (rw [h2]; rfl) | (rw [hv]; rfl))
set_option maxRecDepth 100000 in
set_option maxHeartbeats 2000000 in
theorem value_num (s : Tok) (hs : s.length ≤ 19) (w : World) (ht : Tb w) : Calls Tryz.prog 21 #[.agg #[sv s, .slice none 0 0, .int .i64 1]] w (Vp w (.num s)) := by
  have HP : Hid (∀ W, Below w.heap.size w W → Calls Tryz.prog 34 #[.string ⟨s.toArray⟩] W fun e w' => e = .returned (res (val (.num s))) ∧ Below W.heap.size W w') := Lib.hid fun W hW => by
    have := Parse_any ⟨s.toArray⟩ W (ht.below hW) (by simp [ByteArray.size]; omega)
    exact this
  unfold Vp
  generalize val (.num s) = r at HP ⊢
  unfold res at HP
  unfold sv
  clear ht
  go_enter Tryz.func21, Tryz.ntmps21
  go_wp2_with fail
  refine wp_loop_rounds 1 ?_
  rw [rounds_succ]
  go_wp2_with fail
  refine (HP.out _ ?_).mono ?_
  · exact (((Below.refl _ w).alloc (Nat.le_refl _) _).alloc (by simp) _).alloc (by simp; omega) _
  rintro e w1 ⟨rfl, hb⟩
  obtain ⟨hc, hf⟩ := bcell hb
  obtain ⟨z0, z1, z2⟩ := size3 hb
  have HB := Lib.hid (below3 hb)
  go_wp2
  exact bodyPost_ret (v := res r) (by simp [results, Tryz.results21, go_sem, hc, z1, res]) rfl ⟨rfl, res3 HB.out _ _⟩
set_option maxRecDepth 100000 in
set_option maxHeartbeats 2000000 in
theorem value_un (o : Tok) (ho : o ∈ uns ∨ o = [40]) (x : T) (w : World) (ht : Tb w) (g : Nat) (t : TypeId) (oo : ByteArray) (A : Option Addr) (k c n : Nat) (lv : Int) (hg : w.heap[g]? = some (.cells #[.string oo, .slice A k c, .int .i64 (n : Int)] t))
    (ih : ∀ W, Below w.heap.size w W → Calls Tryz.prog 21 #[.agg #[.string oo, .slice A k c, .int .i64 (n : Int)]] W (Vp W x)) :
    Calls Tryz.prog 21 #[.agg #[sv o, .slice (some ⟨g, 0, none⟩) 1 1, .int .i64 lv]] w (Vp w (.un o x)) := by
  have hgl := lt9 hg
  have h0 : w.cell? ⟨g, 0, none⟩ = some (.string oo) := by unfold World.cell?; rw [hg]; rfl
  have h1 : w.cell? ⟨g, 1, none⟩ = some (.slice A k c) := by unfold World.cell?; rw [hg]; rfl
  have h2 : w.cell? ⟨g, 2, none⟩ = some (.int .i64 (n : Int)) := by unfold World.cell?; rw [hg]; rfl
  have hg1 : g < w.heap.size + 1 := by omega
  have hg2 : g < w.heap.size + 1 + 1 := by omega
  have hg3 : g < w.heap.size + 1 + 1 + 1 := by omega
  have hok := val_ok x
  have HI := Lib.hid ih
  have hv : val (.un o x) = if (val x).e = 0 then ap1 o (val x) else ⟨0, 0, (val x).e⟩ := rfl
  unfold Vp at HI ⊢
  rw [hv]
  clear hv ih hg ht
  generalize val x = r at hok HI ⊢
  unfold res at HI
  unfold sv
  by_cases he : r.e = 0
  · have HA : Hid (∀ W, Calls Tryz.prog 35 #[.string ⟨o.toArray⟩, .agg #[.int .i64 r.n, .int .i64 r.d]] W fun e w' => e = .returned (res (ap1 o r)) ∧ Below W.heap.size W w') := Lib.hid fun W => prefix_any o ho r (hok he) he W
    rw [if_pos he]
    generalize ap1 o r = s at HA ⊢
    unfold res at HA
    clear hok ho
    go_enter Tryz.func21, Tryz.ntmps21
    go_wp2_with fail
    refine wp_loop_rounds 2 ?_
    rw [rounds_succ]
    go_wp2_with fail
    refine (HI.out _ ?_).mono ?_
    · exact ((((Below.refl _ w).alloc (Nat.le_refl _) _).alloc (by simp) _).alloc (by simp; omega) _).alloc (by simp; omega) _
    rintro e w1 ⟨rfl, hb⟩
    obtain ⟨hc, hf⟩ := bcell hb
    have HK : Hid (Bk w w1 o g 1 lv 0 0 0 0) := Lib.hid (Bk.below ⟨(hp4 w _ _ _ _).1, (hp4 w _ _ _ _).2.1, _, (hp4 w _ _ _ _).2.2⟩ hb)
    have hz1 := hb.size
    simp only [World.size_alloc] at hz1
    have z0 : w.heap.size < w1.heap.size := by omega
    have z1 : w.heap.size + 1 < w1.heap.size := by omega
    have z2 : w.heap.size + 1 + 1 < w1.heap.size := by omega
    have HB : Hid (Below w.heap.size w w1) := Lib.hid (((((Below.refl _ w).alloc (Nat.le_refl _) _).alloc (by simp) _).alloc (by simp; omega) _).alloc (by simp; omega) _ |>.trans (hb.mono (by simp; omega)))
    go_wp2_with fail
    rw [rounds_succ]
    go_wp2_with fail
    refine (HA.out _).mono ?_
    rintro e w2 ⟨rfl, hb2⟩
    obtain ⟨hc2, hf2⟩ := bcell hb2
    have HB2 := Lib.hid hb2
    have hz2 := hb2.size
    simp only [World.size_alloc, World.size_setCell] at hz2
    have y1 : w.heap.size + 1 < w2.heap.size := by omega
    have HK2 := Lib.hid (((HK.out.set _ _).alloc _).below hb2)
    obtain ⟨⟨a0, a1, a2⟩, ⟨r0, r1, rf0, rf1⟩, _⟩ := HK2.out.facts
    clear hb2
    go_wp2_with fail
    have b2 : Below w.heap.size w w2 := (((HB.out.setCell (p := ⟨w.heap.size + 1 + 1, 0, none⟩) (by show _ ≤ w.heap.size + 1 + 1; omega) _).setCell (p := ⟨w.heap.size + 1 + 1, 1, none⟩) (by show _ ≤ w.heap.size + 1 + 1; omega) _).alloc (by simp [World.setCell]; omega) _).trans (HB2.out.mono (by simp [World.setCell]; omega))
    exact bodyPost_ret (v := res s) (by simp [results, Tryz.results21, go_sem, r0, r1, y1, res]) rfl ⟨rfl, res3 b2 _ _⟩
  · have hd : (r.e == 0) = false := by simpa using he
    rw [if_neg he]
    clear hok ho he
    go_enter Tryz.func21, Tryz.ntmps21
    go_wp2_with fail
    refine wp_loop_rounds 2 ?_
    rw [rounds_succ]
    go_wp2_with fail
    refine (HI.out _ ?_).mono ?_
    · exact ((((Below.refl _ w).alloc (Nat.le_refl _) _).alloc (by simp) _).alloc (by simp; omega) _).alloc (by simp; omega) _
    rintro e w1 ⟨rfl, hb⟩
    obtain ⟨hc, hf⟩ := bcell hb
    have HK : Hid (Bk w w1 o g 1 lv 0 0 0 0) := Lib.hid (Bk.below ⟨(hp4 w _ _ _ _).1, (hp4 w _ _ _ _).2.1, _, (hp4 w _ _ _ _).2.2⟩ hb)
    have hz1 := hb.size
    simp only [World.size_alloc] at hz1
    have z0 : w.heap.size < w1.heap.size := by omega
    have z1 : w.heap.size + 1 < w1.heap.size := by omega
    have z2 : w.heap.size + 1 + 1 < w1.heap.size := by omega
    have HB : Hid (Below w.heap.size w w1) := Lib.hid (((((Below.refl _ w).alloc (Nat.le_refl _) _).alloc (by simp) _).alloc (by simp; omega) _).alloc (by simp; omega) _ |>.trans (hb.mono (by simp; omega)))
    go_wp2_with fail
    exact bodyPost_ret (v := res ⟨0, 0, r.e⟩) (by simp [results, Tryz.results21, go_sem, hc, z1, res]) rfl ⟨rfl, (res3 HB.out _ _).alloc (by simp [World.setCell]; omega) _⟩
set_option maxRecDepth 100000 in
set_option maxHeartbeats 4000000 in
theorem value_bin (o : Tok) (ho : o ∈ allB) (x y : T) (w : World) (g : Nat) (t : TypeId) (oo : ByteArray) (A : Option Addr) (k c n : Nat) (o2 : ByteArray) (A2 : Option Addr) (k2 c2 n2 : Nat) (lv : Int) (hg : w.heap[g]? = some (.cells #[.string oo, .slice A k c, .int .i64 (n : Int), .string o2, .slice A2 k2 c2, .int .i64 (n2 : Int)] t))
    (ih : ∀ W, Below w.heap.size w W → Calls Tryz.prog 21 #[.agg #[.string oo, .slice A k c, .int .i64 (n : Int)]] W (Vp W x))
    (ih2 : ∀ W, Below w.heap.size w W → Calls Tryz.prog 21 #[.agg #[.string o2, .slice A2 k2 c2, .int .i64 (n2 : Int)]] W (Vp W y)) :
    Calls Tryz.prog 21 #[.agg #[sv o, .slice (some ⟨g, 0, none⟩) 2 2, .int .i64 lv]] w (Vp w (.bin o x y)) := by
  have hgl := lt9 hg
  have h0 : w.cell? ⟨g, 0, none⟩ = some (.string oo) := by unfold World.cell?; rw [hg]; rfl
  have h1 : w.cell? ⟨g, 1, none⟩ = some (.slice A k c) := by unfold World.cell?; rw [hg]; rfl
  have h2 : w.cell? ⟨g, 2, none⟩ = some (.int .i64 (n : Int)) := by unfold World.cell?; rw [hg]; rfl
  have h3 : w.cell? ⟨g, 3, none⟩ = some (.string o2) := by unfold World.cell?; rw [hg]; rfl
  have h4 : w.cell? ⟨g, 4, none⟩ = some (.slice A2 k2 c2) := by unfold World.cell?; rw [hg]; rfl
  have h5 : w.cell? ⟨g, 5, none⟩ = some (.int .i64 (n2 : Int)) := by unfold World.cell?; rw [hg]; rfl
  have hg1 : g < w.heap.size + 1 := by omega
  have hg2 : g < w.heap.size + 1 + 1 := by omega
  have hg3 : g < w.heap.size + 1 + 1 + 1 := by omega
  have hok := val_ok y
  have HI := Lib.hid ih
  have HJ := Lib.hid ih2
  have hv : val (.bin o x y) = if (val x).e = 0 then (if (val y).e = 0 then ap2 o (val x) (val y) else ⟨0, 0, (val y).e⟩) else ⟨0, 0, (val x).e⟩ := rfl
  unfold Vp at HI HJ ⊢
  rw [hv]
  clear hv ih ih2 hg
  generalize val x = r at HI ⊢
  generalize val y = r2 at hok HJ ⊢
  unfold res at HI HJ
  unfold sv
  by_cases he : r.e = 0
  · rw [if_pos he]
    by_cases he2 : r2.e = 0
    · have HA : Hid (∀ W, Calls Tryz.prog 36 #[.string ⟨o.toArray⟩, .agg #[.int .i64 r.n, .int .i64 r.d], .agg #[.int .i64 r2.n, .int .i64 r2.d]] W fun e w' => e = .returned (res (ap2 o r r2)) ∧ Below W.heap.size W w') := Lib.hid fun W => apply_any o ho r r2 (hok he2) he he2 W
      rw [if_pos he2]
      generalize ap2 o r r2 = s at HA ⊢
      unfold res at HA
      clear hok ho
      go_enter Tryz.func21, Tryz.ntmps21
      go_wp2_with fail
      refine wp_loop_rounds 3 ?_
      rw [rounds_succ]
      go_wp2_with fail
      refine (HI.out _ ?_).mono ?_
      · exact ((((Below.refl _ w).alloc (Nat.le_refl _) _).alloc (by simp) _).alloc (by simp; omega) _).alloc (by simp; omega) _
      rintro e w1 ⟨rfl, hb⟩
      obtain ⟨hc, hf⟩ := bcell hb
      have HK : Hid (Bk w w1 o g 2 lv 0 0 0 0) := Lib.hid (Bk.below ⟨(hp4 w _ _ _ _).1, (hp4 w _ _ _ _).2.1, _, (hp4 w _ _ _ _).2.2⟩ hb)
      have hz1 := hb.size
      simp only [World.size_alloc] at hz1
      have z0 : w.heap.size < w1.heap.size := by omega
      have z1 : w.heap.size + 1 < w1.heap.size := by omega
      have z2 : w.heap.size + 1 + 1 < w1.heap.size := by omega
      have zg : g < w1.heap.size := by omega
      have HB : Hid (Below w.heap.size w w1) := Lib.hid (((((Below.refl _ w).alloc (Nat.le_refl _) _).alloc (by simp) _).alloc (by simp; omega) _).alloc (by simp; omega) _ |>.trans (hb.mono (by simp; omega)))
      clear hb
      go_wp2_with fail
      rw [rounds_succ]
      go_wp2_with fail
      refine (HJ.out _ ?_).mono ?_
      · exact (((HB.out.setCell (p := ⟨w.heap.size + 1 + 1, 0, none⟩) (by show _ ≤ w.heap.size + 1 + 1; omega) _).setCell (p := ⟨w.heap.size + 1 + 1, 1, none⟩) (by show _ ≤ w.heap.size + 1 + 1; omega) _).alloc (by simp [World.setCell]; omega) _).alloc (by simp [World.setCell]; omega) _
      rintro e w2 ⟨rfl, hb2⟩
      have HK2 := Lib.hid ((((HK.out.set _ _).alloc _).alloc _).below hb2)
      obtain ⟨⟨a0, a1, a2⟩, ⟨r0, r1, rf0, rf1⟩, ⟨v0, v1, v2, v3⟩, vf0, vf1, vf2, vf3⟩ := HK2.out.facts
      have hz2 := hb2.size
      simp only [World.size_alloc, World.size_setCell] at hz2
      have y0 : w.heap.size < w2.heap.size := by omega
      have y1 : w.heap.size + 1 < w2.heap.size := by omega
      have y2 : w.heap.size + 1 + 1 < w2.heap.size := by omega
      have HB2 : Hid (Below w.heap.size w w2) := Lib.hid ((((HB.out.setCell (p := ⟨w.heap.size + 1 + 1, 0, none⟩) (by show _ ≤ w.heap.size + 1 + 1; omega) _).setCell (p := ⟨w.heap.size + 1 + 1, 1, none⟩) (by show _ ≤ w.heap.size + 1 + 1; omega) _).alloc (by simp [World.setCell]; omega) _).alloc (by simp [World.setCell]; omega) _ |>.trans (hb2.mono (by simp [World.setCell]; omega)))
      clear hb2
      go_wp2_with fail
      rw [rounds_succ]
      go_wp2_with fail
      refine (HA.out _).mono ?_
      rintro e w3 ⟨rfl, hb3⟩
      have hs3 : ∀ i, i ≠ w.heap.size + 1 + 1 → ∀ u v : Value, ((w2.setCell ⟨w.heap.size + 1 + 1, 2, none⟩ u).setCell ⟨w.heap.size + 1 + 1, 3, none⟩ v).heap[i]? = w2.heap[i]? := fun i hi u v => by rw [Below.heap_setCell _ _ _ _ hi, Below.heap_setCell _ _ _ _ hi]
      have hr3 : w3.heap[w.heap.size + 1]? = some (nb 0 0) := (hb3.block _ (by simp [World.setCell]; omega)).trans ((Below.heap_alloc _ _ _ (by simp [World.setCell]; omega)).trans ((hs3 _ (by omega) _ _).trans HK2.out.r))
      obtain ⟨r0, r1, rf0, rf1⟩ := Go.Proofs.YtfocokjihbenmaaGreatDoor.Fo.c2 hr3
      clear hs3 hr3
      have HB3 := Lib.hid hb3
      have hz3 := hb3.size
      simp only [World.size_alloc, World.size_setCell] at hz3
      have x1 : w.heap.size + 1 < w3.heap.size := by omega
      clear hb3
      go_wp2_with fail
      have b3 : Below w.heap.size w w3 := (((HB2.out.setCell (p := ⟨w.heap.size + 1 + 1, 2, none⟩) (by show _ ≤ w.heap.size + 1 + 1; omega) _).setCell (p := ⟨w.heap.size + 1 + 1, 3, none⟩) (by show _ ≤ w.heap.size + 1 + 1; omega) _).alloc (by simp [World.setCell]; omega) _).trans (HB3.out.mono (by simp [World.setCell]; omega))
      exact bodyPost_ret (v := res s) (by simp [results, Tryz.results21, go_sem, r0, r1, x1, res]) rfl ⟨rfl, res3 b3 _ _⟩
    · have hd2 : (r2.e == 0) = false := by simpa using he2
      rw [if_neg he2]
      clear hok ho he2
      go_enter Tryz.func21, Tryz.ntmps21
      go_wp2_with fail
      refine wp_loop_rounds 3 ?_
      rw [rounds_succ]
      go_wp2_with fail
      refine (HI.out _ ?_).mono ?_
      · exact ((((Below.refl _ w).alloc (Nat.le_refl _) _).alloc (by simp) _).alloc (by simp; omega) _).alloc (by simp; omega) _
      rintro e w1 ⟨rfl, hb⟩
      obtain ⟨hc, hf⟩ := bcell hb
      have HK : Hid (Bk w w1 o g 2 lv 0 0 0 0) := Lib.hid (Bk.below ⟨(hp4 w _ _ _ _).1, (hp4 w _ _ _ _).2.1, _, (hp4 w _ _ _ _).2.2⟩ hb)
      have hz1 := hb.size
      simp only [World.size_alloc] at hz1
      have z0 : w.heap.size < w1.heap.size := by omega
      have z1 : w.heap.size + 1 < w1.heap.size := by omega
      have z2 : w.heap.size + 1 + 1 < w1.heap.size := by omega
      have zg : g < w1.heap.size := by omega
      have HB : Hid (Below w.heap.size w w1) := Lib.hid (((((Below.refl _ w).alloc (Nat.le_refl _) _).alloc (by simp) _).alloc (by simp; omega) _).alloc (by simp; omega) _ |>.trans (hb.mono (by simp; omega)))
      clear hb
      go_wp2_with fail
      rw [rounds_succ]
      go_wp2_with fail
      refine (HJ.out _ ?_).mono ?_
      · exact (((HB.out.setCell (p := ⟨w.heap.size + 1 + 1, 0, none⟩) (by show _ ≤ w.heap.size + 1 + 1; omega) _).setCell (p := ⟨w.heap.size + 1 + 1, 1, none⟩) (by show _ ≤ w.heap.size + 1 + 1; omega) _).alloc (by simp [World.setCell]; omega) _).alloc (by simp [World.setCell]; omega) _
      rintro e w2 ⟨rfl, hb2⟩
      have HK2 := Lib.hid ((((HK.out.set _ _).alloc _).alloc _).below hb2)
      obtain ⟨⟨a0, a1, a2⟩, ⟨r0, r1, rf0, rf1⟩, ⟨v0, v1, v2, v3⟩, vf0, vf1, vf2, vf3⟩ := HK2.out.facts
      have hz2 := hb2.size
      simp only [World.size_alloc, World.size_setCell] at hz2
      have y0 : w.heap.size < w2.heap.size := by omega
      have y1 : w.heap.size + 1 < w2.heap.size := by omega
      have y2 : w.heap.size + 1 + 1 < w2.heap.size := by omega
      have HB2 : Hid (Below w.heap.size w w2) := Lib.hid ((((HB.out.setCell (p := ⟨w.heap.size + 1 + 1, 0, none⟩) (by show _ ≤ w.heap.size + 1 + 1; omega) _).setCell (p := ⟨w.heap.size + 1 + 1, 1, none⟩) (by show _ ≤ w.heap.size + 1 + 1; omega) _).alloc (by simp [World.setCell]; omega) _).alloc (by simp [World.setCell]; omega) _ |>.trans (hb2.mono (by simp [World.setCell]; omega)))
      clear hb2
      go_wp2_with fail
      exact bodyPost_ret (v := res ⟨0, 0, r2.e⟩) (by simp [results, Tryz.results21, go_sem, r0, r1, y1, res]) rfl ⟨rfl, (res3 HB2.out _ _).alloc (by simp [World.setCell]; omega) _⟩
  · have hd : (r.e == 0) = false := by simpa using he
    rw [if_neg he]
    clear hok ho he
    go_enter Tryz.func21, Tryz.ntmps21
    go_wp2_with fail
    refine wp_loop_rounds 3 ?_
    rw [rounds_succ]
    go_wp2_with fail
    refine (HI.out _ ?_).mono ?_
    · exact ((((Below.refl _ w).alloc (Nat.le_refl _) _).alloc (by simp) _).alloc (by simp; omega) _).alloc (by simp; omega) _
    rintro e w1 ⟨rfl, hb⟩
    obtain ⟨hc, hf⟩ := bcell hb
    have HK : Hid (Bk w w1 o g 2 lv 0 0 0 0) := Lib.hid (Bk.below ⟨(hp4 w _ _ _ _).1, (hp4 w _ _ _ _).2.1, _, (hp4 w _ _ _ _).2.2⟩ hb)
    have hz1 := hb.size
    simp only [World.size_alloc] at hz1
    have z0 : w.heap.size < w1.heap.size := by omega
    have z1 : w.heap.size + 1 < w1.heap.size := by omega
    have z2 : w.heap.size + 1 + 1 < w1.heap.size := by omega
    have zg : g < w1.heap.size := by omega
    have HB : Hid (Below w.heap.size w w1) := Lib.hid (((((Below.refl _ w).alloc (Nat.le_refl _) _).alloc (by simp) _).alloc (by simp; omega) _).alloc (by simp; omega) _ |>.trans (hb.mono (by simp; omega)))
    clear hb
    go_wp2_with fail
    exact bodyPost_ret (v := res ⟨0, 0, r.e⟩) (by simp [results, Tryz.results21, go_sem, hc, z1, res]) rfl ⟨rfl, (res3 HB.out _ _).alloc (by simp [World.setCell]; omega) _⟩
theorem value_any : ∀ (x : T) (hx : x.wf) (X : Nat → Prop) (w : World) (v : Value), Nd X w x v → Tb w → Calls Tryz.prog 21 #[v] w (Vp w x)
  | .num s, hs, X, w, v, h, ht => by rw [show v = _ from h]; exact value_num s hs w ht
  | .un o x, hw, X, w, v, ⟨g, t, a, b, c, e, _, hg, hx⟩, ht => by
    rw [e]
    obtain ⟨oo, A, k, c', e'⟩ := hx.form
    cases e'
    exact value_un o hw.1 x w ht g t oo A k c' _ _ hg (fun W hW => value_any x hw.2 X W _ (hx.below hW) (ht.below hW))
  | .bin o x y, hw, X, w, v, ⟨g, t, a, b, c, a', b', c', e, _, hg, hx, hy⟩, ht => by
    rw [e]
    obtain ⟨oo, A, k, c1, e1⟩ := hx.form
    obtain ⟨o2, A2, k2, c2, e2⟩ := hy.form
    cases e1; cases e2
    exact value_bin o hw.1 x y w g t oo A k c1 _ o2 A2 k2 c2 _ _ hg (fun W hW => value_any x hw.2.1 X W _ (hx.below hW) (ht.below hW)) (fun W hW => value_any y hw.2.2 X W _ (hy.below hW) (ht.below hW))
end Go.Proofs.YtfocokjihbenmaaGreatDoor.Fo
