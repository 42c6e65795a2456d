/-
  The contracts of the operators.
-/
import Derived.Test.YtfocokjihbenmaaDoorFoVal
import Derived.Test.YtfocokjihbenmaaDoorNuMod
import Derived.Deep.RegionWith
namespace Go.Proofs.YtfocokjihbenmaaDoor.Fo
open Go.RowKit Go.Proofs.YtfocokjihbenmaaDoor.Nu
set_option linter.unusedVariables false
set_option linter.unusedSimpArgs false

def num2 (n d : Int) : Value := .agg #[.int .i64 n, .int .i64 d]
def res (r : R3) : Value := .tuple #[.agg #[.int .i64 r.n, .int .i64 r.d], .int .i64 r.e]
theorem integer_any (i : Int) (w : World) : Calls Tryd.prog 55 #[.int .i64 i] w fun e w' => e = .returned (.agg #[.int .i64 i, .int .i64 1]) ∧ Below w.heap.size w w' := by
  go_enter Tryd.func55, Tryd.ntmps55
  go_wp2
  exact bodyPost_ret (v := .agg #[.int .i64 i, .int .i64 1]) (by simp [results, Tryd.results55, go_sem]) rfl ⟨rfl, (Below.refl _ w).alloc (Nat.le_refl _) _⟩
theorem one3 {w W : World} (h : Below w.heap.size w W) (u v : Value) : Below w.heap.size w ((W.setCell ⟨w.heap.size, 0, none⟩ u).setCell ⟨w.heap.size, 1, none⟩ v) := (h.setCell (Nat.le_refl _) _).setCell (Nat.le_refl _) _
theorem truth_any (b : Bool) (w : World) : Calls Tryd.prog 56 #[.bool b] w fun e w' => e = .returned (.agg #[.int .i64 (tr b).n, .int .i64 1]) ∧ Below w.heap.size w w' := by
  cases b
  all_goals
    go_enter Tryd.func56, Tryd.ntmps56
    go_wp2_with fail
    refine (integer_any _ _).mono ?_
    rintro e w1 ⟨rfl, hb⟩
    obtain ⟨hc, hf⟩ := bcell hb
    have hz : w.heap.size < w1.heap.size := by have := hb.size; simp at this; omega
    have HB := Lib.hid (below1 hb)
    go_wp2
    first
      | exact bodyPost_ret (v := .agg #[.int .i64 0, .int .i64 1]) (by simp [results, Tryd.results56, go_sem, hc]) rfl ⟨rfl, one3 HB.out _ _⟩
      | exact bodyPost_ret (v := .agg #[.int .i64 1, .int .i64 1]) (by simp [results, Tryd.results56, go_sem, hc]) rfl ⟨rfl, one3 HB.out _ _⟩
theorem isTrue_any (n d : Int) (w : World) : Calls Tryd.prog 57 #[.agg #[.int .i64 n, .int .i64 d]] w fun e w' => e = .returned (.bool (decide (n ≠ 0))) ∧ Below w.heap.size w w' := by
  by_cases hn : n = 0
  · subst hn
    go_enter Tryd.func57, Tryd.ntmps57
    go_wp2
    go_ret
    exact ⟨rfl, (Below.refl _ w).alloc (Nat.le_refl _) _⟩
  · have hd : (n == 0) = false := by simpa using hn
    have HN := Lib.hid hn; clear hn
    go_enter Tryd.func57, Tryd.ntmps57
    go_wp2
    go_ret
    exact ⟨by rw [decide_eq_true HN.out]; simp [hd, bne], (Below.refl _ w).alloc (Nat.le_refl _) _⟩
theorem holds_eq (c : Int) (hc : c = -1 ∨ c = 0 ∨ c = 1) (w : World) : Calls Tryd.prog 65 #[.string ⟨#[61]⟩, .int .i64 c] w fun e w' => e = .returned (.bool (holdsB [61] c)) ∧ w' = w := by
  rcases hc with rfl | rfl | rfl
  all_goals
    go_enter Tryd.func65, Tryd.ntmps65
    go_wp2
    go_ret
    exact ⟨rfl, rfl⟩
theorem holds_ne (c : Int) (hc : c = -1 ∨ c = 0 ∨ c = 1) (w : World) : Calls Tryd.prog 65 #[.string ⟨#[60, 62]⟩, .int .i64 c] w fun e w' => e = .returned (.bool (holdsB [60, 62] c)) ∧ w' = w := by
  rcases hc with rfl | rfl | rfl
  all_goals
    go_enter Tryd.func65, Tryd.ntmps65
    go_wp2
    go_ret
    exact ⟨rfl, rfl⟩
theorem holds_lt (c : Int) (hc : c = -1 ∨ c = 0 ∨ c = 1) (w : World) : Calls Tryd.prog 65 #[.string ⟨#[60]⟩, .int .i64 c] w fun e w' => e = .returned (.bool (holdsB [60] c)) ∧ w' = w := by
  rcases hc with rfl | rfl | rfl
  all_goals
    go_enter Tryd.func65, Tryd.ntmps65
    go_wp2
    go_ret
    exact ⟨rfl, rfl⟩
theorem holds_gt (c : Int) (hc : c = -1 ∨ c = 0 ∨ c = 1) (w : World) : Calls Tryd.prog 65 #[.string ⟨#[62]⟩, .int .i64 c] w fun e w' => e = .returned (.bool (holdsB [62] c)) ∧ w' = w := by
  rcases hc with rfl | rfl | rfl
  all_goals
    go_enter Tryd.func65, Tryd.ntmps65
    go_wp2
    go_ret
    exact ⟨rfl, rfl⟩
theorem holds_le (c : Int) (hc : c = -1 ∨ c = 0 ∨ c = 1) (w : World) : Calls Tryd.prog 65 #[.string ⟨#[60, 61]⟩, .int .i64 c] w fun e w' => e = .returned (.bool (holdsB [60, 61] c)) ∧ w' = w := by
  rcases hc with rfl | rfl | rfl
  all_goals
    go_enter Tryd.func65, Tryd.ntmps65
    go_wp2
    go_ret
    exact ⟨rfl, rfl⟩
theorem holds_ge (c : Int) (hc : c = -1 ∨ c = 0 ∨ c = 1) (w : World) : Calls Tryd.prog 65 #[.string ⟨#[62, 61]⟩, .int .i64 c] w fun e w' => e = .returned (.bool (holdsB [62, 61] c)) ∧ w' = w := by
  rcases hc with rfl | rfl | rfl
  all_goals
    go_enter Tryd.func65, Tryd.ntmps65
    go_wp2
    go_ret
    exact ⟨rfl, rfl⟩
theorem cmp_three (a p b q : Int) : cmp a p b q = -1 ∨ cmp a p b q = 0 ∨ cmp a p b q = 1 := by
  unfold cmp; repeat' split
  all_goals omega
set_option maxRecDepth 100000 in
set_option maxHeartbeats 2000000 in
theorem ap_add (a p b q : Int) (w : World) : Calls Tryd.prog 31 #[.string ⟨#[43]⟩, .agg #[.int .i64 a, .int .i64 p], .agg #[.int .i64 b, .int .i64 q]] w fun e w' => e = .returned (res (add a p b q)) ∧ Below w.heap.size w w' := by
  go_enter Tryd.func31, Tryd.ntmps31
  go_wp2_with fail
  refine (Add_any a p b q _).mono ?_
  rintro e w1 ⟨rfl, hb⟩
  obtain ⟨hc, hf⟩ := bcell hb
  obtain ⟨z0, z1, z2⟩ := size3 hb
  have HB := Lib.hid (below3 hb)
  go_wp2
  exact bodyPost_ret (v := res (add a p b q)) (by simp [results, Tryd.results31, go_sem, hc, res]) rfl ⟨rfl, two3 HB.out _ _⟩
set_option maxRecDepth 100000 in
set_option maxHeartbeats 2000000 in
theorem ap_sub (a p b q : Int) (h : I64 b) (w : World) : Calls Tryd.prog 31 #[.string ⟨#[45]⟩, .agg #[.int .i64 a, .int .i64 p], .agg #[.int .i64 b, .int .i64 q]] w fun e w' => e = .returned (res (sub a p b q)) ∧ Below w.heap.size w w' := by
  go_enter Tryd.func31, Tryd.ntmps31
  go_wp2_with fail
  refine (Sub_any a p b q _ h).mono ?_
  rintro e w1 ⟨rfl, hb⟩
  obtain ⟨hc, hf⟩ := bcell hb
  obtain ⟨z0, z1, z2⟩ := size3 hb
  have HB := Lib.hid (below3 hb)
  go_wp2
  exact bodyPost_ret (v := res (sub a p b q)) (by simp [results, Tryd.results31, go_sem, hc, res]) rfl ⟨rfl, two3 HB.out _ _⟩
set_option maxRecDepth 100000 in
set_option maxHeartbeats 2000000 in
theorem ap_mul (a p b q : Int) (w : World) : Calls Tryd.prog 31 #[.string ⟨#[42]⟩, .agg #[.int .i64 a, .int .i64 p], .agg #[.int .i64 b, .int .i64 q]] w fun e w' => e = .returned (res (mul a p b q)) ∧ Below w.heap.size w w' := by
  go_enter Tryd.func31, Tryd.ntmps31
  go_wp2_with fail
  refine (Mul_any a p b q _).mono ?_
  rintro e w1 ⟨rfl, hb⟩
  obtain ⟨hc, hf⟩ := bcell hb
  obtain ⟨z0, z1, z2⟩ := size3 hb
  have HB := Lib.hid (below3 hb)
  go_wp2
  exact bodyPost_ret (v := res (mul a p b q)) (by simp [results, Tryd.results31, go_sem, hc, res]) rfl ⟨rfl, two3 HB.out _ _⟩
set_option maxRecDepth 100000 in
set_option maxHeartbeats 2000000 in
theorem ap_div (a p b q : Int) (w : World) : Calls Tryd.prog 31 #[.string ⟨#[47]⟩, .agg #[.int .i64 a, .int .i64 p], .agg #[.int .i64 b, .int .i64 q]] w fun e w' => e = .returned (res (div a p b q)) ∧ Below w.heap.size w w' := by
  go_enter Tryd.func31, Tryd.ntmps31
  go_wp2_with fail
  refine (Div_any a p b q _).mono ?_
  rintro e w1 ⟨rfl, hb⟩
  obtain ⟨hc, hf⟩ := bcell hb
  obtain ⟨z0, z1, z2⟩ := size3 hb
  have HB := Lib.hid (below3 hb)
  go_wp2
  exact bodyPost_ret (v := res (div a p b q)) (by simp [results, Tryd.results31, go_sem, hc, res]) rfl ⟨rfl, two3 HB.out _ _⟩
set_option maxRecDepth 100000 in
set_option maxHeartbeats 2000000 in
theorem ap_mod (a p b q : Int) (w : World) : Calls Tryd.prog 31 #[.string ⟨#[109, 111, 100]⟩, .agg #[.int .i64 a, .int .i64 p], .agg #[.int .i64 b, .int .i64 q]] w fun e w' => e = .returned (res (mod a p b q)) ∧ Below w.heap.size w w' := by
  go_enter Tryd.func31, Tryd.ntmps31
  go_wp2_with fail
  refine (Mod_any a p b q _).mono ?_
  rintro e w1 ⟨rfl, hb⟩
  obtain ⟨hc, hf⟩ := bcell hb
  obtain ⟨z0, z1, z2⟩ := size3 hb
  have HB := Lib.hid (below3 hb)
  go_wp2
  exact bodyPost_ret (v := res (mod a p b q)) (by simp [results, Tryd.results31, go_sem, hc, res]) rfl ⟨rfl, two3 HB.out _ _⟩
end Go.Proofs.YtfocokjihbenmaaDoor.Fo
