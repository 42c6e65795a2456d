/-
  The contracts of Sub, checkDivision and Div of package number.
-/
import Derived.Test.YtfocokjihbenmaaDoorNuAdd
namespace Go.Proofs.YtfocokjihbenmaaDoor.Nu
open Go.RowKit

def I64 (x : Int) : Prop := -9223372036854775808 ≤ x ∧ x ≤ 9223372036854775807
theorem okB_neg (b q : Int) : okB (-b) q = okB b q := by
  unfold okB; rw [Bool.eq_iff_iff]; simp; omega
theorem add_neg (a p b q : Int) : add a p (-b) q = sub a p b q := by
  unfold add sub; rw [okB_neg, Int.neg_mul, ← Int.sub_eq_add_neg]
theorem okB_least (q : Int) : okB (-9223372036854775808) q = false := by
  unfold okB; rw [decide_eq_false_iff_not]; omega
theorem neg_least : IntKind.i64.wrap (- (-9223372036854775808)) = -9223372036854775808 := by decide
theorem add_least (a p q : Int) : add a p (-9223372036854775808) q = sub a p (-9223372036854775808) q := by
  unfold add sub; rw [okB_least]; simp
/-- The number of which the program takes the sum. -/
def ng (b : Int) : Int := IntKind.i64.wrap (-b)
theorem add_ng (a p b q : Int) (h : I64 b) : add a p (ng b) q = sub a p b q := by
  unfold ng
  by_cases hb : b = -9223372036854775808
  · subst hb; rw [neg_least, add_least]
  · unfold I64 at h
    rw [IntWalk.i64_in _ (by omega), add_neg]
set_option maxRecDepth 100000 in
set_option maxHeartbeats 1000000 in
theorem Sub_any (a p b q : Int) (w : World) (h : I64 b) :
    Calls Tryd.prog 54 #[.agg #[.int .i64 a, .int .i64 p], .agg #[.int .i64 b, .int .i64 q]] w fun e w' => e = .returned (.tuple #[.agg #[.int .i64 (sub a p b q).n, .int .i64 (sub a p b q).d], .int .i64 (sub a p b q).e]) ∧ Below w.heap.size w w' := by
  have HA := Lib.hid (add_ng a p b q h); clear h
  have e1 : IntKind.i64.wrap (-b) = ng b := rfl
  have HX := Lib.hid e1
  go_enter Tryd.func54, Tryd.ntmps54
  go_wp2_with fail
  refine (Add_any a p (ng b) q _).mono ?_
  rintro e w1 ⟨rfl, hb⟩
  obtain ⟨hc, hf⟩ := bcell hb
  obtain ⟨z0, z1, z2⟩ := size3 hb
  have HB := Lib.hid (below3 hb)
  go_wp2
  exact bodyPost_ret (v := .tuple #[.agg #[.int .i64 (add a p (ng b) q).n, .int .i64 (add a p (ng b) q).d], .int .i64 (add a p (ng b) q).e]) (by simp [results, Tryd.results54, go_sem, hc]) rfl ⟨by rw [HA.out], two3 HB.out _ _⟩

/-- The first error of a division that does not depend on the result. -/
def chk (a p b q : Int) : Int := if okB a p && okB b q then (if b = 0 then 16 else 0) else 7
theorem below2 {w w1 : World} {A B : Obj} (hb : Below ((w.alloc A).alloc B).heap.size ((w.alloc A).alloc B) w1) : Below w.heap.size w w1 :=
  (((Below.refl _ w).alloc (Nat.le_refl _) A).alloc (by simp) B).trans (hb.mono (by simp; omega))
theorem size2 {w w1 : World} {A B : Obj} (hb : Below ((w.alloc A).alloc B).heap.size ((w.alloc A).alloc B) w1) : w.heap.size < w1.heap.size ∧ w.heap.size + 1 < w1.heap.size := by
  have := hb.size; simp at this; omega
theorem size2b {w w1 w2 : World} (h : w.heap.size + 1 < w1.heap.size) (hb : Below w1.heap.size w1 w2) : w.heap.size < w2.heap.size ∧ w.heap.size + 1 < w2.heap.size := by
  have := hb.size; omega
set_option maxRecDepth 100000 in
set_option maxHeartbeats 1000000 in
theorem chk_any (a p b q : Int) (w : World) :
    Calls Tryd.prog 85 #[.agg #[.int .i64 a, .int .i64 p], .agg #[.int .i64 b, .int .i64 q]] w fun e w' => e = .returned (.int .i64 (chk a p b q)) ∧ Below w.heap.size w w' := by
  cases h1 : okB a p
  · have HA : Hid (chk a p b q = 7) := Lib.hid (by unfold chk; rw [h1]; rfl)
    have V1 := Lib.hid h1; clear h1
    go_enter Tryd.func85, Tryd.ntmps85
    go_wp2_with fail
    refine (Valid_no V1.out _).mono ?_
    rintro e w1 ⟨rfl, hb⟩
    obtain ⟨hc, hf⟩ := bcell hb
    go_wp2
    go_ret
    exact ⟨ret_int (by rw [HA.out]), below2 hb⟩
  · cases h2 : okB b q
    · have HA : Hid (chk a p b q = 7) := Lib.hid (by unfold chk; rw [h1, h2]; rfl)
      have V1 := Lib.hid h1; clear h1
      have V2 := Lib.hid h2; clear h2
      go_enter Tryd.func85, Tryd.ntmps85
      go_wp2_with fail
      refine (Valid_yes V1.out _).mono ?_
      rintro e w1 ⟨rfl, hb⟩
      obtain ⟨hc, hf⟩ := bcell hb
      obtain ⟨z0, z1⟩ := size2 hb
      have HB := Lib.hid (below2 hb)
      go_wp2_with fail
      refine (Valid_no V2.out _).mono ?_
      rintro e w2 ⟨rfl, hb2⟩
      go_wp2
      go_ret
      exact ⟨ret_int (by rw [HA.out]), HB.out.trans (hb2.mono HB.out.size)⟩
    · by_cases hz : b = 0
      · subst hz
        have HA : Hid (chk a p 0 q = 16) := Lib.hid (by unfold chk; rw [h1, h2]; rfl)
        have V1 := Lib.hid h1; clear h1
        have V2 := Lib.hid h2; clear h2
        go_enter Tryd.func85, Tryd.ntmps85
        go_wp2_with fail
        refine (Valid_yes V1.out _).mono ?_
        rintro e w1 ⟨rfl, hb⟩
        obtain ⟨hc, hf⟩ := bcell hb
        obtain ⟨z0, z1⟩ := size2 hb
        have HB := Lib.hid (below2 hb)
        go_wp2_with fail
        refine (Valid_yes V2.out _).mono ?_
        rintro e w2 ⟨rfl, hb2⟩
        obtain ⟨hc2, hf2⟩ := bcell hb2
        go_wp2
        go_ret
        exact ⟨ret_int (by rw [HA.out]), HB.out.trans (hb2.mono HB.out.size)⟩
      · have HA : Hid (chk a p b q = 0) := Lib.hid (by unfold chk; rw [h1, h2]; simp [hz])
        have hz0 : (b == 0) = false := by simpa using hz
        have V1 := Lib.hid h1; clear h1
        have V2 := Lib.hid h2; clear h2
        have HZ := Lib.hid hz; clear hz
        go_enter Tryd.func85, Tryd.ntmps85
        go_wp2_with fail
        refine (Valid_yes V1.out _).mono ?_
        rintro e w1 ⟨rfl, hb⟩
        obtain ⟨hc, hf⟩ := bcell hb
        obtain ⟨z0, z1⟩ := size2 hb
        have HB := Lib.hid (below2 hb)
        go_wp2_with fail
        refine (Valid_yes V2.out _).mono ?_
        rintro e w2 ⟨rfl, hb2⟩
        obtain ⟨hc2, hf2⟩ := bcell hb2
        go_wp2
        go_ret
        exact ⟨ret_int (by rw [HA.out]), HB.out.trans (hb2.mono HB.out.size)⟩

set_option maxRecDepth 100000 in
set_option maxHeartbeats 1000000 in
theorem Div_any (a p b q : Int) (w : World) :
    Calls Tryd.prog 61 #[.agg #[.int .i64 a, .int .i64 p], .agg #[.int .i64 b, .int .i64 q]] w fun e w' => e = .returned (.tuple #[.agg #[.int .i64 (div a p b q).n, .int .i64 (div a p b q).d], .int .i64 (div a p b q).e]) ∧ Below w.heap.size w w' := by
  by_cases hk : chk a p b q = 0
  · have h12 : okB a p = true ∧ okB b q = true ∧ b ≠ 0 := by
      unfold chk at hk; cases h1 : okB a p <;> cases h2 : okB b q <;> simp [h1, h2] at hk ⊢
      intro hb; simp [hb] at hk
    obtain ⟨h1, h2, hz⟩ := h12
    have hP := pr_of h1 h2
    have HA : Hid (div a p b q = fit (a * q) (p * b)) := Lib.hid (by unfold div; rw [h1, h2]; simp [hz])
    have q1 := hP.aq; have q2 := hP.pb
    have hne : p * b ≠ 0 := ne_mul (okB_iff.1 h1).ne hz
    have e0 : IntKind.i64.wrap (a * q) = a * q := IntWalk.i64_in _ (by omega)
    have e1 : IntKind.i64.wrap (p * b) = p * b := IntWalk.i64_in _ (by omega)
    have HN := Lib.hid hne
    clear h1 h2 hz hP hne
    go_enter Tryd.func61, Tryd.ntmps61
    go_wp2_with fail
    refine (chk_any a p b q _).mono ?_
    rintro e w1 ⟨rfl, hb⟩
    obtain ⟨hc, hf⟩ := bcell hb
    obtain ⟨z0, z1, z2⟩ := size3 hb
    have HB := Lib.hid (below3 hb)
    go_wp2_with fail
    refine (fit_any (a * q) (p * b) _ (by omega) (by omega) HN.out).mono ?_
    rintro e w3 ⟨rfl, hb3⟩
    obtain ⟨hc3, hf3⟩ := bcell hb3
    have HB3 := Lib.hid (HB.out.trans (hb3.mono HB.out.size))
    go_wp2
    exact bodyPost_ret (v := .tuple #[.agg #[.int .i64 (fit (a * q) (p * b)).n, .int .i64 (fit (a * q) (p * b)).d], .int .i64 (fit (a * q) (p * b)).e]) (by simp [results, Tryd.results61, go_sem, hc, hc3, z2]) rfl ⟨by rw [HA.out], two3 HB3.out _ _⟩
  · have HA : Hid (div a p b q = ⟨0, 0, chk a p b q⟩) := Lib.hid (by
      unfold chk at hk; unfold div chk; cases h1 : okB a p <;> cases h2 : okB b q <;> simp [h1, h2] at hk ⊢
      simp [hk])
    have hk1 : (chk a p b q != 0) = true := by rw [bne_iff_ne]; exact hk
    have HK := Lib.hid hk; clear hk
    go_enter Tryd.func61, Tryd.ntmps61
    go_wp2_with fail
    refine (chk_any a p b q _).mono ?_
    rintro e w1 ⟨rfl, hb⟩
    obtain ⟨hc, hf⟩ := bcell hb
    obtain ⟨z0, z1, z2⟩ := size3 hb
    have HB := Lib.hid (below3 hb)
    go_wp2
    exact bodyPost_ret (v := .tuple #[.agg #[.int .i64 0, .int .i64 0], .int .i64 (chk a p b q)]) (by simp [results, Tryd.results61, go_sem, hc]) rfl ⟨by rw [HA.out], two3 HB.out _ _⟩
end Go.Proofs.YtfocokjihbenmaaDoor.Nu
