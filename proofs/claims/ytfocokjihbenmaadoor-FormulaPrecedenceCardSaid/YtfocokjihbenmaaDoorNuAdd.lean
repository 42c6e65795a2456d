/-
  The contracts of Add and Mul of package number.
-/
import Derived.Test.YtfocokjihbenmaaDoorNuAdd0
namespace Go.Proofs.YtfocokjihbenmaaDoor.Nu
open Go.RowKit

set_option maxRecDepth 100000 in
set_option maxHeartbeats 1000000 in
theorem Add_any (a p b q : Int) (w : World) :
    Calls Tryd.prog 59 #[.agg #[.int .i64 a, .int .i64 p], .agg #[.int .i64 b, .int .i64 q]] w fun e w' => e = .returned (.tuple #[.agg #[.int .i64 (add a p b q).n, .int .i64 (add a p b q).d], .int .i64 (add a p b q).e]) ∧ Below w.heap.size w w' := by
  cases h1 : okB a p
  · have HA : Hid (add a p b q = ⟨0, 0, 7⟩) := Lib.hid (by unfold add; rw [h1]; rfl)
    have V1 := Lib.hid h1; clear h1
    go_enter Tryd.func59, Tryd.ntmps59
    go_wp2_with fail
    refine (Valid_no V1.out _).mono ?_
    rintro e w1 ⟨rfl, hb⟩
    obtain ⟨hc, hf⟩ := bcell hb
    have HB := Lib.hid (below3 hb)
    go_wp2
    exact bodyPost_ret (v := .tuple #[.agg #[.int .i64 0, .int .i64 0], .int .i64 7]) (by simp [results, Tryd.results59, go_sem, hc]) rfl ⟨by rw [HA.out], two3 HB.out _ _⟩
  · cases h2 : okB b q
    · have HA : Hid (add a p b q = ⟨0, 0, 7⟩) := Lib.hid (by unfold add; rw [h1, h2]; rfl)
      have V1 := Lib.hid h1; clear h1
      have V2 := Lib.hid h2; clear h2
      go_enter Tryd.func59, Tryd.ntmps59
      go_wp2_with fail
      refine (Valid_yes V1.out _).mono ?_
      rintro e w1 ⟨rfl, hb⟩
      obtain ⟨hc, hf⟩ := bcell hb
      obtain ⟨z0, z1, z2⟩ := size3 hb
      have HB := Lib.hid (below3 hb)
      go_wp2_with fail
      refine (Valid_no V2.out _).mono ?_
      rintro e w2 ⟨rfl, hb2⟩
      obtain ⟨hc2, hf2⟩ := bcell hb2
      have HB2 := Lib.hid (HB.out.trans (hb2.mono HB.out.size))
      go_wp2
      exact bodyPost_ret (v := .tuple #[.agg #[.int .i64 0, .int .i64 0], .int .i64 7]) (by simp [results, Tryd.results59, go_sem, hc, hc2, z2]) rfl ⟨by rw [HA.out], two3 HB2.out _ _⟩
    · have hP := pr_of h1 h2
      have HA : Hid (add a p b q = fit (a * q + b * p) (p * q)) := Lib.hid (by unfold add; rw [h1, h2]; rfl)
      have q1 := hP.aq; have q2 := hP.bp; have q3 := hP.pq; have q4 := hP.ab; have q5 := hP.pq1
      have V1 := Lib.hid h1; clear h1
      have V2 := Lib.hid h2; clear h2
      have e0 : IntKind.i64.wrap (a * q) = a * q := IntWalk.i64_in _ (by omega)
      have e1 : IntKind.i64.wrap (b * p) = b * p := IntWalk.i64_in _ (by omega)
      have e2 : IntKind.i64.wrap (a * q + b * p) = a * q + b * p := IntWalk.i64_in _ (by omega)
      have e3 : IntKind.i64.wrap (p * q) = p * q := IntWalk.i64_in _ (by omega)
      go_enter Tryd.func59, Tryd.ntmps59
      go_wp2_with fail
      refine (Valid_yes V1.out _).mono ?_
      rintro e w1 ⟨rfl, hb⟩
      obtain ⟨hc, hf⟩ := bcell hb
      obtain ⟨z0, z1, z2⟩ := size3 hb
      have HB := Lib.hid (below3 hb)
      go_wp2_with fail
      refine (Valid_yes V2.out _).mono ?_
      rintro e w2 ⟨rfl, hb2⟩
      obtain ⟨hc2, hf2⟩ := bcell hb2
      obtain ⟨y0, y1, y2⟩ := size4 z2 hb2
      have HB2 := Lib.hid (HB.out.trans (hb2.mono HB.out.size))
      go_wp2_with fail
      refine (fit_any (a * q + b * p) (p * q) _ (by omega) (by omega) (by omega)).mono ?_
      rintro e w3 ⟨rfl, hb3⟩
      obtain ⟨hc3, hf3⟩ := bcell hb3
      have HB3 := Lib.hid (HB2.out.trans (hb3.mono HB2.out.size))
      go_wp2
      exact bodyPost_ret (v := .tuple #[.agg #[.int .i64 (fit (a * q + b * p) (p * q)).n, .int .i64 (fit (a * q + b * p) (p * q)).d], .int .i64 (fit (a * q + b * p) (p * q)).e]) (by simp [results, Tryd.results59, go_sem, hc, hc2, hc3, z2, y2]) rfl ⟨by rw [HA.out], two3 HB3.out _ _⟩

set_option maxRecDepth 100000 in
set_option maxHeartbeats 1000000 in
theorem Mul_any (a p b q : Int) (w : World) :
    Calls Tryd.prog 60 #[.agg #[.int .i64 a, .int .i64 p], .agg #[.int .i64 b, .int .i64 q]] w fun e w' => e = .returned (.tuple #[.agg #[.int .i64 (mul a p b q).n, .int .i64 (mul a p b q).d], .int .i64 (mul a p b q).e]) ∧ Below w.heap.size w w' := by
  cases h1 : okB a p
  · have HA : Hid (mul a p b q = ⟨0, 0, 7⟩) := Lib.hid (by unfold mul; rw [h1]; rfl)
    have V1 := Lib.hid h1; clear h1
    go_enter Tryd.func60, Tryd.ntmps60
    go_wp2_with fail
    refine (Valid_no V1.out _).mono ?_
    rintro e w1 ⟨rfl, hb⟩
    obtain ⟨hc, hf⟩ := bcell hb
    have HB := Lib.hid (below3 hb)
    go_wp2
    exact bodyPost_ret (v := .tuple #[.agg #[.int .i64 0, .int .i64 0], .int .i64 7]) (by simp [results, Tryd.results60, go_sem, hc]) rfl ⟨by rw [HA.out], two3 HB.out _ _⟩
  · cases h2 : okB b q
    · have HA : Hid (mul a p b q = ⟨0, 0, 7⟩) := Lib.hid (by unfold mul; rw [h1, h2]; rfl)
      have V1 := Lib.hid h1; clear h1
      have V2 := Lib.hid h2; clear h2
      go_enter Tryd.func60, Tryd.ntmps60
      go_wp2_with fail
      refine (Valid_yes V1.out _).mono ?_
      rintro e w1 ⟨rfl, hb⟩
      obtain ⟨hc, hf⟩ := bcell hb
      obtain ⟨z0, z1, z2⟩ := size3 hb
      have HB := Lib.hid (below3 hb)
      go_wp2_with fail
      refine (Valid_no V2.out _).mono ?_
      rintro e w2 ⟨rfl, hb2⟩
      obtain ⟨hc2, hf2⟩ := bcell hb2
      have HB2 := Lib.hid (HB.out.trans (hb2.mono HB.out.size))
      go_wp2
      exact bodyPost_ret (v := .tuple #[.agg #[.int .i64 0, .int .i64 0], .int .i64 7]) (by simp [results, Tryd.results60, go_sem, hc, hc2, z2]) rfl ⟨by rw [HA.out], two3 HB2.out _ _⟩
    · have hP := pr_of h1 h2
      have HA : Hid (mul a p b q = fit (a * b) (p * q)) := Lib.hid (by unfold mul; rw [h1, h2]; rfl)
      have q1 := hP.aq; have q2 := hP.bp; have q3 := hP.pq; have q4 := hP.ab; have q5 := hP.pq1
      have V1 := Lib.hid h1; clear h1
      have V2 := Lib.hid h2; clear h2
      have e0 : IntKind.i64.wrap (a * b) = a * b := IntWalk.i64_in _ (by omega)
      have e1 : IntKind.i64.wrap (p * q) = p * q := IntWalk.i64_in _ (by omega)
      go_enter Tryd.func60, Tryd.ntmps60
      go_wp2_with fail
      refine (Valid_yes V1.out _).mono ?_
      rintro e w1 ⟨rfl, hb⟩
      obtain ⟨hc, hf⟩ := bcell hb
      obtain ⟨z0, z1, z2⟩ := size3 hb
      have HB := Lib.hid (below3 hb)
      go_wp2_with fail
      refine (Valid_yes V2.out _).mono ?_
      rintro e w2 ⟨rfl, hb2⟩
      obtain ⟨hc2, hf2⟩ := bcell hb2
      obtain ⟨y0, y1, y2⟩ := size4 z2 hb2
      have HB2 := Lib.hid (HB.out.trans (hb2.mono HB.out.size))
      go_wp2_with fail
      refine (fit_any (a * b) (p * q) _ (by omega) (by omega) (by omega)).mono ?_
      rintro e w3 ⟨rfl, hb3⟩
      obtain ⟨hc3, hf3⟩ := bcell hb3
      have HB3 := Lib.hid (HB2.out.trans (hb3.mono HB2.out.size))
      go_wp2
      exact bodyPost_ret (v := .tuple #[.agg #[.int .i64 (fit (a * b) (p * q)).n, .int .i64 (fit (a * b) (p * q)).d], .int .i64 (fit (a * b) (p * q)).e]) (by simp [results, Tryd.results60, go_sem, hc, hc2, hc3, z2, y2]) rfl ⟨by rw [HA.out], two3 HB3.out _ _⟩
end Go.Proofs.YtfocokjihbenmaaDoor.Nu
