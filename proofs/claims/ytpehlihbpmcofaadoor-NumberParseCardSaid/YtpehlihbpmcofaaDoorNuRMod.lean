/-
  The contracts of Div and Mod of the reference of chapter 6.
-/
import Derived.Test.YtpehlihbpmcofaaDoorNuMod

namespace Go.Proofs.YtpehlihbpmcofaaDoor.Nu
open Go.RowKit

theorem cell_new (W : World) (c : Array Value) (t : TypeId) (i : Nat) (v : Value) (hv : c[i]? = some v) : (W.alloc (.cells c t)).cell? ⟨W.heap.size, i, none⟩ = some v := by simp [hv]
theorem set3a (w W : World) (i : Nat) (u v : Value) : ((W.setCell ⟨w.heap.size + 1 + 1, 0, none⟩ u).setCell ⟨w.heap.size + 1 + 1, 1, none⟩ v).cell? ⟨w.heap.size, i, none⟩ = W.cell? ⟨w.heap.size, i, none⟩ :=
  (((Below.refl (w.heap.size + 1 + 1) W).setCell (p := ⟨w.heap.size + 1 + 1, 0, none⟩) (Nat.le_refl _) u).setCell (p := ⟨w.heap.size + 1 + 1, 1, none⟩) (Nat.le_refl _) v).cell (p := ⟨w.heap.size, i, none⟩) (show w.heap.size < w.heap.size + 1 + 1 by omega)
theorem set3b (w W : World) (i : Nat) (u v : Value) : ((W.setCell ⟨w.heap.size + 1 + 1, 0, none⟩ u).setCell ⟨w.heap.size + 1 + 1, 1, none⟩ v).cell? ⟨w.heap.size + 1, i, none⟩ = W.cell? ⟨w.heap.size + 1, i, none⟩ :=
  (((Below.refl (w.heap.size + 1 + 1) W).setCell (p := ⟨w.heap.size + 1 + 1, 0, none⟩) (Nat.le_refl _) u).setCell (p := ⟨w.heap.size + 1 + 1, 1, none⟩) (Nat.le_refl _) v).cell (p := ⟨w.heap.size + 1, i, none⟩) (show w.heap.size + 1 < w.heap.size + 1 + 1 by omega)
theorem held3 {w w1 w2 : World} {A B : Array Value} {s t : TypeId} {R : Obj} (hb : Below (((w.alloc (.cells A s)).alloc (.cells B t)).alloc R).heap.size (((w.alloc (.cells A s)).alloc (.cells B t)).alloc R) w1) (hb2 : Below w1.heap.size w1 w2) :
    (∀ (i : Nat) (v : Value), A[i]? = some v → w2.cell? ⟨w.heap.size, i, none⟩ = some v) ∧ (∀ (i : Nat) (v : Value), B[i]? = some v → w2.cell? ⟨w.heap.size + 1, i, none⟩ = some v) := by
  obtain ⟨z0, z1, z2⟩ := size3 hb
  have sA : ((w.alloc (.cells A s)).heap.size) = w.heap.size + 1 := by simp
  have sB : (((w.alloc (.cells A s)).alloc (.cells B t)).heap.size) = w.heap.size + 1 + 1 := by simp
  have sR : ((((w.alloc (.cells A s)).alloc (.cells B t)).alloc R).heap.size) = w.heap.size + 1 + 1 + 1 := by simp
  refine ⟨fun i v h => ?_, fun i v h => ?_⟩
  · have h0 := cell_new w A s i v h
    have h1 := (((Below.refl (w.alloc (.cells A s)).heap.size (w.alloc (.cells A s))).alloc (Nat.le_refl _) (.cells B t)).cell (p := ⟨w.heap.size, i, none⟩) (show w.heap.size < _ by omega)).trans h0
    have h2 := (((Below.refl ((w.alloc (.cells A s)).alloc (.cells B t)).heap.size ((w.alloc (.cells A s)).alloc (.cells B t))).alloc (Nat.le_refl _) R).cell (p := ⟨w.heap.size, i, none⟩) (show w.heap.size < _ by omega)).trans h1
    exact (hb2.cell (p := ⟨w.heap.size, i, none⟩) z0).trans ((hb.cell (p := ⟨w.heap.size, i, none⟩) (show w.heap.size < _ by omega)).trans h2)
  · have h1 := cell_new (w.alloc (.cells A s)) B t i v h
    rw [sA] at h1
    have h2 := (((Below.refl ((w.alloc (.cells A s)).alloc (.cells B t)).heap.size ((w.alloc (.cells A s)).alloc (.cells B t))).alloc (Nat.le_refl _) R).cell (p := ⟨w.heap.size + 1, i, none⟩) (show w.heap.size + 1 < _ by omega)).trans h1
    exact (hb2.cell (p := ⟨w.heap.size + 1, i, none⟩) z1).trans ((hb.cell (p := ⟨w.heap.size + 1, i, none⟩) (show w.heap.size + 1 < _ by omega)).trans h2)

set_option maxRecDepth 100000 in
set_option maxHeartbeats 2000000 in
theorem RDiv_any (a p b q : Int) (w : World) :
    Calls Tryd.prog 26 #[.agg #[.int .i64 a, .int .i64 p], .agg #[.int .i64 b, .int .i64 q]] w fun e w' => e = .returned (.tuple #[.agg #[.int .i64 (div a p b q).n, .int .i64 (div a p b q).d], .int .i64 (div a p b q).e]) ∧ Below w.heap.size w w' := by
  cases h1 : okB a p
  · have HA : Hid (div a p b q = ⟨0, 0, 7⟩) := Lib.hid (by unfold div; rw [h1]; rfl)
    have V1 := Lib.hid h1; clear h1
    go_enter Tryd.func26, Tryd.ntmps26
    go_wp2_with fail
    refine (RValid_no V1.out _).mono ?_
    rintro e w1 ⟨rfl, hb⟩
    obtain ⟨hc, hf⟩ := bcell hb
    have HB := Lib.hid (below3 hb)
    go_wp2
    exact bodyPost_ret (v := .tuple #[.agg #[.int .i64 0, .int .i64 0], .int .i64 7]) (by simp [results, Tryd.results26, go_sem, hc]) rfl ⟨by rw [HA.out], two3 HB.out _ _⟩
  · cases h2 : okB b q
    · have HA : Hid (div a p b q = ⟨0, 0, 7⟩) := Lib.hid (by unfold div; rw [h1, h2]; rfl)
      have V1 := Lib.hid h1; clear h1
      have V2 := Lib.hid h2; clear h2
      go_enter Tryd.func26, Tryd.ntmps26
      go_wp2_with fail
      refine (RValid_yes V1.out _).mono ?_
      rintro e w1 ⟨rfl, hb⟩
      obtain ⟨hc, hf⟩ := bcell hb
      obtain ⟨z0, z1, z2⟩ := size3 hb
      have HB := Lib.hid (below3 hb)
      go_wp2_with fail
      refine (RValid_no V2.out _).mono ?_
      rintro e w2 ⟨rfl, hb2⟩
      obtain ⟨hc2, hf2⟩ := bcell hb2
      have HB2 := Lib.hid (HB.out.trans (hb2.mono HB.out.size))
      go_wp2
      exact bodyPost_ret (v := .tuple #[.agg #[.int .i64 0, .int .i64 0], .int .i64 7]) (by simp [results, Tryd.results26, go_sem, hc, hc2, z2]) rfl ⟨by rw [HA.out], two3 HB2.out _ _⟩
    · by_cases hz : b = 0
      · subst hz
        have HA : Hid (div a p 0 q = ⟨0, 0, 16⟩) := Lib.hid (by unfold div; rw [h1, h2]; rfl)
        have V1 := Lib.hid h1; clear h1
        have V2 := Lib.hid h2; clear h2
        go_enter Tryd.func26, Tryd.ntmps26
        go_wp2_with fail
        refine (RValid_yes V1.out _).mono ?_
        rintro e w1 ⟨rfl, hb⟩
        obtain ⟨hc, hf⟩ := bcell hb
        obtain ⟨z0, z1, z2⟩ := size3 hb
        have HB := Lib.hid (below3 hb)
        go_wp2_with fail
        refine (RValid_yes V2.out _).mono ?_
        rintro e w2 ⟨rfl, hb2⟩
        obtain ⟨hc2, hf2⟩ := bcell hb2
        obtain ⟨y0, y1, y2⟩ := size4 z2 hb2
        have HB2 := Lib.hid (HB.out.trans (hb2.mono HB.out.size))
        go_wp2
        exact bodyPost_ret (v := .tuple #[.agg #[.int .i64 0, .int .i64 0], .int .i64 16]) (by simp [results, Tryd.results26, go_sem, hc, hc2, z2]) rfl ⟨by rw [HA.out], two3 HB2.out _ _⟩
      · have hP := pr_of h1 h2
        have HA : Hid (div a p b q = fit (a * q) (p * b)) := Lib.hid (by unfold div; rw [h1, h2]; simp [hz])
        have q1 := hP.aq; have q2 := hP.bp; have q3 := hP.pq; have q4 := hP.pb; have q5 := hP.pq1
        have hne : b * p ≠ 0 := ne_mul hz (okB_iff.1 h1).ne
        have hne2 : p * b ≠ 0 := ne_mul (okB_iff.1 h1).ne hz
        have hz0 : (b == 0) = false := by simpa using hz
        have e0 : IntKind.i64.wrap (a * q) = a * q := IntWalk.i64_in _ (by omega)
        have e1 : IntKind.i64.wrap (p * b) = p * b := IntWalk.i64_in _ (by omega)
        have HZ := Lib.hid hz; have HN := Lib.hid hne; have HN2 := Lib.hid hne2
        have V1 := Lib.hid h1
        have V2 := Lib.hid h2
        clear h1 h2 hz hP hne hne2
        go_enter Tryd.func26, Tryd.ntmps26
        go_wp2_with fail
        refine (RValid_yes V1.out _).mono ?_
        rintro e w1 ⟨rfl, hb⟩
        obtain ⟨hc, hf⟩ := bcell hb
        obtain ⟨z0, z1, z2⟩ := size3 hb
        have HB := Lib.hid (below3 hb)
        go_wp2_with fail
        refine (RValid_yes V2.out _).mono ?_
        rintro e w2 ⟨rfl, hb2⟩
        obtain ⟨hc2, hf2⟩ := bcell hb2
        obtain ⟨y0, y1, y2⟩ := size4 z2 hb2
        have HB2 := Lib.hid (HB.out.trans (hb2.mono HB.out.size))
        go_wp2_with fail
        refine (form_any (a * q) (p * b) _ (by omega) (by omega) HN2.out).mono ?_
        rintro e w3 ⟨rfl, hb3⟩
        obtain ⟨hc3, hf3⟩ := bcell hb3
        have HB3 := Lib.hid (HB2.out.trans (hb3.mono HB2.out.size))
        go_wp2
        exact bodyPost_ret (v := .tuple #[.agg #[.int .i64 (fit (a * q) (p * b)).n, .int .i64 (fit (a * q) (p * b)).d], .int .i64 (fit (a * q) (p * b)).e]) (by simp [results, Tryd.results26, go_sem, hc, hc2, hc3, z2, y2]) rfl ⟨by rw [HA.out], two3 HB3.out _ _⟩

set_option maxRecDepth 100000 in
set_option maxHeartbeats 2000000 in
theorem RMod_any (a p b q : Int) (w : World) :
    Calls Tryd.prog 28 #[.agg #[.int .i64 a, .int .i64 p], .agg #[.int .i64 b, .int .i64 q]] w fun e w' => e = .returned (.tuple #[.agg #[.int .i64 (mod a p b q).n, .int .i64 (mod a p b q).d], .int .i64 (mod a p b q).e]) ∧ Below w.heap.size w w' := by
  cases h1 : okB a p
  · have HA : Hid (mod a p b q = ⟨0, 0, 7⟩) := Lib.hid (by unfold mod; rw [h1]; rfl)
    have V1 := Lib.hid h1; clear h1
    go_enter Tryd.func28, Tryd.ntmps28
    go_wp2_with fail
    refine (RValid_no V1.out _).mono ?_
    rintro e w1 ⟨rfl, hb⟩
    obtain ⟨hc, hf⟩ := bcell hb
    have HB := Lib.hid (below3 hb)
    go_wp2
    exact bodyPost_ret (v := .tuple #[.agg #[.int .i64 0, .int .i64 0], .int .i64 7]) (by simp [results, Tryd.results28, go_sem, hc]) rfl ⟨by rw [HA.out], two3 HB.out _ _⟩
  · cases h2 : okB b q
    · have HA : Hid (mod a p b q = ⟨0, 0, 7⟩) := Lib.hid (by unfold mod; rw [h1, h2]; rfl)
      have V1 := Lib.hid h1; clear h1
      have V2 := Lib.hid h2; clear h2
      go_enter Tryd.func28, Tryd.ntmps28
      go_wp2_with fail
      refine (RValid_yes V1.out _).mono ?_
      rintro e w1 ⟨rfl, hb⟩
      obtain ⟨hc, hf⟩ := bcell hb
      obtain ⟨z0, z1, z2⟩ := size3 hb
      have HB := Lib.hid (below3 hb)
      go_wp2_with fail
      refine (RValid_no V2.out _).mono ?_
      rintro e w2 ⟨rfl, hb2⟩
      obtain ⟨hc2, hf2⟩ := bcell hb2
      have HB2 := Lib.hid (HB.out.trans (hb2.mono HB.out.size))
      go_wp2
      exact bodyPost_ret (v := .tuple #[.agg #[.int .i64 0, .int .i64 0], .int .i64 7]) (by simp [results, Tryd.results28, go_sem, hc, hc2, z2]) rfl ⟨by rw [HA.out], two3 HB2.out _ _⟩
    · by_cases hz : b = 0
      · subst hz
        have HA : Hid (mod a p 0 q = ⟨0, 0, 16⟩) := Lib.hid (by unfold mod; rw [h1, h2]; rfl)
        have V1 := Lib.hid h1; clear h1
        have V2 := Lib.hid h2; clear h2
        go_enter Tryd.func28, Tryd.ntmps28
        go_wp2_with fail
        refine (RValid_yes V1.out _).mono ?_
        rintro e w1 ⟨rfl, hb⟩
        obtain ⟨hc, hf⟩ := bcell hb
        obtain ⟨z0, z1, z2⟩ := size3 hb
        have HB := Lib.hid (below3 hb)
        go_wp2_with fail
        refine (RValid_yes V2.out _).mono ?_
        rintro e w2 ⟨rfl, hb2⟩
        obtain ⟨hc2, hf2⟩ := bcell hb2
        obtain ⟨y0, y1, y2⟩ := size4 z2 hb2
        have HB2 := Lib.hid (HB.out.trans (hb2.mono HB.out.size))
        go_wp2
        exact bodyPost_ret (v := .tuple #[.agg #[.int .i64 0, .int .i64 0], .int .i64 16]) (by simp [results, Tryd.results28, go_sem, hc, hc2, z2]) rfl ⟨by rw [HA.out], two3 HB2.out _ _⟩
      · have hP := pr_of h1 h2
        have HA : Hid (mod a p b q = fit (Int.fmod (a * q) (b * p)) (p * q)) := Lib.hid (by unfold mod; rw [h1, h2]; simp [hz])
        have q1 := hP.aq; have q2 := hP.bp; have q3 := hP.pq; have q4 := hP.pb; have q5 := hP.pq1
        have hne : b * p ≠ 0 := ne_mul hz (okB_iff.1 h1).ne
        have hne2 : p * b ≠ 0 := ne_mul (okB_iff.1 h1).ne hz
        have hz0 : (b == 0) = false := by simpa using hz
        have e0 : IntKind.i64.wrap (a * q) = a * q := IntWalk.i64_in _ (by omega)
        have e1 : IntKind.i64.wrap (b * p) = b * p := IntWalk.i64_in _ (by omega)
        have e2 : IntKind.i64.wrap (p * q) = p * q := IntWalk.i64_in _ (by omega)
        have hm := fmod_bd (a * q) hne
        have hm2 : (Int.fmod (a * q) (b * p)).natAbs ≤ 4000000000000000000 := by omega
        have HM := Lib.hid hm2
        clear hm hm2
        have HZ := Lib.hid hz; have HN := Lib.hid hne; have HN2 := Lib.hid hne2
        have V1 := Lib.hid h1
        have V2 := Lib.hid h2
        clear h1 h2 hz hP hne hne2
        go_enter Tryd.func28, Tryd.ntmps28
        go_wp2_with fail
        refine (RValid_yes V1.out _).mono ?_
        rintro e w1 ⟨rfl, hb⟩
        obtain ⟨hc, hf⟩ := bcell hb
        obtain ⟨z0, z1, z2⟩ := size3 hb
        have HB := Lib.hid (below3 hb)
        go_wp2_with fail
        refine (RValid_yes V2.out _).mono ?_
        rintro e w2 ⟨rfl, hb2⟩
        obtain ⟨hc2, hf2⟩ := bcell hb2
        obtain ⟨y0, y1, y2⟩ := size4 z2 hb2
        have HB2 := Lib.hid (HB.out.trans (hb2.mono HB.out.size))
        have k0 : w2.cell? ⟨w.heap.size, 0, none⟩ = some (.int .i64 a) := (held3 hb hb2).1 0 _ rfl
        have k1 : w2.cell? ⟨w.heap.size, 1, none⟩ = some (.int .i64 p) := (held3 hb hb2).1 1 _ rfl
        have k2 : w2.cell? ⟨w.heap.size + 1, 0, none⟩ = some (.int .i64 b) := (held3 hb hb2).2 0 _ rfl
        have k3 : w2.cell? ⟨w.heap.size + 1, 1, none⟩ = some (.int .i64 q) := (held3 hb hb2).2 1 _ rfl
        go_wp2
        go_region_held3 (fun W => W.cell? ⟨w.heap.size, 0, none⟩ = some (.int .i64 a) ∧ W.cell? ⟨w.heap.size, 1, none⟩ = some (.int .i64 p) ∧ W.cell? ⟨w.heap.size + 1, 0, none⟩ = some (.int .i64 b) ∧ W.cell? ⟨w.heap.size + 1, 1, none⟩ = some (.int .i64 q)) (first | exact ⟨k0, k1, k2, k3⟩ | exact ⟨(hc3 _ _ y0).trans k0, (hc3 _ _ y0).trans k1, (hc3 _ _ y1).trans k2, (hc3 _ _ y1).trans k3⟩ | exact ⟨(set3a w w3 0 _ _).trans ((hc3 _ _ y0).trans k0), (set3a w w3 1 _ _).trans ((hc3 _ _ y0).trans k1), (set3b w w3 0 _ _).trans ((hc3 _ _ y1).trans k2), (set3b w w3 1 _ _).trans ((hc3 _ _ y1).trans k3)⟩)
          (first | (go_at_call 51; refine (below_any (a * q) (b * p) _ (by omega) HN.out).mono ?_; rintro e w' ⟨rfl, rfl⟩) | (go_at_call 45; refine (form_any (Int.fmod (a * q) (b * p)) (p * q) _ HM.out (by omega) (by omega)).mono ?_; rintro e w3 ⟨rfl, hb3⟩; obtain ⟨hc3, hf3⟩ := bcellN (W := w2) (n := 1) hb3))
        have HB3 := Lib.hid ((below_drewN HB2.out 1).trans (hb3.mono (below_drewN HB2.out 1).size))
        go_wp2
        exact bodyPost_ret (v := .tuple #[.agg #[.int .i64 (fit (Int.fmod (a * q) (b * p)) (p * q)).n, .int .i64 (fit (Int.fmod (a * q) (b * p)) (p * q)).d], .int .i64 (fit (Int.fmod (a * q) (b * p)) (p * q)).e]) (by simp [results, Tryd.results28, go_sem, hc, hc2, hc3, z2, y2]) rfl ⟨by rw [HA.out], two3 HB3.out _ _⟩
end Go.Proofs.YtpehlihbpmcofaaDoor.Nu
