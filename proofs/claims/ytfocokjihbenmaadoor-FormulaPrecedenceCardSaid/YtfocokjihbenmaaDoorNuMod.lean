/-
  The contracts of Mod of package number.
-/
import Derived.Test.YtfocokjihbenmaaDoorNuRound
import Derived.Deep.RegionWith
namespace Go.Proofs.YtfocokjihbenmaaDoor.Nu
open Go.RowKit

theorem mod_pq (x y : Int) : x - y * Int.fdiv x y = Int.fmod x y := by
  have := Int.fmod_add_mul_fdiv x y
  generalize y * x.fdiv y = z at *
  generalize x.fmod y = u at *
  omega
theorem fmod_bd (x : Int) {y : Int} (h : y ≠ 0) : (Int.fmod x y).natAbs ≤ y.natAbs := by
  by_cases hy : 0 < y
  · have h1 := Int.fmod_nonneg_of_pos x hy
    have h2 := Int.fmod_lt_of_pos x hy
    generalize x.fmod y = u at *
    omega
  · have := fmod_lt_neg (a := x) (b := y) (by omega)
    generalize x.fmod y = u at *
    omega
theorem floor_q (p q : Int) (w : World) (h1 : p.natAbs ≤ 1000000000000000000) (hq : q ≠ 0) :
    Calls Tryd.prog 84 #[.int .i64 p, .int .i64 q] w fun e w' => e = .returned (.int .i64 (Int.fdiv p q)) ∧ ∃ k, w' = w.drewN k :=
  (floor_any p q w (by omega) hq).mono fun _ _ ⟨he, hw⟩ => ⟨he, 0, hw.symm⟩
set_option maxRecDepth 100000 in
set_option maxHeartbeats 1000000 in
theorem Mod_any (a p b q : Int) (w : World) :
    Calls Tryd.prog 62 #[.agg #[.int .i64 a, .int .i64 p], .agg #[.int .i64 b, .int .i64 q]] w fun e w' => e = .returned (.tuple #[.agg #[.int .i64 (mod a p b q).n, .int .i64 (mod a p b q).d], .int .i64 (mod a p b q).e]) ∧ Below w.heap.size w w' := by
  by_cases hk : chk a p b q = 0
  · have h12 : okB a p = true ∧ okB b q = true ∧ b ≠ 0 := by
      unfold chk at hk; cases h1 : okB a p <;> cases h2 : okB b q <;> simp [h1, h2] at hk ⊢
      intro hb; simp [hb] at hk
    obtain ⟨h1, h2, hz⟩ := h12
    have hP := pr_of h1 h2
    have HA : Hid (mod a p b q = fit (Int.fmod (a * q) (b * p)) (p * q)) := Lib.hid (by unfold mod; rw [h1, h2]; simp [hz])
    have q1 := hP.aq; have q2 := hP.bp; have q3 := hP.pq; have q5 := hP.pq1
    have hne : b * p ≠ 0 := ne_mul hz (okB_iff.1 h1).ne
    have hm := fmod_bd (a * q) hne
    have hmp := mod_pq (a * q) (b * p)
    have hml : ((b * p) * Int.fdiv (a * q) (b * p)).natAbs ≤ 2000000000000000000 := by
      generalize (b * p) * Int.fdiv (a * q) (b * p) = z at *
      generalize Int.fmod (a * q) (b * p) = u at *
      omega
    have e0 : IntKind.i64.wrap (a * q) = a * q := IntWalk.i64_in _ (by omega)
    have e1 : IntKind.i64.wrap (b * p) = b * p := IntWalk.i64_in _ (by omega)
    have e2 : IntKind.i64.wrap (p * q) = p * q := IntWalk.i64_in _ (by omega)
    have e3 : IntKind.i64.wrap ((b * p) * Int.fdiv (a * q) (b * p)) = (b * p) * Int.fdiv (a * q) (b * p) := IntWalk.i64_in _ (by
      generalize (b * p) * Int.fdiv (a * q) (b * p) = z at *
      omega)
    have e4 : IntKind.i64.wrap (a * q - (b * p) * Int.fdiv (a * q) (b * p)) = Int.fmod (a * q) (b * p) := by rw [hmp]; exact IntWalk.i64_in _ (by
      generalize Int.fmod (a * q) (b * p) = u at *
      omega)
    have hm2 : (Int.fmod (a * q) (b * p)).natAbs ≤ 4000000000000000000 := by omega
    have HN := Lib.hid hne
    have HM := Lib.hid hm2
    clear h1 h2 hz hP hne hm hmp hml hm2
    go_enter Tryd.func62, Tryd.ntmps62
    go_wp2_with fail
    refine (chk_any a p b q _).mono ?_
    rintro e w1 ⟨rfl, hb⟩
    obtain ⟨hc, hf⟩ := bcell hb
    obtain ⟨z0, z1, z2⟩ := size3 hb
    have HB := Lib.hid (below3 hb)
    go_wp2
    go_region
    go_wp2
    go_region_with (first | (go_at_call 84; refine (floor_any (a * q) (b * p) _ (by omega) HN.out).mono ?_; rintro e w' ⟨rfl, rfl⟩) | (go_at_call 52; refine (fit_any (Int.fmod (a * q) (b * p)) (p * q) _ HM.out (by omega) (by omega)).mono ?_; rintro e w3 ⟨rfl, hb3⟩; obtain ⟨hc3, hf3⟩ := bcellN (W := w1) (n := 2) hb3))
    all_goals
      have HB3 := Lib.hid ((below_drewN HB.out 2).trans (hb3.mono (below_drewN HB.out 2).size))
      go_wp2
      exact bodyPost_ret (v := .tuple #[.agg #[.int .i64 (fit (Int.fmod (a * q) (b * p)) (p * q)).n, .int .i64 (fit (Int.fmod (a * q) (b * p)) (p * q)).d], .int .i64 (fit (Int.fmod (a * q) (b * p)) (p * q)).e]) (by simp [results, Tryd.results62, go_sem, hc, hc3, z2]) rfl ⟨by rw [HA.out], two3 HB3.out _ _⟩
  · have HA : Hid (mod a p b q = ⟨0, 0, chk a p b q⟩) := Lib.hid (by
      unfold chk at hk; unfold mod chk; cases h1 : okB a p <;> cases h2 : okB b q <;> simp [h1, h2] at hk ⊢
      simp [hk])
    have hk1 : (chk a p b q != 0) = true := by rw [bne_iff_ne]; exact hk
    have HK := Lib.hid hk; clear hk
    go_enter Tryd.func62, Tryd.ntmps62
    go_wp2_with fail
    refine (chk_any a p b q _).mono ?_
    rintro e w1 ⟨rfl, hb⟩
    obtain ⟨hc, hf⟩ := bcell hb
    obtain ⟨z0, z1, z2⟩ := size3 hb
    have HB := Lib.hid (below3 hb)
    go_wp2
    exact bodyPost_ret (v := .tuple #[.agg #[.int .i64 0, .int .i64 0], .int .i64 (chk a p b q)]) (by simp [results, Tryd.results62, go_sem, hc]) rfl ⟨by rw [HA.out], two3 HB.out _ _⟩
end Go.Proofs.YtfocokjihbenmaaDoor.Nu
