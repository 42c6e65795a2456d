/-
  The contracts of Round of package number and of its reference.
-/
import Derived.Test.YtfocokjihbenmaaDoorNuMake
namespace Go.Proofs.YtfocokjihbenmaaDoor.Nu
open Go.RowKit

theorem two2 {w W : World} (h : Below w.heap.size w W) (u v : Value) : Below w.heap.size w ((W.setCell ⟨w.heap.size + 1, 0, none⟩ u).setCell ⟨w.heap.size + 1, 1, none⟩ v) :=
  (h.setCell (show w.heap.size ≤ w.heap.size + 1 by omega) _).setCell (show w.heap.size ≤ w.heap.size + 1 by omega) _
theorem bcellN {W w1 : World} {n : Nat} (hb : Below (W.drewN n).heap.size (W.drewN n) w1) : (∀ b o, b < W.heap.size → w1.cell? ⟨b, o, none⟩ = W.cell? ⟨b, o, none⟩) ∧ (∀ b o, b < W.heap.size → w1.frozen? ⟨b, o, none⟩ = W.frozen? ⟨b, o, none⟩) :=
  ⟨fun b o h => (hb.cell (p := ⟨b, o, none⟩) (by simpa using h)).trans (by simp), fun b o h => (hb.frozen (p := ⟨b, o, none⟩) (by simpa using h)).trans (by first | rfl | simp)⟩
theorem size_drewN {w w1 w2 : World} {n : Nat} (h : w.heap.size + 1 < w1.heap.size) (hb : Below (w1.drewN n).heap.size (w1.drewN n) w2) : w.heap.size + 1 < w2.heap.size := by
  have := hb.size; simp at this; omega
theorem size_q4 (n : Int) (w : World) (h : n.natAbs ≤ 1000000000) : Calls Tryd.prog 94 #[.int .i64 n] w fun e w' => e = .returned (.int .i64 (n.natAbs : Int)) ∧ ∃ k, w' = w.drewN k :=
  (size_any n w (by omega) (by omega)).mono fun _ _ ⟨he, hw⟩ => ⟨he, 0, hw.symm⟩
set_option maxRecDepth 100000 in
set_option maxHeartbeats 2000000 in
theorem Round_any (n d k : Int) (w : World) :
    Calls Tryd.prog 86 #[.agg #[.int .i64 n, .int .i64 d], .int .i64 k] w fun e w' => e = .returned (.tuple #[.agg #[.int .i64 (rnd n d k).n, .int .i64 (rnd n d k).d], .int .i64 (rnd n d k).e]) ∧ Below w.heap.size w w' := by
  cases h1 : okB n d
  · have HA : Hid (rnd n d k = ⟨0, 0, 7⟩) := Lib.hid (by unfold rnd; rw [h1]; rfl)
    have V1 := Lib.hid h1; clear h1
    go_enter Tryd.func86, Tryd.ntmps86
    go_wp2_with fail
    refine (Valid_no V1.out _).mono ?_
    rintro e w1 ⟨rfl, hb⟩
    obtain ⟨hc, hf⟩ := bcell hb
    have HB := Lib.hid (below2 hb)
    go_wp2
    exact bodyPost_ret (v := .tuple #[.agg #[.int .i64 0, .int .i64 0], .int .i64 7]) (by simp [results, Tryd.results86, go_sem, hc]) rfl ⟨by rw [HA.out], two2 HB.out _ _⟩
  · by_cases hk : 0 ≤ k ∧ k ≤ 9
    · obtain ⟨j, rfl⟩ : ∃ j : Nat, k = (j : Int) := ⟨k.toNat, by omega⟩
      have hj : j ≤ 9 := by omega
      obtain ⟨p1, p2⟩ := pw_bd hj
      have hO := okB_iff.1 h1
      have q1 := hO.n1; have q2 := hO.n2; have q3 := hO.d1; have q4 := hO.d2
      have hM := nat_mul (x := (n.natAbs : Int)) (y := pw j) (by omega) (by omega)
      have hM0 : 0 ≤ (n.natAbs : Int) * pw j := Int.mul_nonneg (by omega) (by omega)
      have hA : (2 * (n.natAbs : Int)) * pw j = 2 * ((n.natAbs : Int) * pw j) := Int.mul_assoc ..
      have u0 : 0 ≤ un n d j := Int.ediv_nonneg (by rw [hA]; omega) (by omega)
      have u1 : un n d j ≤ 3000000000000000000 := Int.le_trans (Int.ediv_le_self _ (by rw [hA]; omega)) (by rw [hA]; omega)
      have e0 : IntKind.i64.wrap (2 * (n.natAbs : Int)) = 2 * (n.natAbs : Int) := IntWalk.i64_in _ (by omega)
      have e1 : IntKind.i64.wrap (2 * (n.natAbs : Int) * pw j) = 2 * (n.natAbs : Int) * pw j := IntWalk.i64_in _ (by rw [hA]; omega)
      have e2 : IntKind.i64.wrap (2 * (n.natAbs : Int) * pw j + d) = 2 * (n.natAbs : Int) * pw j + d := IntWalk.i64_in _ (by rw [hA]; omega)
      have e3 : IntKind.i64.wrap (2 * d) = 2 * d := IntWalk.i64_in _ (by omega)
      have e4 : (2 * (n.natAbs : Int) * pw j + d).tdiv (2 * d) = un n d j := Int.tdiv_eq_ediv_of_nonneg (by rw [hA]; omega)
      have e5 : (2 * (n.natAbs : Int) * pw j + d) / (2 * d) = un n d j := rfl
      have e6 : IntKind.i64.wrap (un n d j) = un n d j := IntWalk.i64_in _ (by omega)
      have e7 : (2 * d == 0) = false := by rw [beq_eq_false_iff_ne]; omega
      have hX : 0 ≤ 2 * (n.natAbs : Int) * pw j + d := by rw [hA]; omega
      have HA : Hid (rnd n d (j : Int) = fit (ud n d j) (pw j)) := Lib.hid (by unfold rnd; rw [h1, if_pos rfl, if_pos ⟨by omega, by omega⟩]; rfl)
      have V1 := Lib.hid h1; clear h1 hO hA hM hM0
      have HE5 := Lib.hid e5; clear e5
      by_cases hn : n < 0
      · have HU : Hid (ud n d j = - un n d j) := Lib.hid (by unfold ud; rw [if_pos hn])
        have e8 : IntKind.i64.wrap (-(un n d j)) = ud n d j := by rw [IntWalk.i64_in _ (by omega), HU.out]
        have e9 : - un n d j = ud n d j := HU.out.symm
        have hub : (ud n d j).natAbs ≤ 4000000000000000000 := by rw [HU.out]; omega
        go_enter Tryd.func86, Tryd.ntmps86
        go_wp2_with fail
        refine (Valid_yes V1.out _).mono ?_
        rintro e w1 ⟨rfl, hb⟩
        obtain ⟨hc, hf⟩ := bcell hb
        obtain ⟨z0, z1⟩ := size2 hb
        have HB := Lib.hid (below2 hb)
        go_wp2_with fail
        refine (power_any j _ hj).mono ?_
        rintro e w2 ⟨rfl, rfl⟩
        go_wp2
        go_quiet ((go_at_call 94; exact (Calls.quiet_of (size_q4 n _ (by omega)))))
        go_wp2_with fail
        refine (fit_any (ud n d j) (pw j) _ hub (by omega) (by omega)).mono ?_
        rintro e w3 ⟨rfl, hb3⟩
        obtain ⟨hc3, hf3⟩ := bcellN hb3
        have k1 := size_drewN z1 hb3
        have HB3 := Lib.hid ((below_drewN HB.out _).trans (hb3.mono (below_drewN HB.out _).size))
        go_wp2
        exact bodyPost_ret (v := .tuple #[.agg #[.int .i64 (fit (ud n d j) (pw j)).n, .int .i64 (fit (ud n d j) (pw j)).d], .int .i64 (fit (ud n d j) (pw j)).e]) (by simp [results, Tryd.results86, go_sem, hc, hc3, z1]) rfl ⟨by rw [HA.out], two2 HB3.out _ _⟩
      · have HU : Hid (ud n d j = un n d j) := Lib.hid (by unfold ud; rw [if_neg hn])
        have hd0 : decide (n < 0) = false := by simpa using hn
        have hub : (ud n d j).natAbs ≤ 4000000000000000000 := by rw [HU.out]; omega
        have e9 : un n d j = ud n d j := HU.out.symm
        rw [e9] at e4 e6
        clear e9
        go_enter Tryd.func86, Tryd.ntmps86
        go_wp2_with fail
        refine (Valid_yes V1.out _).mono ?_
        rintro e w1 ⟨rfl, hb⟩
        obtain ⟨hc, hf⟩ := bcell hb
        obtain ⟨z0, z1⟩ := size2 hb
        have HB := Lib.hid (below2 hb)
        go_wp2_with fail
        refine (power_any j _ hj).mono ?_
        rintro e w2 ⟨rfl, rfl⟩
        go_wp2
        go_quiet ((go_at_call 94; exact (Calls.quiet_of (size_q4 n _ (by omega)))))
        go_wp2_with fail
        refine (fit_any (ud n d j) (pw j) _ hub (by omega) (by omega)).mono ?_
        rintro e w3 ⟨rfl, hb3⟩
        obtain ⟨hc3, hf3⟩ := bcellN hb3
        have k1 := size_drewN z1 hb3
        have HB3 := Lib.hid ((below_drewN HB.out _).trans (hb3.mono (below_drewN HB.out _).size))
        go_wp2
        exact bodyPost_ret (v := .tuple #[.agg #[.int .i64 (fit (ud n d j) (pw j)).n, .int .i64 (fit (ud n d j) (pw j)).d], .int .i64 (fit (ud n d j) (pw j)).e]) (by simp [results, Tryd.results86, go_sem, hc, hc3, z1]) rfl ⟨by rw [HA.out], two2 HB3.out _ _⟩
    · have HA : Hid (rnd n d k = ⟨0, 0, 2⟩) := Lib.hid (by unfold rnd; rw [h1, if_pos rfl, if_neg hk])
      have V1 := Lib.hid h1; clear h1
      by_cases hk0 : k < 0
      · clear hk
        go_enter Tryd.func86, Tryd.ntmps86
        go_wp2_with fail
        refine (Valid_yes V1.out _).mono ?_
        rintro e w1 ⟨rfl, hb⟩
        obtain ⟨hc, hf⟩ := bcell hb
        have HB := Lib.hid (below2 hb)
        go_wp2
        exact bodyPost_ret (v := .tuple #[.agg #[.int .i64 0, .int .i64 0], .int .i64 2]) (by simp [results, Tryd.results86, go_sem, hc]) rfl ⟨by rw [HA.out], two2 HB.out _ _⟩
      · have hk9 : 9 < k := by omega
        have hd0 : decide (k < 0) = false := by simpa using hk0
        clear hk
        go_enter Tryd.func86, Tryd.ntmps86
        go_wp2_with fail
        refine (Valid_yes V1.out _).mono ?_
        rintro e w1 ⟨rfl, hb⟩
        obtain ⟨hc, hf⟩ := bcell hb
        have HB := Lib.hid (below2 hb)
        go_wp2
        exact bodyPost_ret (v := .tuple #[.agg #[.int .i64 0, .int .i64 0], .int .i64 2]) (by simp [results, Tryd.results86, go_sem, hc]) rfl ⟨by rw [HA.out], two2 HB.out _ _⟩

end Go.Proofs.YtfocokjihbenmaaDoor.Nu
