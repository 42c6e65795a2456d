/-
  The contracts of Round of package number and of its reference.
  The contracts of Mod of package number.
  The contracts of Div and Mod of the reference of chapter 6.
  The contracts of the reference's Decimal and of strconv.Itoa.
-/
import Derived.Test.YtfocokjihbenmaaGreatDoorNuAd
import Derived.Deep.RegionWith
import Derived.Test.YtfocokjihbenmaaGreatDoorShelf
import Derived.Lib.AppendIntMem
import Derived.Laws.BytesString
namespace Go.Proofs.YtfocokjihbenmaaGreatDoor.Nu
open Go.RowKit

theorem two2 {w W : World} (h : Below w.heap.size w W) (u v : Value) : Below w.heap.size w ((W.setCell ⟨w.heap.size + 1, 0, none⟩ u).setCell ⟨w.heap.size + 1, 1, none⟩ v) :=
  (h.setCell (show w.heap.size ≤ w.heap.size + 1 by omega) _).setCell (show w.heap.size ≤ w.heap.size + 1 by omega) _
theorem bcellN {W w1 : World} {n : Nat} (hb : Below (W.drewN n).heap.size (W.drewN n) w1) : (∀ b o, b < W.heap.size → w1.cell? ⟨b, o, none⟩ = W.cell? ⟨b, o, none⟩) ∧ (∀ b o, b < W.heap.size → w1.frozen? ⟨b, o, none⟩ = W.frozen? ⟨b, o, none⟩) :=
  ⟨fun b o h => (hb.cell (p := ⟨b, o, none⟩) (by simpa using h)).trans (by simp), fun b o h => (hb.frozen (p := ⟨b, o, none⟩) (by simpa using h)).trans (by first | rfl | simp)⟩
theorem size_drewN {w w1 w2 : World} {n : Nat} (h : w.heap.size + 1 < w1.heap.size) (hb : Below (w1.drewN n).heap.size (w1.drewN n) w2) : w.heap.size + 1 < w2.heap.size := by
  have := hb.size; simp at this; omega
theorem size_q4 (n : Int) (w : World) (h : n.natAbs ≤ 1000000000) : Calls Tryz.prog 115 #[.int .i64 n] w fun e w' => e = .returned (.int .i64 (n.natAbs : Int)) ∧ ∃ k, w' = w.drewN k :=
  (size_any n w (by omega) (by omega)).mono fun _ _ ⟨he, hw⟩ => ⟨he, 0, hw.symm⟩
theorem abs_q4 (n : Int) (w : World) (h : n.natAbs ≤ 1000000000) : Calls Tryz.prog 43 #[.int .i64 n] w fun e w' => e = .returned (.int .i64 (n.natAbs : Int)) ∧ ∃ k, w' = w.drewN k :=
  (abs_any n w (by omega) (by omega)).mono fun _ _ ⟨he, hw⟩ => ⟨he, 0, hw.symm⟩

set_option maxRecDepth 100000 in
set_option maxHeartbeats 2000000 in
theorem Round_any (n d k : Int) (w : World) :
    Calls Tryz.prog 103 #[.agg #[.int .i64 n, .int .i64 d], .int .i64 k] w fun e w' => e = .returned (.tuple #[.agg #[.int .i64 (rnd n d k).n, .int .i64 (rnd n d k).d], .int .i64 (rnd n d k).e]) ∧ Below w.heap.size w w' := by
  cases h1 : okB n d
  · have HA : Hid (rnd n d k = ⟨0, 0, 7⟩) := Lib.hid (by unfold rnd; rw [h1]; rfl)
    have V1 := Lib.hid h1; clear h1
    go_enter Tryz.func103, Tryz.ntmps103
    go_wp2_with fail
    refine (Valid_no V1.out _).mono ?_
    rintro e w1 ⟨rfl, hb⟩
    obtain ⟨hc, hf⟩ := bcell hb
    have HB := Lib.hid (below2 hb)
    go_wp2
    exact bodyPost_ret (v := .tuple #[.agg #[.int .i64 0, .int .i64 0], .int .i64 7]) (by simp [results, Tryz.results103, go_sem, hc]) rfl ⟨by rw [HA.out], two2 HB.out _ _⟩
  · by_cases hk : 0 ≤ k ∧ k ≤ 9
    · obtain ⟨j, rfl⟩ : ∃ j : Nat, k = (j : Int) := ⟨k.toNat, by omega⟩
      have hj : j ≤ 9 := by omega
      obtain ⟨p1, p2⟩ := pw_bd hj
      have hO := okB_iff.1 h1
      have q1 := hO.n1; have q2 := hO.n2; have q3 := hO.d1; have q4 := hO.d2
      have hM := nat_mul (x := (n.natAbs : Int)) (y := pw j) (by omega) (by omega)
      have hM0 : 0 ≤ (n.natAbs : Int) * pw j := Int.mul_nonneg (by omega) (by omega)
      have hA : (2 * (n.natAbs : Int)) * pw j = 2 * ((n.natAbs : Int) * pw j) := Int.mul_assoc ..
      have u0 : 0 ≤ un n d j := Int.ediv_nonneg (by rw [hA]; omega) (by omega)
      have u1 : un n d j ≤ 3000000000000000000 := Int.le_trans (Int.ediv_le_self _ (by rw [hA]; omega)) (by rw [hA]; omega)
      have e0 : IntKind.i64.wrap (2 * (n.natAbs : Int)) = 2 * (n.natAbs : Int) := IntWalk.i64_in _ (by omega)
      have e1 : IntKind.i64.wrap (2 * (n.natAbs : Int) * pw j) = 2 * (n.natAbs : Int) * pw j := IntWalk.i64_in _ (by rw [hA]; omega)
      have e2 : IntKind.i64.wrap (2 * (n.natAbs : Int) * pw j + d) = 2 * (n.natAbs : Int) * pw j + d := IntWalk.i64_in _ (by rw [hA]; omega)
      have e3 : IntKind.i64.wrap (2 * d) = 2 * d := IntWalk.i64_in _ (by omega)
      have e4 : (2 * (n.natAbs : Int) * pw j + d).tdiv (2 * d) = un n d j := Int.tdiv_eq_ediv_of_nonneg (by rw [hA]; omega)
      have e5 : (2 * (n.natAbs : Int) * pw j + d) / (2 * d) = un n d j := rfl
      have e6 : IntKind.i64.wrap (un n d j) = un n d j := IntWalk.i64_in _ (by omega)
      have e7 : (2 * d == 0) = false := by rw [beq_eq_false_iff_ne]; omega
      have hX : 0 ≤ 2 * (n.natAbs : Int) * pw j + d := by rw [hA]; omega
      have HA : Hid (rnd n d (j : Int) = fit (ud n d j) (pw j)) := Lib.hid (by unfold rnd; rw [h1, if_pos rfl, if_pos ⟨by omega, by omega⟩]; rfl)
      have V1 := Lib.hid h1; clear h1 hO hA hM hM0
      have HE5 := Lib.hid e5; clear e5
      by_cases hn : n < 0
      · have HU : Hid (ud n d j = - un n d j) := Lib.hid (by unfold ud; rw [if_pos hn])
        have e8 : IntKind.i64.wrap (-(un n d j)) = ud n d j := by rw [IntWalk.i64_in _ (by omega), HU.out]
        have e9 : - un n d j = ud n d j := HU.out.symm
        have hub : (ud n d j).natAbs ≤ 4000000000000000000 := by rw [HU.out]; omega
        go_enter Tryz.func103, Tryz.ntmps103
        go_wp2_with fail
        refine (Valid_yes V1.out _).mono ?_
        rintro e w1 ⟨rfl, hb⟩
        obtain ⟨hc, hf⟩ := bcell hb
        obtain ⟨z0, z1⟩ := size2 hb
        have HB := Lib.hid (below2 hb)
        go_wp2_with fail
        refine (power_any j _ hj).mono ?_
        rintro e w2 ⟨rfl, rfl⟩
        go_wp2
        go_quiet ((go_at_call 115; exact (Calls.quiet_of (size_q4 n _ (by omega)))))
        go_wp2_with fail
        refine (fit_any (ud n d j) (pw j) _ hub (by omega) (by omega)).mono ?_
        rintro e w3 ⟨rfl, hb3⟩
        obtain ⟨hc3, hf3⟩ := bcellN hb3
        have k1 := size_drewN z1 hb3
        have HB3 := Lib.hid ((below_drewN HB.out _).trans (hb3.mono (below_drewN HB.out _).size))
        go_wp2
        exact bodyPost_ret (v := .tuple #[.agg #[.int .i64 (fit (ud n d j) (pw j)).n, .int .i64 (fit (ud n d j) (pw j)).d], .int .i64 (fit (ud n d j) (pw j)).e]) (by simp [results, Tryz.results103, go_sem, hc, hc3, z1]) rfl ⟨by rw [HA.out], two2 HB3.out _ _⟩
      · have HU : Hid (ud n d j = un n d j) := Lib.hid (by unfold ud; rw [if_neg hn])
        have hd0 : decide (n < 0) = false := by simpa using hn
        have hub : (ud n d j).natAbs ≤ 4000000000000000000 := by rw [HU.out]; omega
        have e9 : un n d j = ud n d j := HU.out.symm
        rw [e9] at e4 e6
        clear e9
        go_enter Tryz.func103, Tryz.ntmps103
        go_wp2_with fail
        refine (Valid_yes V1.out _).mono ?_
        rintro e w1 ⟨rfl, hb⟩
        obtain ⟨hc, hf⟩ := bcell hb
        obtain ⟨z0, z1⟩ := size2 hb
        have HB := Lib.hid (below2 hb)
        go_wp2_with fail
        refine (power_any j _ hj).mono ?_
        rintro e w2 ⟨rfl, rfl⟩
        go_wp2
        go_quiet ((go_at_call 115; exact (Calls.quiet_of (size_q4 n _ (by omega)))))
        go_wp2_with fail
        refine (fit_any (ud n d j) (pw j) _ hub (by omega) (by omega)).mono ?_
        rintro e w3 ⟨rfl, hb3⟩
        obtain ⟨hc3, hf3⟩ := bcellN hb3
        have k1 := size_drewN z1 hb3
        have HB3 := Lib.hid ((below_drewN HB.out _).trans (hb3.mono (below_drewN HB.out _).size))
        go_wp2
        exact bodyPost_ret (v := .tuple #[.agg #[.int .i64 (fit (ud n d j) (pw j)).n, .int .i64 (fit (ud n d j) (pw j)).d], .int .i64 (fit (ud n d j) (pw j)).e]) (by simp [results, Tryz.results103, go_sem, hc, hc3, z1]) rfl ⟨by rw [HA.out], two2 HB3.out _ _⟩
    · have HA : Hid (rnd n d k = ⟨0, 0, 2⟩) := Lib.hid (by unfold rnd; rw [h1, if_pos rfl, if_neg hk])
      have V1 := Lib.hid h1; clear h1
      by_cases hk0 : k < 0
      · clear hk
        go_enter Tryz.func103, Tryz.ntmps103
        go_wp2_with fail
        refine (Valid_yes V1.out _).mono ?_
        rintro e w1 ⟨rfl, hb⟩
        obtain ⟨hc, hf⟩ := bcell hb
        have HB := Lib.hid (below2 hb)
        go_wp2
        exact bodyPost_ret (v := .tuple #[.agg #[.int .i64 0, .int .i64 0], .int .i64 2]) (by simp [results, Tryz.results103, go_sem, hc]) rfl ⟨by rw [HA.out], two2 HB.out _ _⟩
      · have hk9 : 9 < k := by omega
        have hd0 : decide (k < 0) = false := by simpa using hk0
        clear hk
        go_enter Tryz.func103, Tryz.ntmps103
        go_wp2_with fail
        refine (Valid_yes V1.out _).mono ?_
        rintro e w1 ⟨rfl, hb⟩
        obtain ⟨hc, hf⟩ := bcell hb
        have HB := Lib.hid (below2 hb)
        go_wp2
        exact bodyPost_ret (v := .tuple #[.agg #[.int .i64 0, .int .i64 0], .int .i64 2]) (by simp [results, Tryz.results103, go_sem, hc]) rfl ⟨by rw [HA.out], two2 HB.out _ _⟩

set_option maxRecDepth 100000 in
set_option maxHeartbeats 2000000 in
theorem RRound_any (n d k : Int) (w : World) :
    Calls Tryz.prog 83 #[.agg #[.int .i64 n, .int .i64 d], .int .i64 k] w fun e w' => e = .returned (.tuple #[.agg #[.int .i64 (rnd n d k).n, .int .i64 (rnd n d k).d], .int .i64 (rnd n d k).e]) ∧ Below w.heap.size w w' := by
  cases h1 : okB n d
  · have HA : Hid (rnd n d k = ⟨0, 0, 7⟩) := Lib.hid (by unfold rnd; rw [h1]; rfl)
    have V1 := Lib.hid h1; clear h1
    go_enter Tryz.func83, Tryz.ntmps83
    go_wp2_with fail
    refine (RValid_no V1.out _).mono ?_
    rintro e w1 ⟨rfl, hb⟩
    obtain ⟨hc, hf⟩ := bcell hb
    have HB := Lib.hid (below2 hb)
    go_wp2
    exact bodyPost_ret (v := .tuple #[.agg #[.int .i64 0, .int .i64 0], .int .i64 7]) (by simp [results, Tryz.results83, go_sem, hc]) rfl ⟨by rw [HA.out], two2 HB.out _ _⟩
  · by_cases hk : 0 ≤ k ∧ k ≤ 9
    · obtain ⟨j, rfl⟩ : ∃ j : Nat, k = (j : Int) := ⟨k.toNat, by omega⟩
      have hj : j ≤ 9 := by omega
      obtain ⟨p1, p2⟩ := pw_bd hj
      have hO := okB_iff.1 h1
      have q1 := hO.n1; have q2 := hO.n2; have q3 := hO.d1; have q4 := hO.d2
      have hM := nat_mul (x := (n.natAbs : Int)) (y := pw j) (by omega) (by omega)
      have hM0 : 0 ≤ (n.natAbs : Int) * pw j := Int.mul_nonneg (by omega) (by omega)
      have hA : (2 * (n.natAbs : Int)) * pw j = 2 * ((n.natAbs : Int) * pw j) := Int.mul_assoc ..
      have u0 : 0 ≤ un n d j := Int.ediv_nonneg (by rw [hA]; omega) (by omega)
      have u1 : un n d j ≤ 3000000000000000000 := Int.le_trans (Int.ediv_le_self _ (by rw [hA]; omega)) (by rw [hA]; omega)
      have e0 : IntKind.i64.wrap (2 * (n.natAbs : Int)) = 2 * (n.natAbs : Int) := IntWalk.i64_in _ (by omega)
      have e1 : IntKind.i64.wrap (2 * (n.natAbs : Int) * pw j) = 2 * (n.natAbs : Int) * pw j := IntWalk.i64_in _ (by rw [hA]; omega)
      have e2 : IntKind.i64.wrap (2 * (n.natAbs : Int) * pw j + d) = 2 * (n.natAbs : Int) * pw j + d := IntWalk.i64_in _ (by rw [hA]; omega)
      have e3 : IntKind.i64.wrap (2 * d) = 2 * d := IntWalk.i64_in _ (by omega)
      have e4 : (2 * (n.natAbs : Int) * pw j + d).tdiv (2 * d) = un n d j := Int.tdiv_eq_ediv_of_nonneg (by rw [hA]; omega)
      have e5 : (2 * (n.natAbs : Int) * pw j + d) / (2 * d) = un n d j := rfl
      have e6 : IntKind.i64.wrap (un n d j) = un n d j := IntWalk.i64_in _ (by omega)
      have e7 : (2 * d == 0) = false := by rw [beq_eq_false_iff_ne]; omega
      have hX : 0 ≤ 2 * (n.natAbs : Int) * pw j + d := by rw [hA]; omega
      have HA : Hid (rnd n d (j : Int) = fit (ud n d j) (pw j)) := Lib.hid (by unfold rnd; rw [h1, if_pos rfl, if_pos ⟨by omega, by omega⟩]; rfl)
      have V1 := Lib.hid h1; clear h1 hO hA hM hM0
      have HE5 := Lib.hid e5; clear e5
      by_cases hn : n < 0
      · have HU : Hid (ud n d j = - un n d j) := Lib.hid (by unfold ud; rw [if_pos hn])
        have e8 : IntKind.i64.wrap (-(un n d j)) = ud n d j := by rw [IntWalk.i64_in _ (by omega), HU.out]
        have e9 : - un n d j = ud n d j := HU.out.symm
        have hub : (ud n d j).natAbs ≤ 4000000000000000000 := by rw [HU.out]; omega
        go_enter Tryz.func83, Tryz.ntmps83
        go_wp2_with fail
        refine (RValid_yes V1.out _).mono ?_
        rintro e w1 ⟨rfl, hb⟩
        obtain ⟨hc, hf⟩ := bcell hb
        obtain ⟨z0, z1⟩ := size2 hb
        have HB := Lib.hid (below2 hb)
        go_wp2_with fail
        refine (Power_any j _ hj).mono ?_
        rintro e w2 ⟨rfl, rfl⟩
        go_wp2
        go_quiet ((go_at_call 43; exact (Calls.quiet_of (abs_q4 n _ (by omega)))))
        go_wp2_with fail
        refine (form_any (ud n d j) (pw j) _ hub (by omega) (by omega)).mono ?_
        rintro e w3 ⟨rfl, hb3⟩
        obtain ⟨hc3, hf3⟩ := bcellN hb3
        have k1 := size_drewN z1 hb3
        have HB3 := Lib.hid ((below_drewN HB.out _).trans (hb3.mono (below_drewN HB.out _).size))
        go_wp2
        exact bodyPost_ret (v := .tuple #[.agg #[.int .i64 (fit (ud n d j) (pw j)).n, .int .i64 (fit (ud n d j) (pw j)).d], .int .i64 (fit (ud n d j) (pw j)).e]) (by simp [results, Tryz.results83, go_sem, hc, hc3, z1]) rfl ⟨by rw [HA.out], two2 HB3.out _ _⟩
      · have HU : Hid (ud n d j = un n d j) := Lib.hid (by unfold ud; rw [if_neg hn])
        have hd0 : decide (n < 0) = false := by simpa using hn
        have hub : (ud n d j).natAbs ≤ 4000000000000000000 := by rw [HU.out]; omega
        have e9 : un n d j = ud n d j := HU.out.symm
        rw [e9] at e4 e6
        clear e9
        go_enter Tryz.func83, Tryz.ntmps83
        go_wp2_with fail
        refine (RValid_yes V1.out _).mono ?_
        rintro e w1 ⟨rfl, hb⟩
        obtain ⟨hc, hf⟩ := bcell hb
        obtain ⟨z0, z1⟩ := size2 hb
        have HB := Lib.hid (below2 hb)
        go_wp2_with fail
        refine (Power_any j _ hj).mono ?_
        rintro e w2 ⟨rfl, rfl⟩
        go_wp2
        go_quiet ((go_at_call 43; exact (Calls.quiet_of (abs_q4 n _ (by omega)))))
        go_wp2_with fail
        refine (form_any (ud n d j) (pw j) _ hub (by omega) (by omega)).mono ?_
        rintro e w3 ⟨rfl, hb3⟩
        obtain ⟨hc3, hf3⟩ := bcellN hb3
        have k1 := size_drewN z1 hb3
        have HB3 := Lib.hid ((below_drewN HB.out _).trans (hb3.mono (below_drewN HB.out _).size))
        go_wp2
        exact bodyPost_ret (v := .tuple #[.agg #[.int .i64 (fit (ud n d j) (pw j)).n, .int .i64 (fit (ud n d j) (pw j)).d], .int .i64 (fit (ud n d j) (pw j)).e]) (by simp [results, Tryz.results83, go_sem, hc, hc3, z1]) rfl ⟨by rw [HA.out], two2 HB3.out _ _⟩
    · have HA : Hid (rnd n d k = ⟨0, 0, 2⟩) := Lib.hid (by unfold rnd; rw [h1, if_pos rfl, if_neg hk])
      have V1 := Lib.hid h1; clear h1
      by_cases hk0 : k < 0
      · clear hk
        go_enter Tryz.func83, Tryz.ntmps83
        go_wp2_with fail
        refine (RValid_yes V1.out _).mono ?_
        rintro e w1 ⟨rfl, hb⟩
        obtain ⟨hc, hf⟩ := bcell hb
        have HB := Lib.hid (below2 hb)
        go_wp2
        exact bodyPost_ret (v := .tuple #[.agg #[.int .i64 0, .int .i64 0], .int .i64 2]) (by simp [results, Tryz.results83, go_sem, hc]) rfl ⟨by rw [HA.out], two2 HB.out _ _⟩
      · have hk9 : 9 < k := by omega
        have hd0 : decide (k < 0) = false := by simpa using hk0
        clear hk
        go_enter Tryz.func83, Tryz.ntmps83
        go_wp2_with fail
        refine (RValid_yes V1.out _).mono ?_
        rintro e w1 ⟨rfl, hb⟩
        obtain ⟨hc, hf⟩ := bcell hb
        have HB := Lib.hid (below2 hb)
        go_wp2
        exact bodyPost_ret (v := .tuple #[.agg #[.int .i64 0, .int .i64 0], .int .i64 2]) (by simp [results, Tryz.results83, go_sem, hc]) rfl ⟨by rw [HA.out], two2 HB.out _ _⟩
end Go.Proofs.YtfocokjihbenmaaGreatDoor.Nu

namespace Go.Proofs.YtfocokjihbenmaaGreatDoor.Nu
open Go.RowKit

theorem mod_pq (x y : Int) : x - y * Int.fdiv x y = Int.fmod x y := by
  have := Int.fmod_add_mul_fdiv x y
  generalize y * x.fdiv y = z at *
  generalize x.fmod y = u at *
  omega
theorem fmod_bd (x : Int) {y : Int} (h : y ≠ 0) : (Int.fmod x y).natAbs ≤ y.natAbs := by
  by_cases hy : 0 < y
  · have h1 := Int.fmod_nonneg_of_pos x hy
    have h2 := Int.fmod_lt_of_pos x hy
    generalize x.fmod y = u at *
    omega
  · have := fmod_lt_neg (a := x) (b := y) (by omega)
    generalize x.fmod y = u at *
    omega
theorem floor_q (p q : Int) (w : World) (h1 : p.natAbs ≤ 1000000000000000000) (hq : q ≠ 0) :
    Calls Tryz.prog 101 #[.int .i64 p, .int .i64 q] w fun e w' => e = .returned (.int .i64 (Int.fdiv p q)) ∧ ∃ k, w' = w.drewN k :=
  (floor_any p q w (by omega) hq).mono fun _ _ ⟨he, hw⟩ => ⟨he, 0, hw.symm⟩
set_option maxRecDepth 100000 in
set_option maxHeartbeats 1000000 in
theorem Mod_any (a p b q : Int) (w : World) :
    Calls Tryz.prog 69 #[.agg #[.int .i64 a, .int .i64 p], .agg #[.int .i64 b, .int .i64 q]] w fun e w' => e = .returned (.tuple #[.agg #[.int .i64 (mod a p b q).n, .int .i64 (mod a p b q).d], .int .i64 (mod a p b q).e]) ∧ Below w.heap.size w w' := by
  by_cases hk : chk a p b q = 0
  · have h12 : okB a p = true ∧ okB b q = true ∧ b ≠ 0 := by
      unfold chk at hk; cases h1 : okB a p <;> cases h2 : okB b q <;> simp [h1, h2] at hk ⊢
      intro hb; simp [hb] at hk
    obtain ⟨h1, h2, hz⟩ := h12
    have hP := pr_of h1 h2
    have HA : Hid (mod a p b q = fit (Int.fmod (a * q) (b * p)) (p * q)) := Lib.hid (by unfold mod; rw [h1, h2]; simp [hz])
    have q1 := hP.aq; have q2 := hP.bp; have q3 := hP.pq; have q5 := hP.pq1
    have hne : b * p ≠ 0 := ne_mul hz (okB_iff.1 h1).ne
    have hm := fmod_bd (a * q) hne
    have hmp := mod_pq (a * q) (b * p)
    have hml : ((b * p) * Int.fdiv (a * q) (b * p)).natAbs ≤ 2000000000000000000 := by
      generalize (b * p) * Int.fdiv (a * q) (b * p) = z at *
      generalize Int.fmod (a * q) (b * p) = u at *
      omega
    have e0 : IntKind.i64.wrap (a * q) = a * q := IntWalk.i64_in _ (by omega)
    have e1 : IntKind.i64.wrap (b * p) = b * p := IntWalk.i64_in _ (by omega)
    have e2 : IntKind.i64.wrap (p * q) = p * q := IntWalk.i64_in _ (by omega)
    have e3 : IntKind.i64.wrap ((b * p) * Int.fdiv (a * q) (b * p)) = (b * p) * Int.fdiv (a * q) (b * p) := IntWalk.i64_in _ (by
      generalize (b * p) * Int.fdiv (a * q) (b * p) = z at *
      omega)
    have e4 : IntKind.i64.wrap (a * q - (b * p) * Int.fdiv (a * q) (b * p)) = Int.fmod (a * q) (b * p) := by rw [hmp]; exact IntWalk.i64_in _ (by
      generalize Int.fmod (a * q) (b * p) = u at *
      omega)
    have hm2 : (Int.fmod (a * q) (b * p)).natAbs ≤ 4000000000000000000 := by omega
    have HN := Lib.hid hne
    have HM := Lib.hid hm2
    clear h1 h2 hz hP hne hm hmp hml hm2
    go_enter Tryz.func69, Tryz.ntmps69
    go_wp2_with fail
    refine (chk_any a p b q _).mono ?_
    rintro e w1 ⟨rfl, hb⟩
    obtain ⟨hc, hf⟩ := bcell hb
    obtain ⟨z0, z1, z2⟩ := size3 hb
    have HB := Lib.hid (below3 hb)
    go_wp2
    go_region
    go_wp2
    go_region_with (first | (go_at_call 101; refine (floor_any (a * q) (b * p) _ (by omega) HN.out).mono ?_; rintro e w' ⟨rfl, rfl⟩) | (go_at_call 59; refine (fit_any (Int.fmod (a * q) (b * p)) (p * q) _ HM.out (by omega) (by omega)).mono ?_; rintro e w3 ⟨rfl, hb3⟩; obtain ⟨hc3, hf3⟩ := bcellN (W := w1) (n := 2) hb3))
    all_goals
      have HB3 := Lib.hid ((below_drewN HB.out 2).trans (hb3.mono (below_drewN HB.out 2).size))
      go_wp2
      exact bodyPost_ret (v := .tuple #[.agg #[.int .i64 (fit (Int.fmod (a * q) (b * p)) (p * q)).n, .int .i64 (fit (Int.fmod (a * q) (b * p)) (p * q)).d], .int .i64 (fit (Int.fmod (a * q) (b * p)) (p * q)).e]) (by simp [results, Tryz.results69, go_sem, hc, hc3, z2]) rfl ⟨by rw [HA.out], two3 HB3.out _ _⟩
  · have HA : Hid (mod a p b q = ⟨0, 0, chk a p b q⟩) := Lib.hid (by
      unfold chk at hk; unfold mod chk; cases h1 : okB a p <;> cases h2 : okB b q <;> simp [h1, h2] at hk ⊢
      simp [hk])
    have hk1 : (chk a p b q != 0) = true := by rw [bne_iff_ne]; exact hk
    have HK := Lib.hid hk; clear hk
    go_enter Tryz.func69, Tryz.ntmps69
    go_wp2_with fail
    refine (chk_any a p b q _).mono ?_
    rintro e w1 ⟨rfl, hb⟩
    obtain ⟨hc, hf⟩ := bcell hb
    obtain ⟨z0, z1, z2⟩ := size3 hb
    have HB := Lib.hid (below3 hb)
    go_wp2
    exact bodyPost_ret (v := .tuple #[.agg #[.int .i64 0, .int .i64 0], .int .i64 (chk a p b q)]) (by simp [results, Tryz.results69, go_sem, hc]) rfl ⟨by rw [HA.out], two3 HB.out _ _⟩
end Go.Proofs.YtfocokjihbenmaaGreatDoor.Nu


namespace Go.Proofs.YtfocokjihbenmaaGreatDoor.Nu
open Go.RowKit

theorem cell_new (W : World) (c : Array Value) (t : TypeId) (i : Nat) (v : Value) (hv : c[i]? = some v) : (W.alloc (.cells c t)).cell? ⟨W.heap.size, i, none⟩ = some v := by simp [hv]
theorem set3a (w W : World) (i : Nat) (u v : Value) : ((W.setCell ⟨w.heap.size + 1 + 1, 0, none⟩ u).setCell ⟨w.heap.size + 1 + 1, 1, none⟩ v).cell? ⟨w.heap.size, i, none⟩ = W.cell? ⟨w.heap.size, i, none⟩ :=
  (((Below.refl (w.heap.size + 1 + 1) W).setCell (p := ⟨w.heap.size + 1 + 1, 0, none⟩) (Nat.le_refl _) u).setCell (p := ⟨w.heap.size + 1 + 1, 1, none⟩) (Nat.le_refl _) v).cell (p := ⟨w.heap.size, i, none⟩) (show w.heap.size < w.heap.size + 1 + 1 by omega)
theorem set3b (w W : World) (i : Nat) (u v : Value) : ((W.setCell ⟨w.heap.size + 1 + 1, 0, none⟩ u).setCell ⟨w.heap.size + 1 + 1, 1, none⟩ v).cell? ⟨w.heap.size + 1, i, none⟩ = W.cell? ⟨w.heap.size + 1, i, none⟩ :=
  (((Below.refl (w.heap.size + 1 + 1) W).setCell (p := ⟨w.heap.size + 1 + 1, 0, none⟩) (Nat.le_refl _) u).setCell (p := ⟨w.heap.size + 1 + 1, 1, none⟩) (Nat.le_refl _) v).cell (p := ⟨w.heap.size + 1, i, none⟩) (show w.heap.size + 1 < w.heap.size + 1 + 1 by omega)
theorem held3 {w w1 w2 : World} {A B : Array Value} {s t : TypeId} {R : Obj} (hb : Below (((w.alloc (.cells A s)).alloc (.cells B t)).alloc R).heap.size (((w.alloc (.cells A s)).alloc (.cells B t)).alloc R) w1) (hb2 : Below w1.heap.size w1 w2) :
    (∀ (i : Nat) (v : Value), A[i]? = some v → w2.cell? ⟨w.heap.size, i, none⟩ = some v) ∧ (∀ (i : Nat) (v : Value), B[i]? = some v → w2.cell? ⟨w.heap.size + 1, i, none⟩ = some v) := by
  obtain ⟨z0, z1, z2⟩ := size3 hb
  have sA : ((w.alloc (.cells A s)).heap.size) = w.heap.size + 1 := by simp
  have sB : (((w.alloc (.cells A s)).alloc (.cells B t)).heap.size) = w.heap.size + 1 + 1 := by simp
  have sR : ((((w.alloc (.cells A s)).alloc (.cells B t)).alloc R).heap.size) = w.heap.size + 1 + 1 + 1 := by simp
  refine ⟨fun i v h => ?_, fun i v h => ?_⟩
  · have h0 := cell_new w A s i v h
    have h1 := (((Below.refl (w.alloc (.cells A s)).heap.size (w.alloc (.cells A s))).alloc (Nat.le_refl _) (.cells B t)).cell (p := ⟨w.heap.size, i, none⟩) (show w.heap.size < _ by omega)).trans h0
    have h2 := (((Below.refl ((w.alloc (.cells A s)).alloc (.cells B t)).heap.size ((w.alloc (.cells A s)).alloc (.cells B t))).alloc (Nat.le_refl _) R).cell (p := ⟨w.heap.size, i, none⟩) (show w.heap.size < _ by omega)).trans h1
    exact (hb2.cell (p := ⟨w.heap.size, i, none⟩) z0).trans ((hb.cell (p := ⟨w.heap.size, i, none⟩) (show w.heap.size < _ by omega)).trans h2)
  · have h1 := cell_new (w.alloc (.cells A s)) B t i v h
    rw [sA] at h1
    have h2 := (((Below.refl ((w.alloc (.cells A s)).alloc (.cells B t)).heap.size ((w.alloc (.cells A s)).alloc (.cells B t))).alloc (Nat.le_refl _) R).cell (p := ⟨w.heap.size + 1, i, none⟩) (show w.heap.size + 1 < _ by omega)).trans h1
    exact (hb2.cell (p := ⟨w.heap.size + 1, i, none⟩) z1).trans ((hb.cell (p := ⟨w.heap.size + 1, i, none⟩) (show w.heap.size + 1 < _ by omega)).trans h2)

set_option maxRecDepth 100000 in
set_option maxHeartbeats 2000000 in
theorem RDiv_any (a p b q : Int) (w : World) :
    Calls Tryz.prog 16 #[.agg #[.int .i64 a, .int .i64 p], .agg #[.int .i64 b, .int .i64 q]] w fun e w' => e = .returned (.tuple #[.agg #[.int .i64 (div a p b q).n, .int .i64 (div a p b q).d], .int .i64 (div a p b q).e]) ∧ Below w.heap.size w w' := by
  cases h1 : okB a p
  · have HA : Hid (div a p b q = ⟨0, 0, 7⟩) := Lib.hid (by unfold div; rw [h1]; rfl)
    have V1 := Lib.hid h1; clear h1
    go_enter Tryz.func16, Tryz.ntmps16
    go_wp2_with fail
    refine (RValid_no V1.out _).mono ?_
    rintro e w1 ⟨rfl, hb⟩
    obtain ⟨hc, hf⟩ := bcell hb
    have HB := Lib.hid (below3 hb)
    go_wp2
    exact bodyPost_ret (v := .tuple #[.agg #[.int .i64 0, .int .i64 0], .int .i64 7]) (by simp [results, Tryz.results16, go_sem, hc]) rfl ⟨by rw [HA.out], two3 HB.out _ _⟩
  · cases h2 : okB b q
    · have HA : Hid (div a p b q = ⟨0, 0, 7⟩) := Lib.hid (by unfold div; rw [h1, h2]; rfl)
      have V1 := Lib.hid h1; clear h1
      have V2 := Lib.hid h2; clear h2
      go_enter Tryz.func16, Tryz.ntmps16
      go_wp2_with fail
      refine (RValid_yes V1.out _).mono ?_
      rintro e w1 ⟨rfl, hb⟩
      obtain ⟨hc, hf⟩ := bcell hb
      obtain ⟨z0, z1, z2⟩ := size3 hb
      have HB := Lib.hid (below3 hb)
      go_wp2_with fail
      refine (RValid_no V2.out _).mono ?_
      rintro e w2 ⟨rfl, hb2⟩
      obtain ⟨hc2, hf2⟩ := bcell hb2
      have HB2 := Lib.hid (HB.out.trans (hb2.mono HB.out.size))
      go_wp2
      exact bodyPost_ret (v := .tuple #[.agg #[.int .i64 0, .int .i64 0], .int .i64 7]) (by simp [results, Tryz.results16, go_sem, hc, hc2, z2]) rfl ⟨by rw [HA.out], two3 HB2.out _ _⟩
    · by_cases hz : b = 0
      · subst hz
        have HA : Hid (div a p 0 q = ⟨0, 0, 16⟩) := Lib.hid (by unfold div; rw [h1, h2]; rfl)
        have V1 := Lib.hid h1; clear h1
        have V2 := Lib.hid h2; clear h2
        go_enter Tryz.func16, Tryz.ntmps16
        go_wp2_with fail
        refine (RValid_yes V1.out _).mono ?_
        rintro e w1 ⟨rfl, hb⟩
        obtain ⟨hc, hf⟩ := bcell hb
        obtain ⟨z0, z1, z2⟩ := size3 hb
        have HB := Lib.hid (below3 hb)
        go_wp2_with fail
        refine (RValid_yes V2.out _).mono ?_
        rintro e w2 ⟨rfl, hb2⟩
        obtain ⟨hc2, hf2⟩ := bcell hb2
        obtain ⟨y0, y1, y2⟩ := size4 z2 hb2
        have HB2 := Lib.hid (HB.out.trans (hb2.mono HB.out.size))
        go_wp2
        exact bodyPost_ret (v := .tuple #[.agg #[.int .i64 0, .int .i64 0], .int .i64 16]) (by simp [results, Tryz.results16, go_sem, hc, hc2, z2]) rfl ⟨by rw [HA.out], two3 HB2.out _ _⟩
      · have hP := pr_of h1 h2
        have HA : Hid (div a p b q = fit (a * q) (p * b)) := Lib.hid (by unfold div; rw [h1, h2]; simp [hz])
        have q1 := hP.aq; have q2 := hP.bp; have q3 := hP.pq; have q4 := hP.pb; have q5 := hP.pq1
        have hne : b * p ≠ 0 := ne_mul hz (okB_iff.1 h1).ne
        have hne2 : p * b ≠ 0 := ne_mul (okB_iff.1 h1).ne hz
        have hz0 : (b == 0) = false := by simpa using hz
        have e0 : IntKind.i64.wrap (a * q) = a * q := IntWalk.i64_in _ (by omega)
        have e1 : IntKind.i64.wrap (p * b) = p * b := IntWalk.i64_in _ (by omega)
        have HZ := Lib.hid hz; have HN := Lib.hid hne; have HN2 := Lib.hid hne2
        have V1 := Lib.hid h1
        have V2 := Lib.hid h2
        clear h1 h2 hz hP hne hne2
        go_enter Tryz.func16, Tryz.ntmps16
        go_wp2_with fail
        refine (RValid_yes V1.out _).mono ?_
        rintro e w1 ⟨rfl, hb⟩
        obtain ⟨hc, hf⟩ := bcell hb
        obtain ⟨z0, z1, z2⟩ := size3 hb
        have HB := Lib.hid (below3 hb)
        go_wp2_with fail
        refine (RValid_yes V2.out _).mono ?_
        rintro e w2 ⟨rfl, hb2⟩
        obtain ⟨hc2, hf2⟩ := bcell hb2
        obtain ⟨y0, y1, y2⟩ := size4 z2 hb2
        have HB2 := Lib.hid (HB.out.trans (hb2.mono HB.out.size))
        go_wp2_with fail
        refine (form_any (a * q) (p * b) _ (by omega) (by omega) HN2.out).mono ?_
        rintro e w3 ⟨rfl, hb3⟩
        obtain ⟨hc3, hf3⟩ := bcell hb3
        have HB3 := Lib.hid (HB2.out.trans (hb3.mono HB2.out.size))
        go_wp2
        exact bodyPost_ret (v := .tuple #[.agg #[.int .i64 (fit (a * q) (p * b)).n, .int .i64 (fit (a * q) (p * b)).d], .int .i64 (fit (a * q) (p * b)).e]) (by simp [results, Tryz.results16, go_sem, hc, hc2, hc3, z2, y2]) rfl ⟨by rw [HA.out], two3 HB3.out _ _⟩

set_option maxRecDepth 100000 in
set_option maxHeartbeats 2000000 in
theorem RMod_any (a p b q : Int) (w : World) :
    Calls Tryz.prog 17 #[.agg #[.int .i64 a, .int .i64 p], .agg #[.int .i64 b, .int .i64 q]] w fun e w' => e = .returned (.tuple #[.agg #[.int .i64 (mod a p b q).n, .int .i64 (mod a p b q).d], .int .i64 (mod a p b q).e]) ∧ Below w.heap.size w w' := by
  cases h1 : okB a p
  · have HA : Hid (mod a p b q = ⟨0, 0, 7⟩) := Lib.hid (by unfold mod; rw [h1]; rfl)
    have V1 := Lib.hid h1; clear h1
    go_enter Tryz.func17, Tryz.ntmps17
    go_wp2_with fail
    refine (RValid_no V1.out _).mono ?_
    rintro e w1 ⟨rfl, hb⟩
    obtain ⟨hc, hf⟩ := bcell hb
    have HB := Lib.hid (below3 hb)
    go_wp2
    exact bodyPost_ret (v := .tuple #[.agg #[.int .i64 0, .int .i64 0], .int .i64 7]) (by simp [results, Tryz.results17, go_sem, hc]) rfl ⟨by rw [HA.out], two3 HB.out _ _⟩
  · cases h2 : okB b q
    · have HA : Hid (mod a p b q = ⟨0, 0, 7⟩) := Lib.hid (by unfold mod; rw [h1, h2]; rfl)
      have V1 := Lib.hid h1; clear h1
      have V2 := Lib.hid h2; clear h2
      go_enter Tryz.func17, Tryz.ntmps17
      go_wp2_with fail
      refine (RValid_yes V1.out _).mono ?_
      rintro e w1 ⟨rfl, hb⟩
      obtain ⟨hc, hf⟩ := bcell hb
      obtain ⟨z0, z1, z2⟩ := size3 hb
      have HB := Lib.hid (below3 hb)
      go_wp2_with fail
      refine (RValid_no V2.out _).mono ?_
      rintro e w2 ⟨rfl, hb2⟩
      obtain ⟨hc2, hf2⟩ := bcell hb2
      have HB2 := Lib.hid (HB.out.trans (hb2.mono HB.out.size))
      go_wp2
      exact bodyPost_ret (v := .tuple #[.agg #[.int .i64 0, .int .i64 0], .int .i64 7]) (by simp [results, Tryz.results17, go_sem, hc, hc2, z2]) rfl ⟨by rw [HA.out], two3 HB2.out _ _⟩
    · by_cases hz : b = 0
      · subst hz
        have HA : Hid (mod a p 0 q = ⟨0, 0, 16⟩) := Lib.hid (by unfold mod; rw [h1, h2]; rfl)
        have V1 := Lib.hid h1; clear h1
        have V2 := Lib.hid h2; clear h2
        go_enter Tryz.func17, Tryz.ntmps17
        go_wp2_with fail
        refine (RValid_yes V1.out _).mono ?_
        rintro e w1 ⟨rfl, hb⟩
        obtain ⟨hc, hf⟩ := bcell hb
        obtain ⟨z0, z1, z2⟩ := size3 hb
        have HB := Lib.hid (below3 hb)
        go_wp2_with fail
        refine (RValid_yes V2.out _).mono ?_
        rintro e w2 ⟨rfl, hb2⟩
        obtain ⟨hc2, hf2⟩ := bcell hb2
        obtain ⟨y0, y1, y2⟩ := size4 z2 hb2
        have HB2 := Lib.hid (HB.out.trans (hb2.mono HB.out.size))
        go_wp2
        exact bodyPost_ret (v := .tuple #[.agg #[.int .i64 0, .int .i64 0], .int .i64 16]) (by simp [results, Tryz.results17, go_sem, hc, hc2, z2]) rfl ⟨by rw [HA.out], two3 HB2.out _ _⟩
      · have hP := pr_of h1 h2
        have HA : Hid (mod a p b q = fit (Int.fmod (a * q) (b * p)) (p * q)) := Lib.hid (by unfold mod; rw [h1, h2]; simp [hz])
        have q1 := hP.aq; have q2 := hP.bp; have q3 := hP.pq; have q4 := hP.pb; have q5 := hP.pq1
        have hne : b * p ≠ 0 := ne_mul hz (okB_iff.1 h1).ne
        have hne2 : p * b ≠ 0 := ne_mul (okB_iff.1 h1).ne hz
        have hz0 : (b == 0) = false := by simpa using hz
        have e0 : IntKind.i64.wrap (a * q) = a * q := IntWalk.i64_in _ (by omega)
        have e1 : IntKind.i64.wrap (b * p) = b * p := IntWalk.i64_in _ (by omega)
        have e2 : IntKind.i64.wrap (p * q) = p * q := IntWalk.i64_in _ (by omega)
        have hm := fmod_bd (a * q) hne
        have hm2 : (Int.fmod (a * q) (b * p)).natAbs ≤ 4000000000000000000 := by omega
        have HM := Lib.hid hm2
        clear hm hm2
        have HZ := Lib.hid hz; have HN := Lib.hid hne; have HN2 := Lib.hid hne2
        have V1 := Lib.hid h1
        have V2 := Lib.hid h2
        clear h1 h2 hz hP hne hne2
        go_enter Tryz.func17, Tryz.ntmps17
        go_wp2_with fail
        refine (RValid_yes V1.out _).mono ?_
        rintro e w1 ⟨rfl, hb⟩
        obtain ⟨hc, hf⟩ := bcell hb
        obtain ⟨z0, z1, z2⟩ := size3 hb
        have HB := Lib.hid (below3 hb)
        go_wp2_with fail
        refine (RValid_yes V2.out _).mono ?_
        rintro e w2 ⟨rfl, hb2⟩
        obtain ⟨hc2, hf2⟩ := bcell hb2
        obtain ⟨y0, y1, y2⟩ := size4 z2 hb2
        have HB2 := Lib.hid (HB.out.trans (hb2.mono HB.out.size))
        have k0 : w2.cell? ⟨w.heap.size, 0, none⟩ = some (.int .i64 a) := (held3 hb hb2).1 0 _ rfl
        have k1 : w2.cell? ⟨w.heap.size, 1, none⟩ = some (.int .i64 p) := (held3 hb hb2).1 1 _ rfl
        have k2 : w2.cell? ⟨w.heap.size + 1, 0, none⟩ = some (.int .i64 b) := (held3 hb hb2).2 0 _ rfl
        have k3 : w2.cell? ⟨w.heap.size + 1, 1, none⟩ = some (.int .i64 q) := (held3 hb hb2).2 1 _ rfl
        go_wp2
        go_region_held3 (fun W => W.cell? ⟨w.heap.size, 0, none⟩ = some (.int .i64 a) ∧ W.cell? ⟨w.heap.size, 1, none⟩ = some (.int .i64 p) ∧ W.cell? ⟨w.heap.size + 1, 0, none⟩ = some (.int .i64 b) ∧ W.cell? ⟨w.heap.size + 1, 1, none⟩ = some (.int .i64 q)) (first | exact ⟨k0, k1, k2, k3⟩ | exact ⟨(hc3 _ _ y0).trans k0, (hc3 _ _ y0).trans k1, (hc3 _ _ y1).trans k2, (hc3 _ _ y1).trans k3⟩ | exact ⟨(set3a w w3 0 _ _).trans ((hc3 _ _ y0).trans k0), (set3a w w3 1 _ _).trans ((hc3 _ _ y0).trans k1), (set3b w w3 0 _ _).trans ((hc3 _ _ y1).trans k2), (set3b w w3 1 _ _).trans ((hc3 _ _ y1).trans k3)⟩)
          (first | (go_at_call 30; refine (below_any (a * q) (b * p) _ (by omega) HN.out).mono ?_; rintro e w' ⟨rfl, rfl⟩) | (go_at_call 29; refine (form_any (Int.fmod (a * q) (b * p)) (p * q) _ HM.out (by omega) (by omega)).mono ?_; rintro e w3 ⟨rfl, hb3⟩; obtain ⟨hc3, hf3⟩ := bcellN (W := w2) (n := 1) hb3))
        have HB3 := Lib.hid ((below_drewN HB2.out 1).trans (hb3.mono (below_drewN HB2.out 1).size))
        go_wp2
        exact bodyPost_ret (v := .tuple #[.agg #[.int .i64 (fit (Int.fmod (a * q) (b * p)) (p * q)).n, .int .i64 (fit (Int.fmod (a * q) (b * p)) (p * q)).d], .int .i64 (fit (Int.fmod (a * q) (b * p)) (p * q)).e]) (by simp [results, Tryz.results17, go_sem, hc, hc2, hc3, z2, y2]) rfl ⟨by rw [HA.out], two3 HB3.out _ _⟩
end Go.Proofs.YtfocokjihbenmaaGreatDoor.Nu

namespace Go.Proofs.YtfocokjihbenmaaGreatDoor.Nu
open Go.RowKit

theorem lt_cell {W : World} {p : Addr} {v : Value} (h : W.cell? p = some v) : p.block < W.heap.size := by
  rcases Nat.lt_or_ge p.block W.heap.size with h1 | h1
  · exact h1
  · unfold World.cell? at h
    rw [Array.getElem?_eq_none h1] at h
    simp at h
/-- The library's table of powers, and that its variable MaxLen holds some number. -/
structure Tb (w : World) : Prop where
  ml : ∃ m : Int, w.cell? ⟨2, 0, none⟩ = some (.int .i64 m)
theorem Tb.below {w w' : World} (h : Tb w) (hb : Below w.heap.size w w') : Tb w' :=
  ⟨by obtain ⟨m, hm⟩ := h.ml; exact ⟨m, (hb.cell (p := ⟨2, 0, none⟩) (lt_cell hm)).trans hm⟩⟩
theorem conv_one (W : World) (b : Nat) (n : Int) (h : W.cell? ⟨b, 0, none⟩ = some (.int .u8 n)) : (convert 74 9 (.slice (some ⟨b, 0, none⟩) 1 1)).run Tryz.prog W = .ok (.string ⟨#[UInt8.ofNat n.toNat]⟩) W := by
  have hl : (loadCells ⟨b, 0, none⟩ 1).run Tryz.prog W = .ok ([n].map (Value.int .u8)).toArray W := by
    simp [loadCells, go_sem, h]
  rw [run_convert_bytes_string W 74 9 5 _ 1 1 Tryz.underlying74 Tryz.underlying5 Tryz.underlying9, run_bytesToString W ⟨b, 0, none⟩ 1 1 [n] hl]
  rfl
theorem conv_dig (w : World) (u : Nat) : (convert 74 9 (.slice (some ⟨w.heap.size, 0, none⟩) 1 1)).run Tryz.prog (w.alloc (.cells #[.int .u8 (48 + (u : Int) % 10)] 5)) = .ok (.string ⟨#[UInt8.ofNat (48 + u % 10)]⟩) (w.alloc (.cells #[.int .u8 (48 + (u : Int) % 10)] 5)) := by
  rw [conv_one _ _ (48 + (u : Int) % 10) (by simp), show (48 + (u : Int) % 10).toNat = 48 + u % 10 by omega]
theorem cat_dig (l : List UInt8) (c : UInt8) : (⟨l.toArray⟩ : ByteArray) ++ ⟨#[c]⟩ = ⟨(l ++ [c]).toArray⟩ := by
  apply ByteArray.ext; apply Array.ext'; simp
theorem dec_len19 {u : Nat} (h : u ≤ 4611686018427387904) : (Lib.decDigits u).length ≤ 19 := (pad 19 u (by omega) (Nat.lt_of_le_of_lt h (by decide))).1
set_option maxRecDepth 100000 in
set_option maxHeartbeats 1000000 in
theorem Dec_any : ∀ (u : Nat) (w : World), u ≤ 4611686018427387904 → Calls Tryz.prog 27 #[.int .i64 (u : Int)] w fun e w' => e = .returned (.string ⟨(Lib.decDigits u).toArray⟩) ∧ Below w.heap.size w w' := by
  intro u
  induction u using Nat.strongRecOn with
  | _ u ih =>
    intro w hu
    have hm : 0 ≤ (u : Int) % 10 ∧ (u : Int) % 10 ≤ 9 := by omega
    obtain ⟨m0, m1⟩ := hm
    by_cases h : u < 10
    · have hd : decide ((u : Int) < 10) = true := by rw [decide_eq_true_iff]; omega
      have HD := Lib.hid (dec_small h)
      have hcv := conv_dig w u
      have HM := Lib.hid (Nat.mod_eq_of_lt h)
      clear h ih
      go_enter Tryz.func27, Tryz.ntmps27
      go_wp2
      go_ret
      exact ⟨ret_str (by rw [HD.out]; simp [HM.out]), (Below.refl _ _).alloc (Nat.le_refl _) _⟩
    · have hd : decide ((u : Int) < 10) = false := by rw [decide_eq_false_iff_not]; omega
      have HD := Lib.hid (dec_big (x := u) (by omega))
      have hcv := conv_dig w u
      have IH := ih (u / 10) (by omega) (w.alloc (.cells #[.int .u8 (48 + (u : Int) % 10)] 5)) (by omega)
      rw [show ((u / 10 : Nat) : Int) = (u : Int) / 10 by omega] at IH
      have HI := Lib.hid IH
      have hl := dec_len19 (u := u / 10) (by omega)
      clear h ih IH
      go_enter Tryz.func27, Tryz.ntmps27
      go_wp2_with fail
      refine HI.out.mono ?_
      rintro e w1 ⟨rfl, hb⟩
      go_wp2
      go_ret
      exact ⟨ret_str (by rw [HD.out, ← cat_dig]; simp), below1 hb⟩
theorem RItoa_any (n : Int) (w : World) (h : n.natAbs ≤ 4611686018427387904) : Calls Tryz.prog 27 #[.int .i64 n] w fun e w' => e = .returned (.string ⟨(Lib.itoa n).toArray⟩) ∧ Below w.heap.size w w' := by
  by_cases hn : n < 0
  · have hi : Lib.itoa n = 45 :: Lib.decDigits n.natAbs := by unfold Lib.itoa; rw [if_pos hn]
    have HI := Lib.hid hi; clear hi
    have HD := Lib.hid (Dec_any n.natAbs w h)
    rw [show ((n.natAbs : Nat) : Int) = -n by omega] at HD
    have hl := dec_len19 h
    have e1 : IntKind.i64.wrap (-n) = -n := IntWalk.i64_in _ (by omega)
    go_enter Tryz.func27, Tryz.ntmps27
    go_wp2_with fail
    refine HD.out.mono ?_
    rintro e w1 ⟨rfl, hb⟩
    go_wp2
    go_ret
    exact ⟨ret_str (by rw [HI.out]; apply ByteArray.ext; apply Array.ext'; simp), hb⟩
  · have hi : Lib.itoa n = Lib.decDigits n.toNat := by unfold Lib.itoa; rw [if_neg hn]
    have HD := Dec_any n.toNat w (by omega)
    rw [show ((n.toNat : Nat) : Int) = n by omega, ← hi] at HD
    exact HD
end Go.Proofs.YtfocokjihbenmaaGreatDoor.Nu
