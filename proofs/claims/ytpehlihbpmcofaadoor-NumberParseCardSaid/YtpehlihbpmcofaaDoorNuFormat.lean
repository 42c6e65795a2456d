/-
  The contracts of Format of package number and of its reference.
-/
import Derived.Test.YtpehlihbpmcofaaDoorNuFixed
import Derived.Deep.RegionHeld3
namespace Go.Proofs.YtpehlihbpmcofaaDoor.Nu
open Go.RowKit

set_option maxRecDepth 100000 in
set_option maxHeartbeats 2000000 in
theorem Format_any (n d : Int) (w : World) (ht : Tb w) :
    Calls Tryd.prog 39 #[.agg #[.int .i64 n, .int .i64 d]] w fun e w' => e = .returned (.string (fmtS n d)) ∧ Below w.heap.size w w' := by
  cases h : okB n d
  · have HA : Hid (fmtS n d = ⟨#[]⟩) := Lib.hid (by unfold fmtS fmt; rw [h]; rfl)
    have V1 := Lib.hid h; clear h
    go_enter Tryd.func39, Tryd.ntmps39
    go_wp2_with fail
    refine (Valid_no V1.out _).mono ?_
    rintro e w1 ⟨rfl, hb⟩
    go_wp2
    go_ret
    exact ⟨ret_str HA.out.symm, below1 hb⟩
  · have hO := okB_iff.1 h
    have h1 := hO.n1; have h2 := hO.n2; have h3 := hO.d1; have h4 := hO.d2
    have HO := Lib.hid hO
    have V1 := Lib.hid h
    clear h hO
    have hd0 : (d == 0) = false := by rw [beq_eq_false_iff_ne]; omega
    go_enter Tryd.func39, Tryd.ntmps39
    go_wp2_with fail
    refine (Valid_yes V1.out _).mono ?_
    rintro e w1 ⟨rfl, hb⟩
    have z0 := size1 hb
    have hc0 : w1.cell? ⟨w.heap.size, 0, none⟩ = some (.int .i64 n) := (hb.cell (p := ⟨w.heap.size, 0, none⟩) (by simp)).trans (cell_new w _ _ 0 _ rfl)
    have hc1 : w1.cell? ⟨w.heap.size, 1, none⟩ = some (.int .i64 d) := (hb.cell (p := ⟨w.heap.size, 1, none⟩) (by simp)).trans (cell_new w _ _ 1 _ rfl)
    have HB := Lib.hid (below1 hb)
    clear hb
    go_wp2
    go_loopw [7] (fun x wr => ∃ (j nq : Nat), j ≤ 10 ∧ x = .int .i64 (j : Int) ∧ Hid (wr = w1.drewN nq) ∧ Hid (∀ i, i < j → pw i % d ≠ 0)) (fun x _ => 10 - (intOf x).toNat)
    case atStart => exact ⟨0, 0, by omega, rfl, Lib.hid rfl, Lib.hid (fun i hi => by omega)⟩
    case round =>
      obtain ⟨j, nq, hj, rfl, HW, HI⟩ := hrel
      obtain rfl := HW.out
      by_cases hlt : j < 10
      · have hk : j ≤ 9 := by omega
        obtain ⟨p1, p2⟩ := pw_bd hk
        by_cases hm : pw j % d = 0
        · have hm1 : (pw j % d == 0) = true := by rw [hm]; rfl
          have HA : Hid (fmtS n d = notaS n d j) := Lib.hid (by unfold fmtS notaS; rw [fmt_at HO.out hk hm HI.out])
          clear hm
          go_wp2
          go_quiet ((go_at_call 53; exact (quiet_add_same' (power_q j _ hk))))
          go_wp2_with fail
          refine (decimal_any n d j _ hk V1.out ((ht.below HB.out).below (below_drewN (Below.refl _ _) _))).mono ?_
          rintro e w2 ⟨rfl, hb2⟩
          have HB2 := Lib.hid ((below_drewN HB.out _).trans (hb2.mono (below_drewN HB.out _).size))
          go_wp2
          go_ret
          exact ⟨ret_str HA.out.symm, HB2.out⟩
        · have hm1 : (pw j % d == 0) = false := by rw [beq_eq_false_iff_ne]; exact hm
          have HM := Lib.hid hm; clear hm
          go_wp2
          go_quiet ((go_at_call 53; exact (quiet_add_same' (power_q j _ hk))))
          go_wp2
          go_roundw
          case rel => exact ⟨j + 1, _, by omega, by go_num, Lib.hid rfl, Lib.hid (fun i hi => by
            rcases Nat.lt_succ_iff_lt_or_eq.1 hi with h | rfl
            · exact HI.out i h
            · exact HM.out)⟩
          case measure => simp [intOf]; omega
      · obtain rfl : j = 10 := by omega
        have HA : Hid (fmtS n d = itS n ++ ⟨#[47]⟩ ++ itS d) := Lib.hid (by unfold fmtS; rw [fmt_frac HO.out HI.out]; apply itS_ext; simp [itS])
        obtain ⟨z1, z2⟩ := itS_size (n := n) (by omega)
        obtain ⟨z3, z4⟩ := itS_size (n := d) (by omega)
        have hs1 := fun W => run_string_add_sum (P := Tryd.prog) W (itS n) ⟨#[47]⟩ (show (itS n).size + 1 ≤ _ by omega)
        have hs2 := fun W => run_string_add_sum (P := Tryd.prog) W (itS n ++ ⟨#[47]⟩) (itS d) (by rw [ByteArray.size_append]; show (itS n).size + 1 + (itS d).size ≤ _; omega)
        have HF : Fh w n d w1 := ⟨hc0, hc1, ht.below HB.out, HB.out⟩
        have HF2 := HF.drewN nq
        have HF3 := HF.drewN (nq + 1)
        have g0 := HF2.c0; have g1 := HF2.c1
        go_wp2
        go_region_held3 (fun W => W.cell? ⟨w.heap.size, 0, none⟩ = some (.int .i64 n) ∧ W.cell? ⟨w.heap.size, 1, none⟩ = some (.int .i64 d) ∧ Fh w n d W)
          (first | exact ⟨HF2.c0, HF2.c1, HF2.drewN 1⟩ | (rename_i h7; exact ⟨h7.c0, h7.c1, h7⟩))
          (first | (go_at_call 63; refine (Itoa_fh (w := w) (n := n) (d := d) _ ?_ ?_).mono ?_; (omega); (assumption); rintro e w' ⟨rfl, _⟩))
        have h6 : Fh w n d w' := by assumption
        go_wp2
        go_ret
        exact ⟨ret_str HA.out.symm, h6.bl⟩

set_option maxRecDepth 100000 in
set_option maxHeartbeats 2000000 in
theorem RFormat_any (n d : Int) (w : World) :
    Calls Tryd.prog 40 #[.agg #[.int .i64 n, .int .i64 d]] w fun e w' => e = .returned (.string (fmtS n d)) ∧ Below w.heap.size w w' := by
  cases h : okB n d
  · have HA : Hid (fmtS n d = ⟨#[]⟩) := Lib.hid (by unfold fmtS fmt; rw [h]; rfl)
    have V1 := Lib.hid h; clear h
    go_enter Tryd.func40, Tryd.ntmps40
    go_wp2_with fail
    refine (RValid_no V1.out _).mono ?_
    rintro e w1 ⟨rfl, hb⟩
    go_wp2
    go_ret
    exact ⟨ret_str HA.out.symm, below1 hb⟩
  · have hO := okB_iff.1 h
    have h1 := hO.n1; have h2 := hO.n2; have h3 := hO.d1; have h4 := hO.d2
    have HO := Lib.hid hO
    have V1 := Lib.hid h
    clear h hO
    have hd0 : (d == 0) = false := by rw [beq_eq_false_iff_ne]; omega
    go_enter Tryd.func40, Tryd.ntmps40
    go_wp2_with fail
    refine (RValid_yes V1.out _).mono ?_
    rintro e w1 ⟨rfl, hb⟩
    have z0 := size1 hb
    have hc0 : w1.cell? ⟨w.heap.size, 0, none⟩ = some (.int .i64 n) := (hb.cell (p := ⟨w.heap.size, 0, none⟩) (by simp)).trans (cell_new w _ _ 0 _ rfl)
    have hc1 : w1.cell? ⟨w.heap.size, 1, none⟩ = some (.int .i64 d) := (hb.cell (p := ⟨w.heap.size, 1, none⟩) (by simp)).trans (cell_new w _ _ 1 _ rfl)
    have HB := Lib.hid (below1 hb)
    clear hb
    go_wp2
    go_loopw [3] (fun x wr => ∃ (j nq : Nat), j ≤ 10 ∧ x = .int .i64 (j : Int) ∧ Hid (wr = w1.drewN nq) ∧ Hid (∀ i, i < j → pw i % d ≠ 0)) (fun x _ => 10 - (intOf x).toNat)
    case atStart => exact ⟨0, 0, by omega, rfl, Lib.hid rfl, Lib.hid (fun i hi => by omega)⟩
    case round =>
      obtain ⟨j, nq, hj, rfl, HW, HI⟩ := hrel
      obtain rfl := HW.out
      by_cases hlt : j < 10
      · have hk : j ≤ 9 := by omega
        obtain ⟨p1, p2⟩ := pw_bd hk
        by_cases hm : pw j % d = 0
        · have hm1 : (pw j % d == 0) = true := by rw [hm]; rfl
          have HA : Hid (fmtS n d = notaS n d j) := Lib.hid (by unfold fmtS notaS; rw [fmt_at HO.out hk hm HI.out])
          clear hm
          go_wp2
          go_quiet ((go_at_call 41; exact (quiet_add_same' (Power_q2 j _ hk))))
          go_wp2_with fail
          refine (notation_any n d j _ hk V1.out).mono ?_
          rintro e w2 ⟨rfl, hb2⟩
          have HB2 := Lib.hid ((below_drewN HB.out _).trans (hb2.mono (below_drewN HB.out _).size))
          go_wp2
          go_ret
          exact ⟨ret_str HA.out.symm, HB2.out⟩
        · have hm1 : (pw j % d == 0) = false := by rw [beq_eq_false_iff_ne]; exact hm
          have HM := Lib.hid hm; clear hm
          go_wp2
          go_quiet ((go_at_call 41; exact (quiet_add_same' (Power_q2 j _ hk))))
          go_wp2
          go_roundw
          case rel => exact ⟨j + 1, _, by omega, by go_num, Lib.hid rfl, Lib.hid (fun i hi => by
            rcases Nat.lt_succ_iff_lt_or_eq.1 hi with h | rfl
            · exact HI.out i h
            · exact HM.out)⟩
          case measure => simp [intOf]; omega
      · obtain rfl : j = 10 := by omega
        have HA : Hid (fmtS n d = itS n ++ ⟨#[47]⟩ ++ itS d) := Lib.hid (by unfold fmtS; rw [fmt_frac HO.out HI.out]; apply itS_ext; simp [itS])
        obtain ⟨z1, z2⟩ := itS_size (n := n) (by omega)
        obtain ⟨z3, z4⟩ := itS_size (n := d) (by omega)
        have hs1 := fun W => run_string_add_sum (P := Tryd.prog) W (itS n) ⟨#[47]⟩ (show (itS n).size + 1 ≤ _ by omega)
        have hs2 := fun W => run_string_add_sum (P := Tryd.prog) W (itS n ++ ⟨#[47]⟩) (itS d) (by rw [ByteArray.size_append]; show (itS n).size + 1 + (itS d).size ≤ _; omega)
        have HF : Gh w n d w1 := ⟨hc0, hc1, HB.out⟩
        have HF2 := HF.drewN nq
        have HF3 := HF.drewN (nq + 1)
        have g0 := HF2.c0; have g1 := HF2.c1
        go_wp2
        go_region_held3 (fun W => W.cell? ⟨w.heap.size, 0, none⟩ = some (.int .i64 n) ∧ W.cell? ⟨w.heap.size, 1, none⟩ = some (.int .i64 d) ∧ Gh w n d W)
          (first | exact ⟨HF2.c0, HF2.c1, HF2.drewN 1⟩ | (rename_i h7; exact ⟨h7.c0, h7.c1, h7⟩))
          (first | (go_at_call 64; refine (RItoa_gh (w := w) (n := n) (d := d) _ ?_ ?_).mono ?_; (omega); (assumption); rintro e w' ⟨rfl, _⟩))
        have h6 : Gh w n d w' := by assumption
        go_wp2
        go_ret
        exact ⟨ret_str HA.out.symm, h6.bl⟩
end Go.Proofs.YtpehlihbpmcofaaDoor.Nu
