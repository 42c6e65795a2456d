/-
  The contract of form of the reference of chapter 6.
-/
import Derived.Test.YtpehlihbpmcofaaDoorNuFit
namespace Go.Proofs.YtpehlihbpmcofaaDoor.Nu
open Go.RowKit

theorem gc_abs2 (n d : Int) : gc (n.natAbs : Int) d = gc n d := by unfold gc Int.gcd; rw [Int.natAbs_natCast]
theorem gc_abs3 (n d : Int) : gc ((-n).natAbs : Int) (-d) = gc n d := by rw [gc_abs2, gc_neg]
theorem gc_abs4 (n d : Int) : gc (n.natAbs : Int) (-d) = gc n d := by rw [gc_abs2]; unfold gc; simp
set_option maxRecDepth 100000 in
set_option maxHeartbeats 2000000 in
theorem form_any (n d : Int) (w : World) (h1 : n.natAbs ≤ 4000000000000000000) (h2 : d.natAbs ≤ 4000000000000000000) (hd : d ≠ 0) :
    Calls Tryd.prog 45 #[.int .i64 n, .int .i64 d] w fun e w' => e = .returned (.tuple #[.agg #[.int .i64 (fit n d).n, .int .i64 (fit n d).d], .int .i64 (fit n d).e]) ∧ Below w.heap.size w w' := by
  have hg := gc_pos n hd
  have hB := fitB_in (n := n) hd
  have hfp := fd_pos n hd
  have ef := fn_tdiv n d; have ed := fd_tdiv n d
  have b1 := fn_bd n d h1; have b2 := fd_bd n d h2
  have e1 : IntKind.i64.wrap (fn n d) = fn n d := IntWalk.i64_in _ (by omega)
  have e2 : IntKind.i64.wrap (fd n d) = fd n d := IntWalk.i64_in _ (by omega)
  have hg0 : (gc n d == 0) = false := by rw [beq_eq_false_iff_ne]; omega
  by_cases hs : d < 0
  · have es : sn n d = -n := by unfold sn; rw [if_pos hs]
    have es2 : sd d = -d := by unfold sd; rw [if_pos hs]
    rw [es] at ef; rw [es2] at ed
    have ed2 : (-d) / gc n d = fd n d := by unfold fd; rw [es2]
    clear es es2
    have EN := gc_abs3 n d
    have EN2 := gc_abs4 n d
    go_enter Tryd.func45, Tryd.ntmps45
    go_wp2_with fail
    refine (abs_any (-n) _ (by omega) (by omega)).mono ?_
    rintro e w' ⟨rfl, rfl⟩
    go_wp2_with fail
    refine (gcd_any _ (-d) _ (by omega) (by omega) (by omega) (by omega)).mono ?_
    rintro e w' ⟨rfl, k, rfl⟩
    go_wp2
    go_region
    go_wp2_with fail
    refine (abs_any (fn n d) _ (by omega) (by omega)).mono ?_
    rintro e w' ⟨rfl, rfl⟩
    by_cases hi1 : 1000000000 < ((fn n d).natAbs : Int)
    · have HF : Hid (fit n d = ⟨0, 0, 15⟩) := Lib.hid (by unfold fit; rw [hB, show inB (fn n d) = false by unfold inB; rw [decide_eq_false_iff_not]; omega]; rfl)
      clear hB
      go_wp2
      exact bodyPost_ret (v := .tuple #[.agg #[.int .i64 0, .int .i64 0], .int .i64 15]) (by simp [results, Tryd.results45, go_sem]) rfl ⟨by rw [HF.out], below_two (below_drewN ((Below.refl _ _).alloc (Nat.le_refl _) _) _) _ _⟩
    · have hj1 : inB (fn n d) = true := by unfold inB; rw [decide_eq_true_iff]; omega
      have hd1 : decide (1000000000 < ((fn n d).natAbs : Int)) = false := by simpa using hi1
      rw [hj1] at hB
      by_cases hi2 : 1000000000 < fd n d
      · have HF : Hid (fit n d = ⟨0, 0, 15⟩) := Lib.hid (by unfold fit; rw [hB, show inB (fd n d) = false by unfold inB; rw [decide_eq_false_iff_not]; omega]; rfl)
        clear hB
        go_wp2
        exact bodyPost_ret (v := .tuple #[.agg #[.int .i64 0, .int .i64 0], .int .i64 15]) (by simp [results, Tryd.results45, go_sem]) rfl ⟨by rw [HF.out], below_two (below_drewN ((Below.refl _ _).alloc (Nat.le_refl _) _) _) _ _⟩
      · have HF : Hid (fit n d = ⟨fn n d, fd n d, 0⟩) := Lib.hid (by unfold fit; rw [hB, show inB (fd n d) = true by unfold inB; rw [decide_eq_true_iff]; omega]; rfl)
        clear hB
        go_wp2
        exact bodyPost_ret (v := .tuple #[.agg #[.int .i64 (fn n d), .int .i64 (fd n d)], .int .i64 0]) (by simp [results, Tryd.results45, go_sem]) rfl ⟨by rw [HF.out], below_two (below_drewN ((Below.refl _ _).alloc (Nat.le_refl _) _) _) _ _⟩
  · have es : sn n d = n := by unfold sn; rw [if_neg hs]
    have es2 : sd d = d := by unfold sd; rw [if_neg hs]
    rw [es] at ef; rw [es2] at ed
    have ed2 : d / gc n d = fd n d := by unfold fd; rw [es2]
    have ef2 : n / gc n d = fn n d := by unfold fn; rw [es]
    clear es es2
    have EN := gc_abs2 n d
    go_enter Tryd.func45, Tryd.ntmps45
    go_wp2_with fail
    refine (abs_any n _ (by omega) (by omega)).mono ?_
    rintro e w' ⟨rfl, rfl⟩
    go_wp2_with fail
    refine (gcd_any _ d _ (by omega) (by omega) (by omega) (by omega)).mono ?_
    rintro e w' ⟨rfl, k, rfl⟩
    go_wp2
    go_region
    go_wp2_with fail
    refine (abs_any (fn n d) _ (by omega) (by omega)).mono ?_
    rintro e w' ⟨rfl, rfl⟩
    by_cases hi1 : 1000000000 < ((fn n d).natAbs : Int)
    · have HF : Hid (fit n d = ⟨0, 0, 15⟩) := Lib.hid (by unfold fit; rw [hB, show inB (fn n d) = false by unfold inB; rw [decide_eq_false_iff_not]; omega]; rfl)
      clear hB
      go_wp2
      exact bodyPost_ret (v := .tuple #[.agg #[.int .i64 0, .int .i64 0], .int .i64 15]) (by simp [results, Tryd.results45, go_sem]) rfl ⟨by rw [HF.out], below_two (below_drewN ((Below.refl _ _).alloc (Nat.le_refl _) _) _) _ _⟩
    · have hj1 : inB (fn n d) = true := by unfold inB; rw [decide_eq_true_iff]; omega
      have hd1 : decide (1000000000 < ((fn n d).natAbs : Int)) = false := by simpa using hi1
      rw [hj1] at hB
      by_cases hi2 : 1000000000 < fd n d
      · have HF : Hid (fit n d = ⟨0, 0, 15⟩) := Lib.hid (by unfold fit; rw [hB, show inB (fd n d) = false by unfold inB; rw [decide_eq_false_iff_not]; omega]; rfl)
        clear hB
        go_wp2
        exact bodyPost_ret (v := .tuple #[.agg #[.int .i64 0, .int .i64 0], .int .i64 15]) (by simp [results, Tryd.results45, go_sem]) rfl ⟨by rw [HF.out], below_two (below_drewN ((Below.refl _ _).alloc (Nat.le_refl _) _) _) _ _⟩
      · have HF : Hid (fit n d = ⟨fn n d, fd n d, 0⟩) := Lib.hid (by unfold fit; rw [hB, show inB (fd n d) = true by unfold inB; rw [decide_eq_true_iff]; omega]; rfl)
        clear hB
        go_wp2
        exact bodyPost_ret (v := .tuple #[.agg #[.int .i64 (fn n d), .int .i64 (fd n d)], .int .i64 0]) (by simp [results, Tryd.results45, go_sem]) rfl ⟨by rw [HF.out], below_two (below_drewN ((Below.refl _ _).alloc (Nat.le_refl _) _) _) _ _⟩
end Go.Proofs.YtpehlihbpmcofaaDoor.Nu
