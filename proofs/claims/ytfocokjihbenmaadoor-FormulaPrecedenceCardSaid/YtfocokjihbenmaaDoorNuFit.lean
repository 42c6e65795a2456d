/-
  The contracts of fit and Valid of package number, and of form and Valid of its reference.
-/
import Derived.Test.YtfocokjihbenmaaDoorNuLeaf2
import Derived.Deep.RegionHeld3
namespace Go.Proofs.YtfocokjihbenmaaDoor.Nu
open Go.RowKit

/-- What the division by the common divisor gives, in the walk's own words. -/
theorem fn_tdiv (n d : Int) : (sn n d).tdiv (gc n d) = fn n d := by unfold fn; exact Int.tdiv_eq_ediv_of_dvd (gc_sn n d)
theorem fd_tdiv (n d : Int) : (sd d).tdiv (gc n d) = fd n d := by unfold fd; exact Int.tdiv_eq_ediv_of_dvd (gc_sd n d)
theorem gc_neg (n d : Int) : gc (-n) (-d) = gc n d := by unfold gc; simp
theorem fn_bd (n d : Int) {B : Nat} (h : n.natAbs ≤ B) : (fn n d).natAbs ≤ B := by
  rw [← fn_tdiv]; refine tdiv_bd _ _ ?_
  unfold sn; split <;> omega
theorem fd_bd (n d : Int) {B : Nat} (h : d.natAbs ≤ B) : (fd n d).natAbs ≤ B := by
  rw [← fd_tdiv]; refine tdiv_bd _ _ ?_
  unfold sd; split <;> omega
theorem fitB_in {n d : Int} (hd : d ≠ 0) : fitB n d = (inB (fn n d) && inB (fd n d)) := by
  have := fd_pos n hd
  unfold fitB inB
  rw [Bool.eq_iff_iff]; simp; omega

/-- The two cells of a result, set. -/
theorem below_two {w W : World} (h : Below w.heap.size w W) (u v : Value) : Below w.heap.size w ((W.setCell ⟨w.heap.size, 0, none⟩ u).setCell ⟨w.heap.size, 1, none⟩ v) :=
  (h.setCell (Nat.le_refl _) _).setCell (Nat.le_refl _) _
set_option maxRecDepth 100000 in
set_option maxHeartbeats 1000000 in
theorem fit_any (n d : Int) (w : World) (h1 : n.natAbs ≤ 4000000000000000000) (h2 : d.natAbs ≤ 4000000000000000000) (hd : d ≠ 0) :
    Calls Tryd.prog 52 #[.int .i64 n, .int .i64 d] w fun e w' => e = .returned (.tuple #[.agg #[.int .i64 (fit n d).n, .int .i64 (fit n d).d], .int .i64 (fit n d).e]) ∧ Below w.heap.size w w' := by
  have hg := gc_pos n hd
  have hB := fitB_in (n := n) hd
  have ef := fn_tdiv n d; have ed := fd_tdiv n d
  have b1 := fn_bd n d h1; have b2 := fd_bd n d h2
  have e1 : IntKind.i64.wrap (fn n d) = fn n d := IntWalk.i64_in _ (by omega)
  have e2 : IntKind.i64.wrap (fd n d) = fd n d := IntWalk.i64_in _ (by omega)
  have hg0 : (gc n d == 0) = false := by rw [beq_eq_false_iff_ne]; omega
  by_cases hs : d < 0
  · have es : sn n d = -n := by unfold sn; rw [if_pos hs]
    have es2 : sd d = -d := by unfold sd; rw [if_pos hs]
    rw [es] at ef; rw [es2] at ed
    have ed2 : (-d) / gc n d = fd n d := by unfold fd; rw [es2]
    clear es es2
    go_enter Tryd.func52, Tryd.ntmps52
    go_wp2_with fail
    refine (divisor_any (-n) (-d) _ (by omega) (by omega)).mono ?_
    rintro e w' ⟨rfl, k, rfl⟩
    have EN := gc_neg n d
    go_wp2
    go_region
    go_wp2_with fail
    refine (inRange_any _ _).mono ?_
    rintro e w' ⟨rfl, rfl⟩
    cases hi1 : inB (fn n d)
    · rw [hi1] at hB
      have HF : Hid (fit n d = ⟨0, 0, 15⟩) := Lib.hid (by unfold fit; rw [hB]; rfl)
      clear hB
      go_wp2
      exact bodyPost_ret (v := .tuple #[.agg #[.int .i64 0, .int .i64 0], .int .i64 15]) (by simp [results, Tryd.results52, go_sem]) rfl ⟨by rw [HF.out], below_two (below_drewN ((Below.refl _ _).alloc (Nat.le_refl _) _) _) _ _⟩
    · rw [hi1] at hB
      go_wp2_with fail
      refine (inRange_any _ _).mono ?_
      rintro e w' ⟨rfl, rfl⟩
      cases hi2 : inB (fd n d)
      · rw [hi2] at hB
        have HF : Hid (fit n d = ⟨0, 0, 15⟩) := Lib.hid (by unfold fit; rw [hB]; rfl)
        clear hB
        go_wp2
        exact bodyPost_ret (v := .tuple #[.agg #[.int .i64 0, .int .i64 0], .int .i64 15]) (by simp [results, Tryd.results52, go_sem]) rfl ⟨by rw [HF.out], below_two (below_drewN ((Below.refl _ _).alloc (Nat.le_refl _) _) _) _ _⟩
      · rw [hi2] at hB
        have HF : Hid (fit n d = ⟨fn n d, fd n d, 0⟩) := Lib.hid (by unfold fit; rw [hB]; rfl)
        clear hB
        go_wp2
        exact bodyPost_ret (v := .tuple #[.agg #[.int .i64 (fn n d), .int .i64 (fd n d)], .int .i64 0]) (by simp [results, Tryd.results52, go_sem]) rfl ⟨by rw [HF.out], below_two (below_drewN ((Below.refl _ _).alloc (Nat.le_refl _) _) _) _ _⟩
  · have es : sn n d = n := by unfold sn; rw [if_neg hs]
    have es2 : sd d = d := by unfold sd; rw [if_neg hs]
    rw [es] at ef; rw [es2] at ed
    have ed2 : d / gc n d = fd n d := by unfold fd; rw [es2]
    have ef2 : n / gc n d = fn n d := by unfold fn; rw [es]
    clear es es2
    go_enter Tryd.func52, Tryd.ntmps52
    go_wp2_with fail
    refine (divisor_any n d _ (by omega) (by omega)).mono ?_
    rintro e w' ⟨rfl, k, rfl⟩
    go_wp2
    go_region
    go_wp2_with fail
    refine (inRange_any _ _).mono ?_
    rintro e w' ⟨rfl, rfl⟩
    cases hi1 : inB (fn n d)
    · rw [hi1] at hB
      have HF : Hid (fit n d = ⟨0, 0, 15⟩) := Lib.hid (by unfold fit; rw [hB]; rfl)
      clear hB
      go_wp2
      exact bodyPost_ret (v := .tuple #[.agg #[.int .i64 0, .int .i64 0], .int .i64 15]) (by simp [results, Tryd.results52, go_sem]) rfl ⟨by rw [HF.out], below_two (below_drewN ((Below.refl _ _).alloc (Nat.le_refl _) _) _) _ _⟩
    · rw [hi1] at hB
      go_wp2_with fail
      refine (inRange_any _ _).mono ?_
      rintro e w' ⟨rfl, rfl⟩
      cases hi2 : inB (fd n d)
      · rw [hi2] at hB
        have HF : Hid (fit n d = ⟨0, 0, 15⟩) := Lib.hid (by unfold fit; rw [hB]; rfl)
        clear hB
        go_wp2
        exact bodyPost_ret (v := .tuple #[.agg #[.int .i64 0, .int .i64 0], .int .i64 15]) (by simp [results, Tryd.results52, go_sem]) rfl ⟨by rw [HF.out], below_two (below_drewN ((Below.refl _ _).alloc (Nat.le_refl _) _) _) _ _⟩
      · rw [hi2] at hB
        have HF : Hid (fit n d = ⟨fn n d, fd n d, 0⟩) := Lib.hid (by unfold fit; rw [hB]; rfl)
        clear hB
        go_wp2
        exact bodyPost_ret (v := .tuple #[.agg #[.int .i64 (fn n d), .int .i64 (fd n d)], .int .i64 0]) (by simp [results, Tryd.results52, go_sem]) rfl ⟨by rw [HF.out], below_two (below_drewN ((Below.refl _ _).alloc (Nat.le_refl _) _) _) _ _⟩
end Go.Proofs.YtfocokjihbenmaaDoor.Nu
