/-
  What the contracts of the operations share.
  The contract of form of the reference of chapter 6.
  The contracts of Add and Mul of package number.
  The contracts of Add, Sub and Mul of the reference of chapter 6.
  The contracts of Sub, checkDivision and Div of package number.
  The contracts of Compare, Make and Floor of package number and of its reference.
  The contracts of Make and Floor of package number and of its reference.
-/
import Derived.Test.YtfocokjihbenmaaGreatDoorNuL
import Derived.Test.YtfocokjihbenmaaGreatDoorShelf
namespace Go.Proofs.YtfocokjihbenmaaGreatDoor.Nu
open Go.RowKit

theorem bcell {W w1 : World} (hb : Below W.heap.size W w1) : (∀ b o, b < W.heap.size → w1.cell? ⟨b, o, none⟩ = W.cell? ⟨b, o, none⟩) ∧ (∀ b o, b < W.heap.size → w1.frozen? ⟨b, o, none⟩ = W.frozen? ⟨b, o, none⟩) :=
  ⟨fun b o h => hb.cell (p := ⟨b, o, none⟩) h, fun b o h => hb.frozen (p := ⟨b, o, none⟩) h⟩
theorem Valid_yes {n d : Int} (h : okB n d = true) (w : World) : Calls Tryz.prog 100 #[.agg #[.int .i64 n, .int .i64 d]] w fun e w' => e = .returned (.bool true) ∧ Below w.heap.size w w' :=
  (Valid_any n d w).mono fun _ _ ⟨he, hb⟩ => ⟨by rw [he, h], hb⟩
theorem Valid_no {n d : Int} (h : okB n d = false) (w : World) : Calls Tryz.prog 100 #[.agg #[.int .i64 n, .int .i64 d]] w fun e w' => e = .returned (.bool false) ∧ Below w.heap.size w w' :=
  (Valid_any n d w).mono fun _ _ ⟨he, hb⟩ => ⟨by rw [he, h], hb⟩
theorem RValid_yes {n d : Int} (h : okB n d = true) (w : World) : Calls Tryz.prog 28 #[.agg #[.int .i64 n, .int .i64 d]] w fun e w' => e = .returned (.bool true) ∧ Below w.heap.size w w' :=
  (RefValid_any n d w).mono fun _ _ ⟨he, hb⟩ => ⟨by rw [he, h], hb⟩
theorem RValid_no {n d : Int} (h : okB n d = false) (w : World) : Calls Tryz.prog 28 #[.agg #[.int .i64 n, .int .i64 d]] w fun e w' => e = .returned (.bool false) ∧ Below w.heap.size w w' :=
  (RefValid_any n d w).mono fun _ _ ⟨he, hb⟩ => ⟨by rw [he, h], hb⟩
/-- The products of the terms of two valid numbers. -/
structure Pr (a p b q : Int) : Prop where
  aq : (a * q).natAbs ≤ 1000000000000000000
  bp : (b * p).natAbs ≤ 1000000000000000000
  pq : (p * q).natAbs ≤ 1000000000000000000
  ab : (a * b).natAbs ≤ 1000000000000000000
  pb : (p * b).natAbs ≤ 1000000000000000000
  pq1 : 1 ≤ p * q
theorem nat_mul {x y : Int} (hx : x.natAbs ≤ 1000000000) (hy : y.natAbs ≤ 1000000000) : (x * y).natAbs ≤ 1000000000000000000 := by
  rw [Int.natAbs_mul]; exact Nat.mul_le_mul hx hy
theorem pr_of {a p b q : Int} (h1 : okB a p = true) (h2 : okB b q = true) : Pr a p b q := by
  rw [okB_iff] at h1 h2
  have a1 := h1.n1; have a2 := h1.n2; have a3 := h1.d1; have a4 := h1.d2
  have b1 := h2.n1; have b2 := h2.n2; have b3 := h2.d1; have b4 := h2.d2
  exact ⟨nat_mul (by omega) (by omega), nat_mul (by omega) (by omega), nat_mul (by omega) (by omega), nat_mul (by omega) (by omega), nat_mul (by omega) (by omega),
    by have := Int.mul_pos (show 0 < p by omega) (show 0 < q by omega); omega⟩

/-- Behind the boxes of two arguments and of a result. -/
theorem below3 {w w1 : World} {A B R : Obj} (hb : Below (((w.alloc A).alloc B).alloc R).heap.size (((w.alloc A).alloc B).alloc R) w1) : Below w.heap.size w w1 :=
  ((((Below.refl _ w).alloc (Nat.le_refl _) A).alloc (by simp) B).alloc (by simp; omega) R).trans (hb.mono (by simp; omega))
theorem size3 {w w1 : World} {A B R : Obj} (hb : Below (((w.alloc A).alloc B).alloc R).heap.size (((w.alloc A).alloc B).alloc R) w1) : w.heap.size < w1.heap.size ∧ w.heap.size + 1 < w1.heap.size ∧ w.heap.size + 1 + 1 < w1.heap.size := by
  have := hb.size; simp at this; omega
theorem size4 {w w1 w2 : World} (h : w.heap.size + 1 + 1 < w1.heap.size) (hb : Below w1.heap.size w1 w2) : w.heap.size < w2.heap.size ∧ w.heap.size + 1 < w2.heap.size ∧ w.heap.size + 1 + 1 < w2.heap.size := by
  have := hb.size; omega
theorem two3 {w W : World} (h : Below w.heap.size w W) (u v : Value) : Below w.heap.size w ((W.setCell ⟨w.heap.size + 1 + 1, 0, none⟩ u).setCell ⟨w.heap.size + 1 + 1, 1, none⟩ v) :=
  (h.setCell (show w.heap.size ≤ w.heap.size + 1 + 1 by omega) _).setCell (show w.heap.size ≤ w.heap.size + 1 + 1 by omega) _
end Go.Proofs.YtfocokjihbenmaaGreatDoor.Nu

namespace Go.Proofs.YtfocokjihbenmaaGreatDoor.Nu
open Go.RowKit

theorem gc_abs2 (n d : Int) : gc (n.natAbs : Int) d = gc n d := by unfold gc Int.gcd; rw [Int.natAbs_natCast]
theorem gc_abs3 (n d : Int) : gc ((-n).natAbs : Int) (-d) = gc n d := by rw [gc_abs2, gc_neg]
theorem gc_abs4 (n d : Int) : gc (n.natAbs : Int) (-d) = gc n d := by rw [gc_abs2]; unfold gc; simp
set_option maxRecDepth 100000 in
set_option maxHeartbeats 2000000 in
theorem form_any (n d : Int) (w : World) (h1 : n.natAbs ≤ 4000000000000000000) (h2 : d.natAbs ≤ 4000000000000000000) (hd : d ≠ 0) :
    Calls Tryz.prog 29 #[.int .i64 n, .int .i64 d] w fun e w' => e = .returned (.tuple #[.agg #[.int .i64 (fit n d).n, .int .i64 (fit n d).d], .int .i64 (fit n d).e]) ∧ Below w.heap.size w w' := by
  have hg := gc_pos n hd
  have hB := fitB_in (n := n) hd
  have hfp := fd_pos n hd
  have ef := fn_tdiv n d; have ed := fd_tdiv n d
  have b1 := fn_bd n d h1; have b2 := fd_bd n d h2
  have e1 : IntKind.i64.wrap (fn n d) = fn n d := IntWalk.i64_in _ (by omega)
  have e2 : IntKind.i64.wrap (fd n d) = fd n d := IntWalk.i64_in _ (by omega)
  have hg0 : (gc n d == 0) = false := by rw [beq_eq_false_iff_ne]; omega
  by_cases hs : d < 0
  · have es : sn n d = -n := by unfold sn; rw [if_pos hs]
    have es2 : sd d = -d := by unfold sd; rw [if_pos hs]
    rw [es] at ef; rw [es2] at ed
    have ed2 : (-d) / gc n d = fd n d := by unfold fd; rw [es2]
    clear es es2
    have EN := gc_abs3 n d
    have EN2 := gc_abs4 n d
    go_enter Tryz.func29, Tryz.ntmps29
    go_wp2_with fail
    refine (abs_any (-n) _ (by omega) (by omega)).mono ?_
    rintro e w' ⟨rfl, rfl⟩
    go_wp2_with fail
    refine (gcd_any _ (-d) _ (by omega) (by omega) (by omega) (by omega)).mono ?_
    rintro e w' ⟨rfl, k, rfl⟩
    go_wp2
    go_region
    go_wp2_with fail
    refine (abs_any (fn n d) _ (by omega) (by omega)).mono ?_
    rintro e w' ⟨rfl, rfl⟩
    by_cases hi1 : 1000000000 < ((fn n d).natAbs : Int)
    · have HF : Hid (fit n d = ⟨0, 0, 15⟩) := Lib.hid (by unfold fit; rw [hB, show inB (fn n d) = false by unfold inB; rw [decide_eq_false_iff_not]; omega]; rfl)
      clear hB
      go_wp2
      exact bodyPost_ret (v := .tuple #[.agg #[.int .i64 0, .int .i64 0], .int .i64 15]) (by simp [results, Tryz.results29, go_sem]) rfl ⟨by rw [HF.out], below_two (below_drewN ((Below.refl _ _).alloc (Nat.le_refl _) _) _) _ _⟩
    · have hj1 : inB (fn n d) = true := by unfold inB; rw [decide_eq_true_iff]; omega
      have hd1 : decide (1000000000 < ((fn n d).natAbs : Int)) = false := by simpa using hi1
      rw [hj1] at hB
      by_cases hi2 : 1000000000 < fd n d
      · have HF : Hid (fit n d = ⟨0, 0, 15⟩) := Lib.hid (by unfold fit; rw [hB, show inB (fd n d) = false by unfold inB; rw [decide_eq_false_iff_not]; omega]; rfl)
        clear hB
        go_wp2
        exact bodyPost_ret (v := .tuple #[.agg #[.int .i64 0, .int .i64 0], .int .i64 15]) (by simp [results, Tryz.results29, go_sem]) rfl ⟨by rw [HF.out], below_two (below_drewN ((Below.refl _ _).alloc (Nat.le_refl _) _) _) _ _⟩
      · have HF : Hid (fit n d = ⟨fn n d, fd n d, 0⟩) := Lib.hid (by unfold fit; rw [hB, show inB (fd n d) = true by unfold inB; rw [decide_eq_true_iff]; omega]; rfl)
        clear hB
        go_wp2
        exact bodyPost_ret (v := .tuple #[.agg #[.int .i64 (fn n d), .int .i64 (fd n d)], .int .i64 0]) (by simp [results, Tryz.results29, go_sem]) rfl ⟨by rw [HF.out], below_two (below_drewN ((Below.refl _ _).alloc (Nat.le_refl _) _) _) _ _⟩
  · have es : sn n d = n := by unfold sn; rw [if_neg hs]
    have es2 : sd d = d := by unfold sd; rw [if_neg hs]
    rw [es] at ef; rw [es2] at ed
    have ed2 : d / gc n d = fd n d := by unfold fd; rw [es2]
    have ef2 : n / gc n d = fn n d := by unfold fn; rw [es]
    clear es es2
    have EN := gc_abs2 n d
    go_enter Tryz.func29, Tryz.ntmps29
    go_wp2_with fail
    refine (abs_any n _ (by omega) (by omega)).mono ?_
    rintro e w' ⟨rfl, rfl⟩
    go_wp2_with fail
    refine (gcd_any _ d _ (by omega) (by omega) (by omega) (by omega)).mono ?_
    rintro e w' ⟨rfl, k, rfl⟩
    go_wp2
    go_region
    go_wp2_with fail
    refine (abs_any (fn n d) _ (by omega) (by omega)).mono ?_
    rintro e w' ⟨rfl, rfl⟩
    by_cases hi1 : 1000000000 < ((fn n d).natAbs : Int)
    · have HF : Hid (fit n d = ⟨0, 0, 15⟩) := Lib.hid (by unfold fit; rw [hB, show inB (fn n d) = false by unfold inB; rw [decide_eq_false_iff_not]; omega]; rfl)
      clear hB
      go_wp2
      exact bodyPost_ret (v := .tuple #[.agg #[.int .i64 0, .int .i64 0], .int .i64 15]) (by simp [results, Tryz.results29, go_sem]) rfl ⟨by rw [HF.out], below_two (below_drewN ((Below.refl _ _).alloc (Nat.le_refl _) _) _) _ _⟩
    · have hj1 : inB (fn n d) = true := by unfold inB; rw [decide_eq_true_iff]; omega
      have hd1 : decide (1000000000 < ((fn n d).natAbs : Int)) = false := by simpa using hi1
      rw [hj1] at hB
      by_cases hi2 : 1000000000 < fd n d
      · have HF : Hid (fit n d = ⟨0, 0, 15⟩) := Lib.hid (by unfold fit; rw [hB, show inB (fd n d) = false by unfold inB; rw [decide_eq_false_iff_not]; omega]; rfl)
        clear hB
        go_wp2
        exact bodyPost_ret (v := .tuple #[.agg #[.int .i64 0, .int .i64 0], .int .i64 15]) (by simp [results, Tryz.results29, go_sem]) rfl ⟨by rw [HF.out], below_two (below_drewN ((Below.refl _ _).alloc (Nat.le_refl _) _) _) _ _⟩
      · have HF : Hid (fit n d = ⟨fn n d, fd n d, 0⟩) := Lib.hid (by unfold fit; rw [hB, show inB (fd n d) = true by unfold inB; rw [decide_eq_true_iff]; omega]; rfl)
        clear hB
        go_wp2
        exact bodyPost_ret (v := .tuple #[.agg #[.int .i64 (fn n d), .int .i64 (fd n d)], .int .i64 0]) (by simp [results, Tryz.results29, go_sem]) rfl ⟨by rw [HF.out], below_two (below_drewN ((Below.refl _ _).alloc (Nat.le_refl _) _) _) _ _⟩
end Go.Proofs.YtfocokjihbenmaaGreatDoor.Nu

namespace Go.Proofs.YtfocokjihbenmaaGreatDoor.Nu
open Go.RowKit

set_option maxRecDepth 100000 in
set_option maxHeartbeats 1000000 in
theorem Add_any (a p b q : Int) (w : World) :
    Calls Tryz.prog 66 #[.agg #[.int .i64 a, .int .i64 p], .agg #[.int .i64 b, .int .i64 q]] w fun e w' => e = .returned (.tuple #[.agg #[.int .i64 (add a p b q).n, .int .i64 (add a p b q).d], .int .i64 (add a p b q).e]) ∧ Below w.heap.size w w' := by
  cases h1 : okB a p
  · have HA : Hid (add a p b q = ⟨0, 0, 7⟩) := Lib.hid (by unfold add; rw [h1]; rfl)
    have V1 := Lib.hid h1; clear h1
    go_enter Tryz.func66, Tryz.ntmps66
    go_wp2_with fail
    refine (Valid_no V1.out _).mono ?_
    rintro e w1 ⟨rfl, hb⟩
    obtain ⟨hc, hf⟩ := bcell hb
    have HB := Lib.hid (below3 hb)
    go_wp2
    exact bodyPost_ret (v := .tuple #[.agg #[.int .i64 0, .int .i64 0], .int .i64 7]) (by simp [results, Tryz.results66, go_sem, hc]) rfl ⟨by rw [HA.out], two3 HB.out _ _⟩
  · cases h2 : okB b q
    · have HA : Hid (add a p b q = ⟨0, 0, 7⟩) := Lib.hid (by unfold add; rw [h1, h2]; rfl)
      have V1 := Lib.hid h1; clear h1
      have V2 := Lib.hid h2; clear h2
      go_enter Tryz.func66, Tryz.ntmps66
      go_wp2_with fail
      refine (Valid_yes V1.out _).mono ?_
      rintro e w1 ⟨rfl, hb⟩
      obtain ⟨hc, hf⟩ := bcell hb
      obtain ⟨z0, z1, z2⟩ := size3 hb
      have HB := Lib.hid (below3 hb)
      go_wp2_with fail
      refine (Valid_no V2.out _).mono ?_
      rintro e w2 ⟨rfl, hb2⟩
      obtain ⟨hc2, hf2⟩ := bcell hb2
      have HB2 := Lib.hid (HB.out.trans (hb2.mono HB.out.size))
      go_wp2
      exact bodyPost_ret (v := .tuple #[.agg #[.int .i64 0, .int .i64 0], .int .i64 7]) (by simp [results, Tryz.results66, go_sem, hc, hc2, z2]) rfl ⟨by rw [HA.out], two3 HB2.out _ _⟩
    · have hP := pr_of h1 h2
      have HA : Hid (add a p b q = fit (a * q + b * p) (p * q)) := Lib.hid (by unfold add; rw [h1, h2]; rfl)
      have q1 := hP.aq; have q2 := hP.bp; have q3 := hP.pq; have q4 := hP.ab; have q5 := hP.pq1
      have V1 := Lib.hid h1; clear h1
      have V2 := Lib.hid h2; clear h2
      have e0 : IntKind.i64.wrap (a * q) = a * q := IntWalk.i64_in _ (by omega)
      have e1 : IntKind.i64.wrap (b * p) = b * p := IntWalk.i64_in _ (by omega)
      have e2 : IntKind.i64.wrap (a * q + b * p) = a * q + b * p := IntWalk.i64_in _ (by omega)
      have e3 : IntKind.i64.wrap (p * q) = p * q := IntWalk.i64_in _ (by omega)
      go_enter Tryz.func66, Tryz.ntmps66
      go_wp2_with fail
      refine (Valid_yes V1.out _).mono ?_
      rintro e w1 ⟨rfl, hb⟩
      obtain ⟨hc, hf⟩ := bcell hb
      obtain ⟨z0, z1, z2⟩ := size3 hb
      have HB := Lib.hid (below3 hb)
      go_wp2_with fail
      refine (Valid_yes V2.out _).mono ?_
      rintro e w2 ⟨rfl, hb2⟩
      obtain ⟨hc2, hf2⟩ := bcell hb2
      obtain ⟨y0, y1, y2⟩ := size4 z2 hb2
      have HB2 := Lib.hid (HB.out.trans (hb2.mono HB.out.size))
      go_wp2_with fail
      refine (fit_any (a * q + b * p) (p * q) _ (by omega) (by omega) (by omega)).mono ?_
      rintro e w3 ⟨rfl, hb3⟩
      obtain ⟨hc3, hf3⟩ := bcell hb3
      have HB3 := Lib.hid (HB2.out.trans (hb3.mono HB2.out.size))
      go_wp2
      exact bodyPost_ret (v := .tuple #[.agg #[.int .i64 (fit (a * q + b * p) (p * q)).n, .int .i64 (fit (a * q + b * p) (p * q)).d], .int .i64 (fit (a * q + b * p) (p * q)).e]) (by simp [results, Tryz.results66, go_sem, hc, hc2, hc3, z2, y2]) rfl ⟨by rw [HA.out], two3 HB3.out _ _⟩

set_option maxRecDepth 100000 in
set_option maxHeartbeats 1000000 in
theorem Mul_any (a p b q : Int) (w : World) :
    Calls Tryz.prog 67 #[.agg #[.int .i64 a, .int .i64 p], .agg #[.int .i64 b, .int .i64 q]] w fun e w' => e = .returned (.tuple #[.agg #[.int .i64 (mul a p b q).n, .int .i64 (mul a p b q).d], .int .i64 (mul a p b q).e]) ∧ Below w.heap.size w w' := by
  cases h1 : okB a p
  · have HA : Hid (mul a p b q = ⟨0, 0, 7⟩) := Lib.hid (by unfold mul; rw [h1]; rfl)
    have V1 := Lib.hid h1; clear h1
    go_enter Tryz.func67, Tryz.ntmps67
    go_wp2_with fail
    refine (Valid_no V1.out _).mono ?_
    rintro e w1 ⟨rfl, hb⟩
    obtain ⟨hc, hf⟩ := bcell hb
    have HB := Lib.hid (below3 hb)
    go_wp2
    exact bodyPost_ret (v := .tuple #[.agg #[.int .i64 0, .int .i64 0], .int .i64 7]) (by simp [results, Tryz.results67, go_sem, hc]) rfl ⟨by rw [HA.out], two3 HB.out _ _⟩
  · cases h2 : okB b q
    · have HA : Hid (mul a p b q = ⟨0, 0, 7⟩) := Lib.hid (by unfold mul; rw [h1, h2]; rfl)
      have V1 := Lib.hid h1; clear h1
      have V2 := Lib.hid h2; clear h2
      go_enter Tryz.func67, Tryz.ntmps67
      go_wp2_with fail
      refine (Valid_yes V1.out _).mono ?_
      rintro e w1 ⟨rfl, hb⟩
      obtain ⟨hc, hf⟩ := bcell hb
      obtain ⟨z0, z1, z2⟩ := size3 hb
      have HB := Lib.hid (below3 hb)
      go_wp2_with fail
      refine (Valid_no V2.out _).mono ?_
      rintro e w2 ⟨rfl, hb2⟩
      obtain ⟨hc2, hf2⟩ := bcell hb2
      have HB2 := Lib.hid (HB.out.trans (hb2.mono HB.out.size))
      go_wp2
      exact bodyPost_ret (v := .tuple #[.agg #[.int .i64 0, .int .i64 0], .int .i64 7]) (by simp [results, Tryz.results67, go_sem, hc, hc2, z2]) rfl ⟨by rw [HA.out], two3 HB2.out _ _⟩
    · have hP := pr_of h1 h2
      have HA : Hid (mul a p b q = fit (a * b) (p * q)) := Lib.hid (by unfold mul; rw [h1, h2]; rfl)
      have q1 := hP.aq; have q2 := hP.bp; have q3 := hP.pq; have q4 := hP.ab; have q5 := hP.pq1
      have V1 := Lib.hid h1; clear h1
      have V2 := Lib.hid h2; clear h2
      have e0 : IntKind.i64.wrap (a * b) = a * b := IntWalk.i64_in _ (by omega)
      have e1 : IntKind.i64.wrap (p * q) = p * q := IntWalk.i64_in _ (by omega)
      go_enter Tryz.func67, Tryz.ntmps67
      go_wp2_with fail
      refine (Valid_yes V1.out _).mono ?_
      rintro e w1 ⟨rfl, hb⟩
      obtain ⟨hc, hf⟩ := bcell hb
      obtain ⟨z0, z1, z2⟩ := size3 hb
      have HB := Lib.hid (below3 hb)
      go_wp2_with fail
      refine (Valid_yes V2.out _).mono ?_
      rintro e w2 ⟨rfl, hb2⟩
      obtain ⟨hc2, hf2⟩ := bcell hb2
      obtain ⟨y0, y1, y2⟩ := size4 z2 hb2
      have HB2 := Lib.hid (HB.out.trans (hb2.mono HB.out.size))
      go_wp2_with fail
      refine (fit_any (a * b) (p * q) _ (by omega) (by omega) (by omega)).mono ?_
      rintro e w3 ⟨rfl, hb3⟩
      obtain ⟨hc3, hf3⟩ := bcell hb3
      have HB3 := Lib.hid (HB2.out.trans (hb3.mono HB2.out.size))
      go_wp2
      exact bodyPost_ret (v := .tuple #[.agg #[.int .i64 (fit (a * b) (p * q)).n, .int .i64 (fit (a * b) (p * q)).d], .int .i64 (fit (a * b) (p * q)).e]) (by simp [results, Tryz.results67, go_sem, hc, hc2, hc3, z2, y2]) rfl ⟨by rw [HA.out], two3 HB3.out _ _⟩
end Go.Proofs.YtfocokjihbenmaaGreatDoor.Nu

namespace Go.Proofs.YtfocokjihbenmaaGreatDoor.Nu
open Go.RowKit

set_option maxRecDepth 100000 in
set_option maxHeartbeats 1000000 in
theorem RAdd_any (a p b q : Int) (w : World) :
    Calls Tryz.prog 13 #[.agg #[.int .i64 a, .int .i64 p], .agg #[.int .i64 b, .int .i64 q]] w fun e w' => e = .returned (.tuple #[.agg #[.int .i64 (add a p b q).n, .int .i64 (add a p b q).d], .int .i64 (add a p b q).e]) ∧ Below w.heap.size w w' := by
  cases h1 : okB a p
  · have HA : Hid (add a p b q = ⟨0, 0, 7⟩) := Lib.hid (by unfold add; rw [h1]; rfl)
    have V1 := Lib.hid h1; clear h1
    go_enter Tryz.func13, Tryz.ntmps13
    go_wp2_with fail
    refine (RValid_no V1.out _).mono ?_
    rintro e w1 ⟨rfl, hb⟩
    obtain ⟨hc, hf⟩ := bcell hb
    have HB := Lib.hid (below3 hb)
    go_wp2
    exact bodyPost_ret (v := .tuple #[.agg #[.int .i64 0, .int .i64 0], .int .i64 7]) (by simp [results, Tryz.results13, go_sem, hc]) rfl ⟨by rw [HA.out], two3 HB.out _ _⟩
  · cases h2 : okB b q
    · have HA : Hid (add a p b q = ⟨0, 0, 7⟩) := Lib.hid (by unfold add; rw [h1, h2]; rfl)
      have V1 := Lib.hid h1; clear h1
      have V2 := Lib.hid h2; clear h2
      go_enter Tryz.func13, Tryz.ntmps13
      go_wp2_with fail
      refine (RValid_yes V1.out _).mono ?_
      rintro e w1 ⟨rfl, hb⟩
      obtain ⟨hc, hf⟩ := bcell hb
      obtain ⟨z0, z1, z2⟩ := size3 hb
      have HB := Lib.hid (below3 hb)
      go_wp2_with fail
      refine (RValid_no V2.out _).mono ?_
      rintro e w2 ⟨rfl, hb2⟩
      obtain ⟨hc2, hf2⟩ := bcell hb2
      have HB2 := Lib.hid (HB.out.trans (hb2.mono HB.out.size))
      go_wp2
      exact bodyPost_ret (v := .tuple #[.agg #[.int .i64 0, .int .i64 0], .int .i64 7]) (by simp [results, Tryz.results13, go_sem, hc, hc2, z2]) rfl ⟨by rw [HA.out], two3 HB2.out _ _⟩
    · have hP := pr_of h1 h2
      have HA : Hid (add a p b q = fit (a * q + b * p) (p * q)) := Lib.hid (by unfold add; rw [h1, h2]; rfl)
      have q1 := hP.aq; have q2 := hP.bp; have q3 := hP.pq; have q4 := hP.ab; have q5 := hP.pq1
      have V1 := Lib.hid h1; clear h1
      have V2 := Lib.hid h2; clear h2
      have e0 : IntKind.i64.wrap (a * q) = a * q := IntWalk.i64_in _ (by omega)
      have e1 : IntKind.i64.wrap (b * p) = b * p := IntWalk.i64_in _ (by omega)
      have e2 : IntKind.i64.wrap (a * q + b * p) = a * q + b * p := IntWalk.i64_in _ (by omega)
      have e3 : IntKind.i64.wrap (p * q) = p * q := IntWalk.i64_in _ (by omega)
      go_enter Tryz.func13, Tryz.ntmps13
      go_wp2_with fail
      refine (RValid_yes V1.out _).mono ?_
      rintro e w1 ⟨rfl, hb⟩
      obtain ⟨hc, hf⟩ := bcell hb
      obtain ⟨z0, z1, z2⟩ := size3 hb
      have HB := Lib.hid (below3 hb)
      go_wp2_with fail
      refine (RValid_yes V2.out _).mono ?_
      rintro e w2 ⟨rfl, hb2⟩
      obtain ⟨hc2, hf2⟩ := bcell hb2
      obtain ⟨y0, y1, y2⟩ := size4 z2 hb2
      have HB2 := Lib.hid (HB.out.trans (hb2.mono HB.out.size))
      go_wp2_with fail
      refine (form_any (a * q + b * p) (p * q) _ (by omega) (by omega) (by omega)).mono ?_
      rintro e w3 ⟨rfl, hb3⟩
      obtain ⟨hc3, hf3⟩ := bcell hb3
      have HB3 := Lib.hid (HB2.out.trans (hb3.mono HB2.out.size))
      go_wp2
      exact bodyPost_ret (v := .tuple #[.agg #[.int .i64 (fit (a * q + b * p) (p * q)).n, .int .i64 (fit (a * q + b * p) (p * q)).d], .int .i64 (fit (a * q + b * p) (p * q)).e]) (by simp [results, Tryz.results13, go_sem, hc, hc2, hc3, z2, y2]) rfl ⟨by rw [HA.out], two3 HB3.out _ _⟩

set_option maxRecDepth 100000 in
set_option maxHeartbeats 1000000 in
theorem RSub_any (a p b q : Int) (w : World) :
    Calls Tryz.prog 14 #[.agg #[.int .i64 a, .int .i64 p], .agg #[.int .i64 b, .int .i64 q]] w fun e w' => e = .returned (.tuple #[.agg #[.int .i64 (sub a p b q).n, .int .i64 (sub a p b q).d], .int .i64 (sub a p b q).e]) ∧ Below w.heap.size w w' := by
  cases h1 : okB a p
  · have HA : Hid (sub a p b q = ⟨0, 0, 7⟩) := Lib.hid (by unfold sub; rw [h1]; rfl)
    have V1 := Lib.hid h1; clear h1
    go_enter Tryz.func14, Tryz.ntmps14
    go_wp2_with fail
    refine (RValid_no V1.out _).mono ?_
    rintro e w1 ⟨rfl, hb⟩
    obtain ⟨hc, hf⟩ := bcell hb
    have HB := Lib.hid (below3 hb)
    go_wp2
    exact bodyPost_ret (v := .tuple #[.agg #[.int .i64 0, .int .i64 0], .int .i64 7]) (by simp [results, Tryz.results14, go_sem, hc]) rfl ⟨by rw [HA.out], two3 HB.out _ _⟩
  · cases h2 : okB b q
    · have HA : Hid (sub a p b q = ⟨0, 0, 7⟩) := Lib.hid (by unfold sub; rw [h1, h2]; rfl)
      have V1 := Lib.hid h1; clear h1
      have V2 := Lib.hid h2; clear h2
      go_enter Tryz.func14, Tryz.ntmps14
      go_wp2_with fail
      refine (RValid_yes V1.out _).mono ?_
      rintro e w1 ⟨rfl, hb⟩
      obtain ⟨hc, hf⟩ := bcell hb
      obtain ⟨z0, z1, z2⟩ := size3 hb
      have HB := Lib.hid (below3 hb)
      go_wp2_with fail
      refine (RValid_no V2.out _).mono ?_
      rintro e w2 ⟨rfl, hb2⟩
      obtain ⟨hc2, hf2⟩ := bcell hb2
      have HB2 := Lib.hid (HB.out.trans (hb2.mono HB.out.size))
      go_wp2
      exact bodyPost_ret (v := .tuple #[.agg #[.int .i64 0, .int .i64 0], .int .i64 7]) (by simp [results, Tryz.results14, go_sem, hc, hc2, z2]) rfl ⟨by rw [HA.out], two3 HB2.out _ _⟩
    · have hP := pr_of h1 h2
      have HA : Hid (sub a p b q = fit (a * q - b * p) (p * q)) := Lib.hid (by unfold sub; rw [h1, h2]; rfl)
      have q1 := hP.aq; have q2 := hP.bp; have q3 := hP.pq; have q4 := hP.ab; have q5 := hP.pq1
      have V1 := Lib.hid h1; clear h1
      have V2 := Lib.hid h2; clear h2
      have e0 : IntKind.i64.wrap (a * q) = a * q := IntWalk.i64_in _ (by omega)
      have e1 : IntKind.i64.wrap (b * p) = b * p := IntWalk.i64_in _ (by omega)
      have e2 : IntKind.i64.wrap (a * q - b * p) = a * q - b * p := IntWalk.i64_in _ (by omega)
      have e3 : IntKind.i64.wrap (p * q) = p * q := IntWalk.i64_in _ (by omega)
      go_enter Tryz.func14, Tryz.ntmps14
      go_wp2_with fail
      refine (RValid_yes V1.out _).mono ?_
      rintro e w1 ⟨rfl, hb⟩
      obtain ⟨hc, hf⟩ := bcell hb
      obtain ⟨z0, z1, z2⟩ := size3 hb
      have HB := Lib.hid (below3 hb)
      go_wp2_with fail
      refine (RValid_yes V2.out _).mono ?_
      rintro e w2 ⟨rfl, hb2⟩
      obtain ⟨hc2, hf2⟩ := bcell hb2
      obtain ⟨y0, y1, y2⟩ := size4 z2 hb2
      have HB2 := Lib.hid (HB.out.trans (hb2.mono HB.out.size))
      go_wp2_with fail
      refine (form_any (a * q - b * p) (p * q) _ (by omega) (by omega) (by omega)).mono ?_
      rintro e w3 ⟨rfl, hb3⟩
      obtain ⟨hc3, hf3⟩ := bcell hb3
      have HB3 := Lib.hid (HB2.out.trans (hb3.mono HB2.out.size))
      go_wp2
      exact bodyPost_ret (v := .tuple #[.agg #[.int .i64 (fit (a * q - b * p) (p * q)).n, .int .i64 (fit (a * q - b * p) (p * q)).d], .int .i64 (fit (a * q - b * p) (p * q)).e]) (by simp [results, Tryz.results14, go_sem, hc, hc2, hc3, z2, y2]) rfl ⟨by rw [HA.out], two3 HB3.out _ _⟩

set_option maxRecDepth 100000 in
set_option maxHeartbeats 1000000 in
theorem RMul_any (a p b q : Int) (w : World) :
    Calls Tryz.prog 15 #[.agg #[.int .i64 a, .int .i64 p], .agg #[.int .i64 b, .int .i64 q]] w fun e w' => e = .returned (.tuple #[.agg #[.int .i64 (mul a p b q).n, .int .i64 (mul a p b q).d], .int .i64 (mul a p b q).e]) ∧ Below w.heap.size w w' := by
  cases h1 : okB a p
  · have HA : Hid (mul a p b q = ⟨0, 0, 7⟩) := Lib.hid (by unfold mul; rw [h1]; rfl)
    have V1 := Lib.hid h1; clear h1
    go_enter Tryz.func15, Tryz.ntmps15
    go_wp2_with fail
    refine (RValid_no V1.out _).mono ?_
    rintro e w1 ⟨rfl, hb⟩
    obtain ⟨hc, hf⟩ := bcell hb
    have HB := Lib.hid (below3 hb)
    go_wp2
    exact bodyPost_ret (v := .tuple #[.agg #[.int .i64 0, .int .i64 0], .int .i64 7]) (by simp [results, Tryz.results15, go_sem, hc]) rfl ⟨by rw [HA.out], two3 HB.out _ _⟩
  · cases h2 : okB b q
    · have HA : Hid (mul a p b q = ⟨0, 0, 7⟩) := Lib.hid (by unfold mul; rw [h1, h2]; rfl)
      have V1 := Lib.hid h1; clear h1
      have V2 := Lib.hid h2; clear h2
      go_enter Tryz.func15, Tryz.ntmps15
      go_wp2_with fail
      refine (RValid_yes V1.out _).mono ?_
      rintro e w1 ⟨rfl, hb⟩
      obtain ⟨hc, hf⟩ := bcell hb
      obtain ⟨z0, z1, z2⟩ := size3 hb
      have HB := Lib.hid (below3 hb)
      go_wp2_with fail
      refine (RValid_no V2.out _).mono ?_
      rintro e w2 ⟨rfl, hb2⟩
      obtain ⟨hc2, hf2⟩ := bcell hb2
      have HB2 := Lib.hid (HB.out.trans (hb2.mono HB.out.size))
      go_wp2
      exact bodyPost_ret (v := .tuple #[.agg #[.int .i64 0, .int .i64 0], .int .i64 7]) (by simp [results, Tryz.results15, go_sem, hc, hc2, z2]) rfl ⟨by rw [HA.out], two3 HB2.out _ _⟩
    · have hP := pr_of h1 h2
      have HA : Hid (mul a p b q = fit (a * b) (p * q)) := Lib.hid (by unfold mul; rw [h1, h2]; rfl)
      have q1 := hP.aq; have q2 := hP.bp; have q3 := hP.pq; have q4 := hP.ab; have q5 := hP.pq1
      have V1 := Lib.hid h1; clear h1
      have V2 := Lib.hid h2; clear h2
      have e0 : IntKind.i64.wrap (a * b) = a * b := IntWalk.i64_in _ (by omega)
      have e1 : IntKind.i64.wrap (p * q) = p * q := IntWalk.i64_in _ (by omega)
      go_enter Tryz.func15, Tryz.ntmps15
      go_wp2_with fail
      refine (RValid_yes V1.out _).mono ?_
      rintro e w1 ⟨rfl, hb⟩
      obtain ⟨hc, hf⟩ := bcell hb
      obtain ⟨z0, z1, z2⟩ := size3 hb
      have HB := Lib.hid (below3 hb)
      go_wp2_with fail
      refine (RValid_yes V2.out _).mono ?_
      rintro e w2 ⟨rfl, hb2⟩
      obtain ⟨hc2, hf2⟩ := bcell hb2
      obtain ⟨y0, y1, y2⟩ := size4 z2 hb2
      have HB2 := Lib.hid (HB.out.trans (hb2.mono HB.out.size))
      go_wp2_with fail
      refine (form_any (a * b) (p * q) _ (by omega) (by omega) (by omega)).mono ?_
      rintro e w3 ⟨rfl, hb3⟩
      obtain ⟨hc3, hf3⟩ := bcell hb3
      have HB3 := Lib.hid (HB2.out.trans (hb3.mono HB2.out.size))
      go_wp2
      exact bodyPost_ret (v := .tuple #[.agg #[.int .i64 (fit (a * b) (p * q)).n, .int .i64 (fit (a * b) (p * q)).d], .int .i64 (fit (a * b) (p * q)).e]) (by simp [results, Tryz.results15, go_sem, hc, hc2, hc3, z2, y2]) rfl ⟨by rw [HA.out], two3 HB3.out _ _⟩
end Go.Proofs.YtfocokjihbenmaaGreatDoor.Nu

namespace Go.Proofs.YtfocokjihbenmaaGreatDoor.Nu
open Go.RowKit

def I64 (x : Int) : Prop := -9223372036854775808 ≤ x ∧ x ≤ 9223372036854775807
theorem okB_neg (b q : Int) : okB (-b) q = okB b q := by
  unfold okB; rw [Bool.eq_iff_iff]; simp; omega
theorem add_neg (a p b q : Int) : add a p (-b) q = sub a p b q := by
  unfold add sub; rw [okB_neg, Int.neg_mul, ← Int.sub_eq_add_neg]
theorem okB_least (q : Int) : okB (-9223372036854775808) q = false := by
  unfold okB; rw [decide_eq_false_iff_not]; omega
theorem neg_least : IntKind.i64.wrap (- (-9223372036854775808)) = -9223372036854775808 := by decide
theorem add_least (a p q : Int) : add a p (-9223372036854775808) q = sub a p (-9223372036854775808) q := by
  unfold add sub; rw [okB_least]; simp
/-- The number of which the program takes the sum. -/
def ng (b : Int) : Int := IntKind.i64.wrap (-b)
theorem add_ng (a p b q : Int) (h : I64 b) : add a p (ng b) q = sub a p b q := by
  unfold ng
  by_cases hb : b = -9223372036854775808
  · subst hb; rw [neg_least, add_least]
  · unfold I64 at h
    rw [IntWalk.i64_in _ (by omega), add_neg]
set_option maxRecDepth 100000 in
set_option maxHeartbeats 1000000 in
theorem Sub_any (a p b q : Int) (w : World) (h : I64 b) :
    Calls Tryz.prog 61 #[.agg #[.int .i64 a, .int .i64 p], .agg #[.int .i64 b, .int .i64 q]] w fun e w' => e = .returned (.tuple #[.agg #[.int .i64 (sub a p b q).n, .int .i64 (sub a p b q).d], .int .i64 (sub a p b q).e]) ∧ Below w.heap.size w w' := by
  have HA := Lib.hid (add_ng a p b q h); clear h
  have e1 : IntKind.i64.wrap (-b) = ng b := rfl
  have HX := Lib.hid e1
  go_enter Tryz.func61, Tryz.ntmps61
  go_wp2_with fail
  refine (Add_any a p (ng b) q _).mono ?_
  rintro e w1 ⟨rfl, hb⟩
  obtain ⟨hc, hf⟩ := bcell hb
  obtain ⟨z0, z1, z2⟩ := size3 hb
  have HB := Lib.hid (below3 hb)
  go_wp2
  exact bodyPost_ret (v := .tuple #[.agg #[.int .i64 (add a p (ng b) q).n, .int .i64 (add a p (ng b) q).d], .int .i64 (add a p (ng b) q).e]) (by simp [results, Tryz.results61, go_sem, hc]) rfl ⟨by rw [HA.out], two3 HB.out _ _⟩

/-- The first error of a division that does not depend on the result. -/
def chk (a p b q : Int) : Int := if okB a p && okB b q then (if b = 0 then 16 else 0) else 7
theorem below2 {w w1 : World} {A B : Obj} (hb : Below ((w.alloc A).alloc B).heap.size ((w.alloc A).alloc B) w1) : Below w.heap.size w w1 :=
  (((Below.refl _ w).alloc (Nat.le_refl _) A).alloc (by simp) B).trans (hb.mono (by simp; omega))
theorem size2 {w w1 : World} {A B : Obj} (hb : Below ((w.alloc A).alloc B).heap.size ((w.alloc A).alloc B) w1) : w.heap.size < w1.heap.size ∧ w.heap.size + 1 < w1.heap.size := by
  have := hb.size; simp at this; omega
theorem size2b {w w1 w2 : World} (h : w.heap.size + 1 < w1.heap.size) (hb : Below w1.heap.size w1 w2) : w.heap.size < w2.heap.size ∧ w.heap.size + 1 < w2.heap.size := by
  have := hb.size; omega
set_option maxRecDepth 100000 in
set_option maxHeartbeats 1000000 in
theorem chk_any (a p b q : Int) (w : World) :
    Calls Tryz.prog 102 #[.agg #[.int .i64 a, .int .i64 p], .agg #[.int .i64 b, .int .i64 q]] w fun e w' => e = .returned (.int .i64 (chk a p b q)) ∧ Below w.heap.size w w' := by
  cases h1 : okB a p
  · have HA : Hid (chk a p b q = 7) := Lib.hid (by unfold chk; rw [h1]; rfl)
    have V1 := Lib.hid h1; clear h1
    go_enter Tryz.func102, Tryz.ntmps102
    go_wp2_with fail
    refine (Valid_no V1.out _).mono ?_
    rintro e w1 ⟨rfl, hb⟩
    obtain ⟨hc, hf⟩ := bcell hb
    go_wp2
    go_ret
    exact ⟨ret_int (by rw [HA.out]), below2 hb⟩
  · cases h2 : okB b q
    · have HA : Hid (chk a p b q = 7) := Lib.hid (by unfold chk; rw [h1, h2]; rfl)
      have V1 := Lib.hid h1; clear h1
      have V2 := Lib.hid h2; clear h2
      go_enter Tryz.func102, Tryz.ntmps102
      go_wp2_with fail
      refine (Valid_yes V1.out _).mono ?_
      rintro e w1 ⟨rfl, hb⟩
      obtain ⟨hc, hf⟩ := bcell hb
      obtain ⟨z0, z1⟩ := size2 hb
      have HB := Lib.hid (below2 hb)
      go_wp2_with fail
      refine (Valid_no V2.out _).mono ?_
      rintro e w2 ⟨rfl, hb2⟩
      go_wp2
      go_ret
      exact ⟨ret_int (by rw [HA.out]), HB.out.trans (hb2.mono HB.out.size)⟩
    · by_cases hz : b = 0
      · subst hz
        have HA : Hid (chk a p 0 q = 16) := Lib.hid (by unfold chk; rw [h1, h2]; rfl)
        have V1 := Lib.hid h1; clear h1
        have V2 := Lib.hid h2; clear h2
        go_enter Tryz.func102, Tryz.ntmps102
        go_wp2_with fail
        refine (Valid_yes V1.out _).mono ?_
        rintro e w1 ⟨rfl, hb⟩
        obtain ⟨hc, hf⟩ := bcell hb
        obtain ⟨z0, z1⟩ := size2 hb
        have HB := Lib.hid (below2 hb)
        go_wp2_with fail
        refine (Valid_yes V2.out _).mono ?_
        rintro e w2 ⟨rfl, hb2⟩
        obtain ⟨hc2, hf2⟩ := bcell hb2
        go_wp2
        go_ret
        exact ⟨ret_int (by rw [HA.out]), HB.out.trans (hb2.mono HB.out.size)⟩
      · have HA : Hid (chk a p b q = 0) := Lib.hid (by unfold chk; rw [h1, h2]; simp [hz])
        have hz0 : (b == 0) = false := by simpa using hz
        have V1 := Lib.hid h1; clear h1
        have V2 := Lib.hid h2; clear h2
        have HZ := Lib.hid hz; clear hz
        go_enter Tryz.func102, Tryz.ntmps102
        go_wp2_with fail
        refine (Valid_yes V1.out _).mono ?_
        rintro e w1 ⟨rfl, hb⟩
        obtain ⟨hc, hf⟩ := bcell hb
        obtain ⟨z0, z1⟩ := size2 hb
        have HB := Lib.hid (below2 hb)
        go_wp2_with fail
        refine (Valid_yes V2.out _).mono ?_
        rintro e w2 ⟨rfl, hb2⟩
        obtain ⟨hc2, hf2⟩ := bcell hb2
        go_wp2
        go_ret
        exact ⟨ret_int (by rw [HA.out]), HB.out.trans (hb2.mono HB.out.size)⟩

set_option maxRecDepth 100000 in
set_option maxHeartbeats 1000000 in
theorem Div_any (a p b q : Int) (w : World) :
    Calls Tryz.prog 68 #[.agg #[.int .i64 a, .int .i64 p], .agg #[.int .i64 b, .int .i64 q]] w fun e w' => e = .returned (.tuple #[.agg #[.int .i64 (div a p b q).n, .int .i64 (div a p b q).d], .int .i64 (div a p b q).e]) ∧ Below w.heap.size w w' := by
  by_cases hk : chk a p b q = 0
  · have h12 : okB a p = true ∧ okB b q = true ∧ b ≠ 0 := by
      unfold chk at hk; cases h1 : okB a p <;> cases h2 : okB b q <;> simp [h1, h2] at hk ⊢
      intro hb; simp [hb] at hk
    obtain ⟨h1, h2, hz⟩ := h12
    have hP := pr_of h1 h2
    have HA : Hid (div a p b q = fit (a * q) (p * b)) := Lib.hid (by unfold div; rw [h1, h2]; simp [hz])
    have q1 := hP.aq; have q2 := hP.pb
    have hne : p * b ≠ 0 := ne_mul (okB_iff.1 h1).ne hz
    have e0 : IntKind.i64.wrap (a * q) = a * q := IntWalk.i64_in _ (by omega)
    have e1 : IntKind.i64.wrap (p * b) = p * b := IntWalk.i64_in _ (by omega)
    have HN := Lib.hid hne
    clear h1 h2 hz hP hne
    go_enter Tryz.func68, Tryz.ntmps68
    go_wp2_with fail
    refine (chk_any a p b q _).mono ?_
    rintro e w1 ⟨rfl, hb⟩
    obtain ⟨hc, hf⟩ := bcell hb
    obtain ⟨z0, z1, z2⟩ := size3 hb
    have HB := Lib.hid (below3 hb)
    go_wp2_with fail
    refine (fit_any (a * q) (p * b) _ (by omega) (by omega) HN.out).mono ?_
    rintro e w3 ⟨rfl, hb3⟩
    obtain ⟨hc3, hf3⟩ := bcell hb3
    have HB3 := Lib.hid (HB.out.trans (hb3.mono HB.out.size))
    go_wp2
    exact bodyPost_ret (v := .tuple #[.agg #[.int .i64 (fit (a * q) (p * b)).n, .int .i64 (fit (a * q) (p * b)).d], .int .i64 (fit (a * q) (p * b)).e]) (by simp [results, Tryz.results68, go_sem, hc, hc3, z2]) rfl ⟨by rw [HA.out], two3 HB3.out _ _⟩
  · have HA : Hid (div a p b q = ⟨0, 0, chk a p b q⟩) := Lib.hid (by
      unfold chk at hk; unfold div chk; cases h1 : okB a p <;> cases h2 : okB b q <;> simp [h1, h2] at hk ⊢
      simp [hk])
    have hk1 : (chk a p b q != 0) = true := by rw [bne_iff_ne]; exact hk
    have HK := Lib.hid hk; clear hk
    go_enter Tryz.func68, Tryz.ntmps68
    go_wp2_with fail
    refine (chk_any a p b q _).mono ?_
    rintro e w1 ⟨rfl, hb⟩
    obtain ⟨hc, hf⟩ := bcell hb
    obtain ⟨z0, z1, z2⟩ := size3 hb
    have HB := Lib.hid (below3 hb)
    go_wp2
    exact bodyPost_ret (v := .tuple #[.agg #[.int .i64 0, .int .i64 0], .int .i64 (chk a p b q)]) (by simp [results, Tryz.results68, go_sem, hc]) rfl ⟨by rw [HA.out], two3 HB.out _ _⟩
end Go.Proofs.YtfocokjihbenmaaGreatDoor.Nu

namespace Go.Proofs.YtfocokjihbenmaaGreatDoor.Nu
open Go.RowKit

theorem cmp_lib {a p b q : Int} (h1 : okB a p = true) (h2 : okB b q = true) : Lib.compareInt (a * q) (b * p) = cmp a p b q := by
  unfold Lib.compareInt cmp; rw [h1, h2]; simp

set_option maxRecDepth 100000 in
set_option maxHeartbeats 1000000 in
theorem Compare_any (a p b q : Int) (w : World) :
    Calls Tryz.prog 73 #[.agg #[.int .i64 a, .int .i64 p], .agg #[.int .i64 b, .int .i64 q]] w fun e w' => e = .returned (.int .i64 (cmp a p b q)) ∧ Below w.heap.size w w' := by
  cases h1 : okB a p
  · have HA : Hid (cmp a p b q = 0) := Lib.hid (by unfold cmp; rw [h1]; rfl)
    have V1 := Lib.hid h1; clear h1
    go_enter Tryz.func73, Tryz.ntmps73
    go_wp2_with fail
    refine (Valid_no V1.out _).mono ?_
    rintro e w1 ⟨rfl, hb⟩
    go_wp2
    go_ret
    exact ⟨ret_int (by rw [HA.out]), below2 hb⟩
  · cases h2 : okB b q
    · have HA : Hid (cmp a p b q = 0) := Lib.hid (by unfold cmp; rw [h1, h2]; rfl)
      have V1 := Lib.hid h1; clear h1
      have V2 := Lib.hid h2; clear h2
      go_enter Tryz.func73, Tryz.ntmps73
      go_wp2_with fail
      refine (Valid_yes V1.out _).mono ?_
      rintro e w1 ⟨rfl, hb⟩
      obtain ⟨hc, hf⟩ := bcell hb
      obtain ⟨z0, z1⟩ := size2 hb
      have HB := Lib.hid (below2 hb)
      go_wp2_with fail
      refine (Valid_no V2.out _).mono ?_
      rintro e w2 ⟨rfl, hb2⟩
      go_wp2
      go_ret
      exact ⟨ret_int (by rw [HA.out]), HB.out.trans (hb2.mono HB.out.size)⟩
    · have hP := pr_of h1 h2
      have HL := Lib.hid (cmp_lib h1 h2)
      have q1 := hP.aq; have q2 := hP.bp
      have e0 : IntKind.i64.wrap (a * q) = a * q := IntWalk.i64_in _ (by omega)
      have e1 : IntKind.i64.wrap (b * p) = b * p := IntWalk.i64_in _ (by omega)
      have V1 := Lib.hid h1; clear h1
      have V2 := Lib.hid h2; clear h2 hP
      go_enter Tryz.func73, Tryz.ntmps73
      go_wp2_with fail
      refine (Valid_yes V1.out _).mono ?_
      rintro e w1 ⟨rfl, hb⟩
      obtain ⟨hc, hf⟩ := bcell hb
      obtain ⟨z0, z1⟩ := size2 hb
      have HB := Lib.hid (below2 hb)
      go_wp2_with fail
      refine (Valid_yes V2.out _).mono ?_
      rintro e w2 ⟨rfl, hb2⟩
      obtain ⟨hc2, hf2⟩ := bcell hb2
      obtain ⟨y0, y1⟩ := size2b z1 hb2
      have HB2 := Lib.hid (HB.out.trans (hb2.mono HB.out.size))
      go_wp2_with fail
      refine (Tryz.cmp_Compare_int _ _ _).mono ?_
      rintro e w3 ⟨rfl, hw3⟩
      go_wp2
      go_ret
      exact ⟨ret_int HL.out, by first | exact HB2.out | (rw [hw3]; exact HB2.out)⟩

set_option maxRecDepth 100000 in
set_option maxHeartbeats 1000000 in
theorem RCompare_any (a p b q : Int) (w : World) :
    Calls Tryz.prog 12 #[.agg #[.int .i64 a, .int .i64 p], .agg #[.int .i64 b, .int .i64 q]] w fun e w' => e = .returned (.int .i64 (cmp a p b q)) ∧ Below w.heap.size w w' := by
  cases h1 : okB a p
  · have HA : Hid (cmp a p b q = 0) := Lib.hid (by unfold cmp; rw [h1]; rfl)
    have V1 := Lib.hid h1; clear h1
    go_enter Tryz.func12, Tryz.ntmps12
    go_wp2_with fail
    refine (RValid_no V1.out _).mono ?_
    rintro e w1 ⟨rfl, hb⟩
    go_wp2
    go_ret
    exact ⟨ret_int (by rw [HA.out]), below2 hb⟩
  · cases h2 : okB b q
    · have HA : Hid (cmp a p b q = 0) := Lib.hid (by unfold cmp; rw [h1, h2]; rfl)
      have V1 := Lib.hid h1; clear h1
      have V2 := Lib.hid h2; clear h2
      go_enter Tryz.func12, Tryz.ntmps12
      go_wp2_with fail
      refine (RValid_yes V1.out _).mono ?_
      rintro e w1 ⟨rfl, hb⟩
      obtain ⟨hc, hf⟩ := bcell hb
      obtain ⟨z0, z1⟩ := size2 hb
      have HB := Lib.hid (below2 hb)
      go_wp2_with fail
      refine (RValid_no V2.out _).mono ?_
      rintro e w2 ⟨rfl, hb2⟩
      go_wp2
      go_ret
      exact ⟨ret_int (by rw [HA.out]), HB.out.trans (hb2.mono HB.out.size)⟩
    · have hP := pr_of h1 h2
      have HL := Lib.hid (cmp_lib h1 h2)
      have q1 := hP.aq; have q2 := hP.bp
      have e0 : IntKind.i64.wrap (a * q) = a * q := IntWalk.i64_in _ (by omega)
      have e1 : IntKind.i64.wrap (b * p) = b * p := IntWalk.i64_in _ (by omega)
      have V1 := Lib.hid h1; clear h1
      have V2 := Lib.hid h2; clear h2 hP
      go_enter Tryz.func12, Tryz.ntmps12
      go_wp2_with fail
      refine (RValid_yes V1.out _).mono ?_
      rintro e w1 ⟨rfl, hb⟩
      obtain ⟨hc, hf⟩ := bcell hb
      obtain ⟨z0, z1⟩ := size2 hb
      have HB := Lib.hid (below2 hb)
      go_wp2_with fail
      refine (RValid_yes V2.out _).mono ?_
      rintro e w2 ⟨rfl, hb2⟩
      obtain ⟨hc2, hf2⟩ := bcell hb2
      obtain ⟨y0, y1⟩ := size2b z1 hb2
      have HB2 := Lib.hid (HB.out.trans (hb2.mono HB.out.size))
      go_wp2
      go_region
      go_wp2
      all_goals go_ret
      all_goals exact ⟨ret_int (by rw [← HL.out]; unfold Lib.compareInt; repeat' split; all_goals (first | rfl | omega)), below_drewN HB2.out 1⟩
end Go.Proofs.YtfocokjihbenmaaGreatDoor.Nu

namespace Go.Proofs.YtfocokjihbenmaaGreatDoor.Nu
open Go.RowKit

theorem below1 {w w1 : World} {A : Obj} (hb : Below (w.alloc A).heap.size (w.alloc A) w1) : Below w.heap.size w w1 :=
  ((Below.refl _ w).alloc (Nat.le_refl _) A).trans (hb.mono (by simp))
theorem size1 {w w1 : World} {A : Obj} (hb : Below (w.alloc A).heap.size (w.alloc A) w1) : w.heap.size < w1.heap.size := by
  have := hb.size; simp at this; omega
/-- The largest integer that is at most n / d. -/
def flr (n d : Int) : Int := if okB n d then Int.fdiv n d else 0
def flE (n d : Int) : Int := if okB n d then 0 else 7
set_option maxRecDepth 100000 in
set_option maxHeartbeats 1000000 in
theorem Floor_any (n d : Int) (w : World) :
    Calls Tryz.prog 65 #[.agg #[.int .i64 n, .int .i64 d]] w fun e w' => e = .returned (.tuple #[.int .i64 (flr n d), .int .i64 (flE n d)]) ∧ Below w.heap.size w w' := by
  cases h1 : okB n d
  · have HA : Hid (flr n d = 0 ∧ flE n d = 7) := Lib.hid (by unfold flr flE; rw [h1]; exact ⟨rfl, rfl⟩)
    have V1 := Lib.hid h1; clear h1
    go_enter Tryz.func65, Tryz.ntmps65
    go_wp2_with fail
    refine (Valid_no V1.out _).mono ?_
    rintro e w1 ⟨rfl, hb⟩
    obtain ⟨hc, hf⟩ := bcell hb
    go_wp2
    go_ret2
    exact ⟨by rw [HA.out.1, HA.out.2]; rfl, below1 hb⟩
  · have HA : Hid (flr n d = Int.fdiv n d ∧ flE n d = 0) := Lib.hid (by unfold flr flE; rw [h1]; exact ⟨rfl, rfl⟩)
    have hO := okB_iff.1 h1
    have q1 := hO.n1; have q2 := hO.n2; have q3 := hO.d1
    have V1 := Lib.hid h1; clear h1 hO
    go_enter Tryz.func65, Tryz.ntmps65
    go_wp2_with fail
    refine (Valid_yes V1.out _).mono ?_
    rintro e w1 ⟨rfl, hb⟩
    obtain ⟨hc, hf⟩ := bcell hb
    have z0 := size1 hb
    have HB := Lib.hid (below1 hb)
    go_wp2_with fail
    refine (floor_any n d _ (by omega) (by omega)).mono ?_
    rintro e w2 ⟨rfl, rfl⟩
    go_wp2
    go_ret2
    exact ⟨by rw [HA.out.1, HA.out.2]; rfl, HB.out⟩
theorem flr_ref (n d : Int) (hd : d ≠ 0) : (n - Int.fmod n d).tdiv d = Int.fdiv n d := by
  have h := Int.fmod_add_mul_fdiv n d
  have e : n - Int.fmod n d = d * Int.fdiv n d := by
    generalize d * n.fdiv d = z at *
    generalize n.fmod d = y at *
    omega
  rw [e, Int.mul_tdiv_cancel_left _ hd]
theorem below_q (p q : Int) (w : World) (h1 : q.natAbs ≤ 4611686018427387904) (hq : q ≠ 0) :
    Calls Tryz.prog 30 #[.int .i64 p, .int .i64 q] w fun e w' => e = .returned (.int .i64 (Int.fmod p q)) ∧ ∃ k, w' = w.drewN k :=
  (below_any p q w h1 hq).mono fun _ _ ⟨he, hw⟩ => ⟨he, 0, hw.symm⟩
set_option maxRecDepth 100000 in
set_option maxHeartbeats 1000000 in
theorem RFloor_any (n d : Int) (w : World) :
    Calls Tryz.prog 82 #[.agg #[.int .i64 n, .int .i64 d]] w fun e w' => e = .returned (.tuple #[.int .i64 (flr n d), .int .i64 (flE n d)]) ∧ Below w.heap.size w w' := by
  cases h1 : okB n d
  · have HA : Hid (flr n d = 0 ∧ flE n d = 7) := Lib.hid (by unfold flr flE; rw [h1]; exact ⟨rfl, rfl⟩)
    have V1 := Lib.hid h1; clear h1
    go_enter Tryz.func82, Tryz.ntmps82
    go_wp2_with fail
    refine (RValid_no V1.out _).mono ?_
    rintro e w1 ⟨rfl, hb⟩
    obtain ⟨hc, hf⟩ := bcell hb
    go_wp2
    go_ret2
    exact ⟨by rw [HA.out.1, HA.out.2]; rfl, below1 hb⟩
  · have HA : Hid (flr n d = Int.fdiv n d ∧ flE n d = 0) := Lib.hid (by unfold flr flE; rw [h1]; exact ⟨rfl, rfl⟩)
    have hO := okB_iff.1 h1
    have q1 := hO.n1; have q2 := hO.n2; have q3 := hO.d1; have q4 := hO.d2
    have hm1 := Int.fmod_nonneg_of_pos n (show 0 < d by omega)
    have hm2 := Int.fmod_lt_of_pos n (show 0 < d by omega)
    have e1 : IntKind.i64.wrap (n - Int.fmod n d) = n - Int.fmod n d := IntWalk.i64_in _ (by generalize n.fmod d = y at *; omega)
    have hb0 := tdiv_bd (n - Int.fmod n d) d (B := 3000000000) (by generalize n.fmod d = y at *; omega)
    have e2 := flr_ref n d (by omega)
    rw [e2] at hb0
    have e3 : IntKind.i64.wrap (Int.fdiv n d) = Int.fdiv n d := IntWalk.i64_in _ (by generalize n.fdiv d = y at *; omega)
    have hd0 : (d == 0) = false := by rw [beq_eq_false_iff_ne]; omega
    have V1 := Lib.hid h1; clear h1 hO hm1 hm2 hb0
    go_enter Tryz.func82, Tryz.ntmps82
    go_wp2_with fail
    refine (RValid_yes V1.out _).mono ?_
    rintro e w1 ⟨rfl, hb⟩
    obtain ⟨hc, hf⟩ := bcell hb
    have z0 := size1 hb
    have HB := Lib.hid (below1 hb)
    go_wp2
    go_quiet ((go_at_call 30; exact (Calls.quiet_of (below_q n d _ (by omega) (by omega)))))
    go_wp2
    go_ret2
    exact ⟨by rw [HA.out.1, HA.out.2]; rfl, below_drewN HB.out _⟩
end Go.Proofs.YtfocokjihbenmaaGreatDoor.Nu
