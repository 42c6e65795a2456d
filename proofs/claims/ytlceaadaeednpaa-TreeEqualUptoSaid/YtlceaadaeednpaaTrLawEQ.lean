/-
  The law TreeEqual.
-/
import Derived.Test.YtlceaadaeednpaaTrREq
import Derived.Test.YtlceaadaeednpaaTrApp
namespace Go.Proofs.Ytlceaadaeednpaa.Tr
open Go.RowKit

theorem requals : ∀ d, REq d
  | 0 => fun _ _ _ _ _ _ h => h.elim
  | d + 1 => REqual_step d (requals d)

set_option maxRecDepth 100000 in
set_option maxHeartbeats 8000000 in
theorem TreeEqual_0 (d : Nat) (v : Value) (l : List Nd) (v2 : Value) (m : List Nd) (w : World) (h : LRd (d + 1) w w.heap.size v l) (h2 : LRd (d + 1) w w.heap.size v2 m) :
    Calls Try.prog 3 #[v, v2] w fun e w' => e = .returned (.bool true) ∧ Below w.heap.size w w' := by
  obtain ⟨A, c, rfl⟩ := h.form
  obtain ⟨A2, c2, rfl⟩ := h2.form
  have H0 := Lib.hid (And.intro h h2); clear h h2
  go_enter Try.func3, Try.ntmps3
  go_wp2_with fail
  refine (large_any (d + 1) w.heap.size _ l w H0.out.1 (Nat.le_refl _)).mono ?_
  rintro e w1 ⟨rfl, hb⟩
  have B1 := Lib.hid hb; clear hb
  cases big l with
  | true =>
    go_wp2_with fail
    refine (known_any w1).mono ?_
    rintro e w4 ⟨rfl, hb⟩
    have B4 := Lib.hid (B1.out.trans (hb.mono B1.out.size)); clear hb
    go_wp2_with fail
    go_ret
    exact ⟨rfl, B4.out⟩
  | false =>
    go_wp2_with fail
    refine (large_any (d + 1) w.heap.size _ m w1 (H0.out.2.below B1.out (Nat.le_refl _) (Nat.le_refl _)) B1.out.size).mono ?_
    rintro e w2 ⟨rfl, hb⟩
    have B2 := Lib.hid (B1.out.trans (hb.mono B1.out.size)); clear hb
    cases big m with
    | true =>
      go_wp2_with fail
      refine (known_any w2).mono ?_
      rintro e w4 ⟨rfl, hb⟩
      have B4 := Lib.hid (B2.out.trans (hb.mono B2.out.size)); clear hb
      go_wp2_with fail
      go_ret
      exact ⟨rfl, B4.out⟩
    | false =>
      go_wp2_with fail
      refine (equals (d + 1) w.heap.size _ _ l m w2 (H0.out.1.below B2.out (Nat.le_refl _) (Nat.le_refl _)) (H0.out.2.below B2.out (Nat.le_refl _) (Nat.le_refl _)) B2.out.size).mono ?_
      rintro e w3 ⟨rfl, hb⟩
      have B3 := Lib.hid (B2.out.trans (hb.mono B2.out.size)); clear hb
      go_wp2_with fail
      refine (requals (d + 1) w.heap.size _ _ l m w3 (H0.out.1.below B3.out (Nat.le_refl _) (Nat.le_refl _)) (H0.out.2.below B3.out (Nat.le_refl _) (Nat.le_refl _)) B3.out.size).mono ?_
      rintro e w4 ⟨rfl, hb⟩
      have B4 := Lib.hid (B3.out.trans (hb.mono B3.out.size)); clear hb
      go_wp2_with fail
      refine (equals (d + 1) w.heap.size _ _ l l w4 (H0.out.1.below B4.out (Nat.le_refl _) (Nat.le_refl _)) (H0.out.1.below B4.out (Nat.le_refl _) (Nat.le_refl _)) B4.out.size).mono ?_
      rintro e w5 ⟨rfl, hb⟩
      rw [eqB_true (rfl : l = l)]
      have B5 := Lib.hid (B4.out.trans (hb.mono B4.out.size)); clear hb
      obtain ⟨A3, c3, w6, ys, hr1, hR, hb6, _, _⟩ := run_copyN 22 (H0.out.2.below B5.out (Nat.le_refl _) (Nat.le_refl _)) B5.out.size
      have B6 := Lib.hid (B5.out.trans (hb6.mono B5.out.size))
      have R6 := Lib.hid hR; clear hb6 hR
      have P1 := Lib.hid hr1; clear hr1
      go_wp2_with (at_builtin; refine wpList_app P1.out rfl _ _ rfl rfl rfl rfl ?_)
      refine (equals (d + 1) w6.heap.size _ _ m m w6 (H0.out.2.below B6.out (Nat.le_refl _) B6.out.size) R6.out (Nat.le_refl _)).mono ?_
      rintro e w7 ⟨rfl, hb⟩
      rw [eqB_true (rfl : m = m)]
      have B7 := Lib.hid (B6.out.trans (hb.mono B6.out.size)); clear hb
      go_wp2_with fail
      refine (known_any w7).mono ?_
      rintro e w8 ⟨rfl, hb⟩
      have B8 := Lib.hid (B7.out.trans (hb.mono B7.out.size)); clear hb
      go_wp2_with fail
      go_ret
      exact ⟨rfl, B8.out⟩
theorem TreeEqual_any (d B : Nat) (v : Value) (l : List Nd) (d2 B2 : Nat) (v2 : Value) (m : List Nd) (w : World) (h : LRd d w B v l) (h2 : LRd d2 w B2 v2 m) (hB : B ≤ w.heap.size) (hB2 : B2 ≤ w.heap.size) (_ : sz l ≤ 1048576) (_ : sz m ≤ 1048576) :
    Calls Try.prog 3 #[v, v2] w fun e w' => e = .returned (.bool true) ∧ Below w.heap.size w w' :=
  TreeEqual_0 (max d d2) v l v2 m w ((h.more hB).deep (by omega)) ((h2.more hB2).deep (by omega))
end Go.Proofs.Ytlceaadaeednpaa.Tr
