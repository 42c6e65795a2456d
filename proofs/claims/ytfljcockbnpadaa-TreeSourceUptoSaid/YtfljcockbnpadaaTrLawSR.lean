/-
  The law TreeSource.
-/
import Derived.Test.YtfljcockbnpadaaTrKnown
namespace Go.Proofs.Ytfljcockbnpadaa.Tr
open Go.RowKit

set_option maxHeartbeats 4000000 in
theorem TreeSource_any (d B : Nat) (v : Value) (l : List Nd) (w : World) (h : LRd d w B v l) (hB : B ≤ w.heap.size) (_ : sz l ≤ 1048576) :
    Calls Try.prog 3 #[v] w fun e w' => e = .returned (.bool true) ∧ Below w.heap.size w w' := by
  obtain ⟨A, c, rfl⟩ := h.form
  have H0 := Lib.hid h; clear h
  go_enter Try.func3, Try.ntmps3
  go_wp2_with fail
  refine (large_any d B _ l w H0.out hB).mono ?_
  rintro e w1 ⟨rfl, hb⟩
  have B1 := Lib.hid hb; clear hb
  cases big l with
  | true =>
    go_wp2_with fail
    go_ret
    exact ⟨rfl, B1.out⟩
  | false =>
    go_wp2_with fail
    refine (Source_any d B _ l w1 (H0.out.below B1.out hB (Nat.le_refl _)) (Nat.le_trans hB B1.out.size)).mono ?_
    rintro e w2 ⟨rfl, hb⟩
    have B2 := Lib.hid (B1.out.trans (hb.mono B1.out.size)); clear hb
    obtain ⟨S, hS⟩ : ∃ S : ByteArray, (⟨(src l).toArray⟩ : ByteArray) = S := ⟨_, rfl⟩
    have hS2 : S.data.toList = src l := by rw [← hS]
    rw [hS]
    have HS := Lib.hid hS2; clear hS hS2
    go_wp2_with fail
    refine (srcs d B _ l w2 (H0.out.below B2.out hB (Nat.le_refl _)) (Nat.le_trans hB B2.out.size)).mono ?_
    rintro e w3 ⟨X, rfl, hX, hb⟩
    obtain rfl : X = S := ba_ext hX.out HS.out
    have B3 := Lib.hid (B2.out.trans (hb.mono B2.out.size)); clear hb
    go_wp2_with fail
    refine (known_any w3).mono ?_
    rintro e w4 ⟨rfl, hb⟩
    have B4 := Lib.hid (B3.out.trans (hb.mono B3.out.size)); clear hb
    go_wp2_with fail
    go_ret
    exact ⟨rfl, B4.out⟩
end Go.Proofs.Ytfljcockbnpadaa.Tr
