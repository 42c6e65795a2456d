/-
  The law TreeJoin.
-/
import Derived.Test.YtlceaadaeednpaaTrRL
import Derived.Test.YtlceaadaeednpaaTrKnown
namespace Go.Proofs.Ytlceaadaeednpaa.Tr
open Go.RowKit

theorem joins : ∀ d, JnL 9 d
  | 0 => fun _ _ _ _ h => h.elim
  | d + 1 => Join_step d (joinBelow_step d (joins d))
theorem rjoins : ∀ d, JnL 10 d
  | 0 => fun _ _ _ _ h => h.elim
  | d + 1 => RJoin_step d (rjoins d)
theorem In.rd {d a : Nat} {w : World} {v : Value} {l : List Nd} (h : LRx d w (In a w) v l) : LRd d w w.heap.size v l := h.rd fun _ hg => hg.2.1
set_option maxRecDepth 100000 in
set_option maxHeartbeats 8000000 in
theorem TreeJoin_any (d B : Nat) (v : Value) (l : List Nd) (w : World) (h : LRd d w B v l) (hB : B ≤ w.heap.size) (_ : sz l ≤ 1048576) :
    Calls Try.prog 4 #[v] w fun e w' => e = .returned (.bool true) ∧ Below w.heap.size w w' := by
  obtain ⟨A, c, rfl⟩ := h.form
  have H0 := Lib.hid (h.more hB); clear h hB
  go_enter Try.func4, Try.ntmps4
  go_wp2_with fail
  refine (large_any d w.heap.size _ l w H0.out (Nat.le_refl _)).mono ?_
  rintro e w1 ⟨rfl, hb⟩
  have B1 := Lib.hid hb; clear hb
  cases big l with
  | true =>
    go_wp2_with fail
    refine (known_any w1).mono ?_
    rintro e w4 ⟨rfl, hb⟩
    have B4 := Lib.hid (B1.out.trans (hb.mono B1.out.size)); clear hb
    go_wp2_with fail
    go_ret
    exact ⟨rfl, B4.out⟩
  | false =>
    go_wp2_with fail
    refine (joins d w.heap.size _ l w1 (H0.out.below B1.out (Nat.le_refl _) (Nat.le_refl _)) B1.out.size).mono ?_
    rintro e w2 ⟨vm, rfl, hm, hb⟩
    obtain ⟨Am, cm, rfl⟩ := hm.form
    have M2 := Lib.hid (In.rd hm)
    have B2 := Lib.hid (B1.out.trans (hb.mono B1.out.size)); clear hb hm
    go_wp2_with fail
    refine (rjoins d w.heap.size _ l w2 (H0.out.below B2.out (Nat.le_refl _) (Nat.le_refl _)) B2.out.size).mono ?_
    rintro e w3 ⟨vr, rfl, hr, hb⟩
    obtain ⟨Ar, cr, rfl⟩ := hr.form
    have C3 := Lib.hid hb
    have M3 := Lib.hid (In.rd hr)
    have B3 := Lib.hid (B2.out.trans (hb.mono B2.out.size)); clear hb hr
    go_wp2_with fail
    refine (equals (d + 1) w3.heap.size _ _ (join l) (join l) w3 (M2.out.below C3.out (Nat.le_refl _) C3.out.size) M3.out (Nat.le_refl _)).mono ?_
    rintro e w4 ⟨rfl, hb⟩
    rw [eqB_true (rfl : join l = join l)]
    have C4 := Lib.hid (C3.out.trans (hb.mono C3.out.size))
    have B4 := Lib.hid (B3.out.trans (hb.mono B3.out.size)); clear hb
    go_wp2_with fail
    refine (Source_any (d + 1) w2.heap.size _ (join l) w4 (M2.out.below C4.out (Nat.le_refl _) (Nat.le_refl _)) C4.out.size).mono ?_
    rintro e w5 ⟨rfl, hb⟩
    rw [src_join]
    have C5 := Lib.hid (C4.out.trans (hb.mono C4.out.size))
    have B5 := Lib.hid (B4.out.trans (hb.mono B4.out.size)); clear hb
    obtain ⟨S, hS⟩ : ∃ S : ByteArray, (⟨(src l).toArray⟩ : ByteArray) = S := ⟨_, rfl⟩
    rw [hS]
    have HS := Lib.hid hS; clear hS
    go_wp2_with fail
    refine (Source_any d w.heap.size _ l w5 (H0.out.below B5.out (Nat.le_refl _) (Nat.le_refl _)) B5.out.size).mono ?_
    rintro e w6 ⟨rfl, hb⟩
    rw [HS.out]
    have C6 := Lib.hid (C5.out.trans (hb.mono C5.out.size))
    have B6 := Lib.hid (B5.out.trans (hb.mono B5.out.size)); clear hb
    go_wp2_with fail
    refine (joins (d + 1) w2.heap.size _ (join l) w6 (M2.out.below C6.out (Nat.le_refl _) (Nat.le_refl _)) C6.out.size).mono ?_
    rintro e w7 ⟨vj, rfl, hj, hb⟩
    rw [join_join] at hj
    obtain ⟨Aj, cj, rfl⟩ := hj.form
    have C7 := Lib.hid (C6.out.trans (hb.mono C6.out.size))
    have M7 := Lib.hid (In.rd hj)
    have B7 := Lib.hid (B6.out.trans (hb.mono B6.out.size)); clear hb hj
    go_wp2_with fail
    refine (equals (d + 2) w7.heap.size _ _ (join l) (join l) w7 M7.out ((M2.out.below C7.out (Nat.le_refl _) C7.out.size).deep (by omega)) (Nat.le_refl _)).mono ?_
    rintro e w8 ⟨rfl, hb⟩
    rw [eqB_true (rfl : join l = join l)]
    have B8 := Lib.hid (B7.out.trans (hb.mono B7.out.size)); clear hb
    go_wp2_with fail
    refine (known_any w8).mono ?_
    rintro e w9 ⟨rfl, hb⟩
    have B9 := Lib.hid (B8.out.trans (hb.mono B8.out.size)); clear hb
    go_wp2_with fail
    go_ret
    exact ⟨rfl, B9.out⟩
end Go.Proofs.Ytlceaadaeednpaa.Tr
