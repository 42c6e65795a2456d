/-
  The reference's Parse, one of the ways through it (nothing but blanks).
-/
import Derived.Test.YtaapdhpfjiaeaaaDoorTiRefP
namespace Go.Proofs.YtaapdhpfjiaeaaaDoor.Ti
open Go.RowKit

set_option maxRecDepth 100000 in
set_option maxHeartbeats 8000000 in
theorem RefParse_en (s : ByteArray) (w : World) (hs : s.size < 4294967281) (Q : ByteArray) (hQ : Q.data.toList = squeeze s.data.toList) (h0 : Q.size = 0) :
    Calls Tryd.prog 14 #[.string s] w fun e w' =>
      e = .returned (.tuple #[.agg #[.int .i64 ((parse s.data.toList).1.1 : Int), .string ⟨(parse s.data.toList).1.2.toArray⟩], .int .i64 ((parse s.data.toList).2 : Int)]) ∧ Below w.heap.size w w' := by
  have hQs : Q.size ≤ s.size := by
    have h1 := squeeze_len s.data.toList
    rw [← hQ] at h1; exact h1
  have hQe : (⟨(squeeze s.data.toList).toArray⟩ : ByteArray) = Q := (str_of hQ).symm
  obtain ⟨w0, hw0⟩ : ∃ w0, w0 = w.alloc (.cells #[.int .i64 0, .string ⟨#[]⟩] 24) := ⟨_, rfl⟩
  have hbel : Below w.heap.size w w0 := by rw [hw0]; exact (Below.refl _ w).alloc (Nat.le_refl _) _
  have hz0 : w0.heap.size = w.heap.size + 1 := by rw [hw0]; simp
  have HW0 := Lib.hid hw0; have HZ0 := Lib.hid hz0; have HQE := Lib.hid hQe
  clear hw0 hz0 hQe
  have hT : head s.data.toList = Q.data.toList := head_empty hQ h0
  have hz : space Q.data.toList = 0 := by
    have e : Q.data.toList = [] := by rw [← List.length_eq_zero_iff]; exact h0
    rw [e]; decide
  have dq : ¬ 0 < Q.size := by omega
  have dq2 : decide (0 < (Q.size : Int)) = false := by rw [h0]; rfl
  have HU : Hid (rest (head s.data.toList) = Q.data.toList) := Lib.hid (by rw [hT, rest, if_pos hz])
  have dz : decide (0 < ((space Q.data.toList : Nat) : Int)) = false := by rw [hz]; rfl
  have dz2 : ¬ 0 < space Q.data.toList := by omega
  have HSP : Hid (space (head s.data.toList) = space Q.data.toList) := Lib.hid (by rw [hT])
  have HT := Lib.hid hT; have HQ := Lib.hid hQ; clear hT hQ
  clear hz
  go_enter Tryd.func14, Tryd.ntmps14
  go_wp2_with fail
  rw [← HW0.out]
  refine (blanksRef_any _ _ hs).mono ?_
  rintro e w' ⟨rfl, rfl⟩
  rw [HQE.out]
  go_wp2_with fail
  refine (prefixed_any _ _ (by omega)).mono ?_
  rintro e w4 ⟨rfl, hb4⟩
  go_wp2
  go_loop [6, 7] (fun nv i => ∃ (k : Nat) (acc : List UInt8), k ≤ Q.size ∧ i = .int .i64 k ∧ nv = .string ⟨acc.toArray⟩ ∧ acc.length ≤ k ∧ Hid (jn 0 Q.data.toList = acc ++ jn (prevB Q k) (Q.data.toList.drop k))) (fun _ i => Q.size - (intOf i).toNat)
  case atStart => exact ⟨0, [], Nat.zero_le _, rfl, rfl, Nat.le_refl _, Lib.hid rfl⟩
  case round =>
    obtain ⟨k, acc, hk, rfl, rfl, hal, hr⟩ := hrel
    by_cases hlt : k < Q.size
    · exact absurd hlt (by omega)
    · have hacc : join Q.data.toList = acc := by
        have h1 := hr.out
        rw [List.drop_of_length_le (by show Q.size ≤ k; omega)] at h1
        rw [join_jn, h1]; simp [jn]
      have hnl : nameOf s.data.toList = cap acc := by rw [nameOf, HU.out, hacc]
      have HNL := Lib.hid hnl; clear hacc hnl hr
      have b4 : Below (w.heap.size + 1) w0 w4 := by have := hb4; rw [HZ0.out] at this; exact this
      have hal2 : acc.length ≤ s.size := by omega
      by_cases ha : acc = []
      · subst ha
        have HNM : Hid (nameOf s.data.toList = []) := Lib.hid HNL.out
        have bE := b4
        have z4 : w.heap.size < w4.heap.size := by have := bE.size; rw [HZ0.out] at this; omega
        have hv : valid (space Q.data.toList : Int) [] = false := by rw [valid]; split <;> simp
        have hP : parse s.data.toList = ((0, []), 1) := by rw [parse, HNM.out, if_neg (by simp), HSP.out, hv]; rfl
        have HP := Lib.hid hP; clear hP
        go_wp2_with fail
        refine (RefValid_any _ _ _ (by decide)).mono ?_
        rintro e w5 ⟨he5, hb5⟩
        have hd0 : (⟨#[]⟩ : ByteArray).data.toList = [] := rfl
        rw [hd0, hv] at he5
        subst he5
        have b5 : Below (w.heap.size + 1) w0 w5 := (bE.alloc (by omega) _).trans (hb5.mono (by simp; omega))
        have k5 := keep2 (w := w) (W := w5) (by rw [← HW0.out]; exact b5)
        obtain ⟨j0, j1, g0, g1⟩ := k5
        obtain ⟨r0, r1⟩ := set2 j0 j1 (p := .int .i64 0) (q := .string ⟨#[]⟩)
        have hB := below_set2 (hbel.trans (b5.mono (by omega))) (.int .i64 0) (.string ⟨#[]⟩)
        have HQ0 := Lib.hid r0; have HQ1 := Lib.hid r1; have HB := Lib.hid hB; clear r0 r1 hB
        go_wp2
        refine bodyPost_ret (v := .tuple #[.agg #[.int .i64 0, .string ⟨#[]⟩], .int .i64 1]) ?_ rfl ⟨by rw [HP.out]; rfl, HB.out⟩
        simp [results, Tryd.results14, go_sem, HQ0.out, HQ1.out]
      · exact absurd (List.length_eq_zero_iff.1 (by omega)) ha
end Go.Proofs.YtaapdhpfjiaeaaaDoor.Ti
