/-
  The reference's Parse, one of the ways through it (neither a colon nor a namespace).
-/
import Derived.Test.YtaapdhpfjiaeaaaDoorTiRefP
namespace Go.Proofs.YtaapdhpfjiaeaaaDoor.Ti
open Go.RowKit

set_option maxRecDepth 100000 in
set_option maxHeartbeats 8000000 in
theorem RefParse_pn (s : ByteArray) (w : World) (hs : s.size < 4294967281) (Q : ByteArray) (hQ : Q.data.toList = squeeze s.data.toList) (h0 : 0 < Q.size) (hc : Q[0] ≠ 58) (hz : space Q.data.toList = 0) :
    Calls Tryd.prog 14 #[.string s] w fun e w' =>
      e = .returned (.tuple #[.agg #[.int .i64 ((parse s.data.toList).1.1 : Int), .string ⟨(parse s.data.toList).1.2.toArray⟩], .int .i64 ((parse s.data.toList).2 : Int)]) ∧ Below w.heap.size w w' := by
  have hQs : Q.size ≤ s.size := by
    have h1 := squeeze_len s.data.toList
    rw [← hQ] at h1; exact h1
  have hQe : (⟨(squeeze s.data.toList).toArray⟩ : ByteArray) = Q := (str_of hQ).symm
  obtain ⟨w0, hw0⟩ : ∃ w0, w0 = w.alloc (.cells #[.int .i64 0, .string ⟨#[]⟩] 24) := ⟨_, rfl⟩
  have hbel : Below w.heap.size w w0 := by rw [hw0]; exact (Below.refl _ w).alloc (Nat.le_refl _) _
  have hz0 : w0.heap.size = w.heap.size + 1 := by rw [hw0]; simp
  have HW0 := Lib.hid hw0; have HZ0 := Lib.hid hz0; have HQE := Lib.hid hQe
  clear hw0 hz0 hQe
  have hT : head s.data.toList = Q.data.toList := head_plain hQ h0 hc
  have d58 : ((Q[0].toNat : Int) == 58) = false := u8_ne hc
  have HU : Hid (rest (head s.data.toList) = Q.data.toList) := Lib.hid (by rw [hT, rest, if_pos hz])
  have dz : decide (0 < ((space Q.data.toList : Nat) : Int)) = false := by rw [hz]; rfl
  have dz2 : ¬ 0 < space Q.data.toList := by omega
  have HSP : Hid (space (head s.data.toList) = space Q.data.toList) := Lib.hid (by rw [hT])
  have HT := Lib.hid hT; have HQ := Lib.hid hQ; clear hT hQ
  clear hz hc
  go_enter Tryd.func14, Tryd.ntmps14
  go_wp2_with fail
  rw [← HW0.out]
  refine (blanksRef_any _ _ hs).mono ?_
  rintro e w' ⟨rfl, rfl⟩
  rw [HQE.out]
  go_wp2_with fail
  refine (prefixed_any _ _ (by omega)).mono ?_
  rintro e w4 ⟨rfl, hb4⟩
  go_wp2
  go_loop [6, 7] (fun nv i => ∃ (k : Nat) (acc : List UInt8), k ≤ Q.size ∧ i = .int .i64 k ∧ nv = .string ⟨acc.toArray⟩ ∧ acc.length ≤ k ∧ Hid (jn 0 Q.data.toList = acc ++ jn (prevB Q k) (Q.data.toList.drop k))) (fun _ i => Q.size - (intOf i).toNat)
  case atStart => exact ⟨0, [], Nat.zero_le _, rfl, rfl, Nat.le_refl _, Lib.hid rfl⟩
  case round =>
    obtain ⟨k, acc, hk, rfl, rfl, hal, hr⟩ := hrel
    by_cases hlt : k < Q.size
    · have hE := extract_one Q k hlt
      have hk1 : (k : Int) + 1 ≤ (Q.size : Int) := by omega
      have hk2 : k + 1 ≤ Q.size := by omega
      have s1 : acc.length + 1 ≤ 9223372036854775807 := by omega
      by_cases c1 : Q[k] = 32
      · have d1 : ((Q[k].toNat : Int) == 32) = true := by rw [c1]; rfl
        by_cases k0 : k = 0
        · have dk : decide (0 < (k : Int)) = false := by simp; omega
          have dk2 : ¬ 0 < k := by omega
          have hpb : prevB Q k = 0 := by unfold prevB; rw [if_pos k0]
          by_cases n1 : k + 1 < Q.size
          · have dn : decide ((k : Int) + 1 < (Q.size : Int)) = true := by simp; omega
            by_cases c2 : Q[k + 1] = 47
            · have d2 : ((Q[k + 1].toNat : Int) == 47) = true := by rw [c2]; rfl
              have HJ := Lib.hid (jn_skip hlt hr.out ⟨c1, .inr (next_yes n1 c2)⟩)
              clear c1 c2 k0 hpb
              go_wp2
              go_round
              case rel => exact ⟨k + 1, acc, by omega, by go_num, rfl, by omega, HJ⟩
              case measure => simp [intOf]; omega
            · have d2 : ((Q[k + 1].toNat : Int) == 47) = false := u8_ne c2
              have HJ := Lib.hid (jn_keep hlt hr.out (fun h => h.2.elim (fun e => by rw [hpb] at e; revert e; decide) (next_no n1 c2)))
              clear c1 c2 k0 hpb
              go_wp2
              go_round
              case rel => exact ⟨k + 1, acc ++ [Q[k]], by omega, by go_num, by rw [cat_one], by simp; omega, HJ⟩
              case measure => simp [intOf]; omega
          · have dn : decide ((k : Int) + 1 < (Q.size : Int)) = false := by simp; omega
            have HJ := Lib.hid (jn_keep hlt hr.out (fun h => h.2.elim (fun e => by rw [hpb] at e; revert e; decide) (next_end n1)))
            clear c1 k0 hpb
            go_wp2
            go_round
            case rel => exact ⟨k + 1, acc ++ [Q[k]], by omega, by go_num, by rw [cat_one], by simp; omega, HJ⟩
            case measure => simp [intOf]; omega
        · have kp : 0 < k := by omega
          have dk : decide (0 < (k : Int)) = true := by simp; omega
          have kp1 : (1 : Int) ≤ (k : Int) := by omega
          have kp2 : k - 1 < Q.size := by omega
          have hpb := prevB_pos Q k kp hlt
          by_cases c0 : Q[k - 1] = 47
          · have d0 : ((Q[k - 1].toNat : Int) == 47) = true := by rw [c0]; rfl
            have HJ := Lib.hid (jn_skip hlt hr.out ⟨c1, .inl (by rw [hpb, c0])⟩)
            clear c1 c0 k0 hpb
            go_wp2
            go_round
            case rel => exact ⟨k + 1, acc, by omega, by go_num, rfl, by omega, HJ⟩
            case measure => simp [intOf]; omega
          · have d0 : ((Q[k - 1].toNat : Int) == 47) = false := u8_ne c0
            by_cases n1 : k + 1 < Q.size
            · have dn : decide ((k : Int) + 1 < (Q.size : Int)) = true := by simp; omega
              by_cases c2 : Q[k + 1] = 47
              · have d2 : ((Q[k + 1].toNat : Int) == 47) = true := by rw [c2]; rfl
                have HJ := Lib.hid (jn_skip hlt hr.out ⟨c1, .inr (next_yes n1 c2)⟩)
                clear c1 c2 c0 k0 hpb
                go_wp2
                go_round
                case rel => exact ⟨k + 1, acc, by omega, by go_num, rfl, by omega, HJ⟩
                case measure => simp [intOf]; omega
              · have d2 : ((Q[k + 1].toNat : Int) == 47) = false := u8_ne c2
                have HJ := Lib.hid (jn_keep hlt hr.out (fun h => h.2.elim (fun e => c0 (by rw [hpb] at e; exact e)) (next_no n1 c2)))
                clear c1 c2 c0 k0 hpb
                go_wp2
                go_round
                case rel => exact ⟨k + 1, acc ++ [Q[k]], by omega, by go_num, by rw [cat_one], by simp; omega, HJ⟩
                case measure => simp [intOf]; omega
            · have dn : decide ((k : Int) + 1 < (Q.size : Int)) = false := by simp; omega
              have HJ := Lib.hid (jn_keep hlt hr.out (fun h => h.2.elim (fun e => c0 (by rw [hpb] at e; exact e)) (next_end n1)))
              clear c1 c0 k0 hpb
              go_wp2
              go_round
              case rel => exact ⟨k + 1, acc ++ [Q[k]], by omega, by go_num, by rw [cat_one], by simp; omega, HJ⟩
              case measure => simp [intOf]; omega
      · have d1 : ((Q[k].toNat : Int) == 32) = false := u8_ne c1
        have HJ := Lib.hid (jn_keep hlt hr.out (fun h => c1 h.1))
        clear c1
        go_wp2
        go_round
        case rel => exact ⟨k + 1, acc ++ [Q[k]], by omega, by go_num, by rw [cat_one], by simp; omega, HJ⟩
        case measure => simp [intOf]; omega
    · have hacc : join Q.data.toList = acc := by
        have h1 := hr.out
        rw [List.drop_of_length_le (by show Q.size ≤ k; omega)] at h1
        rw [join_jn, h1]; simp [jn]
      have hnl : nameOf s.data.toList = cap acc := by rw [nameOf, HU.out, hacc]
      have HNL := Lib.hid hnl; clear hacc hnl hr
      have b4 : Below (w.heap.size + 1) w0 w4 := by have := hb4; rw [HZ0.out] at this; exact this
      have hal2 : acc.length ≤ s.size := by omega
      by_cases ha : acc = []
      · subst ha
        have HNM : Hid (nameOf s.data.toList = []) := Lib.hid HNL.out
        have bE := b4
        have z4 : w.heap.size < w4.heap.size := by have := bE.size; rw [HZ0.out] at this; omega
        have hv : valid (space Q.data.toList : Int) [] = false := by rw [valid]; split <;> simp
        have hP : parse s.data.toList = ((0, []), 1) := by rw [parse, HNM.out, if_neg (by simp), HSP.out, hv]; rfl
        have HP := Lib.hid hP; clear hP
        go_wp2_with fail
        refine (RefValid_any _ _ _ (by decide)).mono ?_
        rintro e w5 ⟨he5, hb5⟩
        have hd0 : (⟨#[]⟩ : ByteArray).data.toList = [] := rfl
        rw [hd0, hv] at he5
        subst he5
        have b5 : Below (w.heap.size + 1) w0 w5 := (bE.alloc (by omega) _).trans (hb5.mono (by simp; omega))
        have k5 := keep2 (w := w) (W := w5) (by rw [← HW0.out]; exact b5)
        obtain ⟨j0, j1, g0, g1⟩ := k5
        obtain ⟨r0, r1⟩ := set2 j0 j1 (p := .int .i64 0) (q := .string ⟨#[]⟩)
        have hB := below_set2 (hbel.trans (b5.mono (by omega))) (.int .i64 0) (.string ⟨#[]⟩)
        have HQ0 := Lib.hid r0; have HQ1 := Lib.hid r1; have HB := Lib.hid hB; clear r0 r1 hB
        go_wp2
        refine bodyPost_ret (v := .tuple #[.agg #[.int .i64 0, .string ⟨#[]⟩], .int .i64 1]) ?_ rfl ⟨by rw [HP.out]; rfl, HB.out⟩
        simp [results, Tryd.results14, go_sem, HQ0.out, HQ1.out]
      · have hap : 0 < acc.length := List.length_pos_iff.2 ha
        have hap1 : 0 < (⟨acc.toArray⟩ : ByteArray).size := hap
        by_cases hsm : small (⟨acc.toArray⟩ : ByteArray)[0] = true
        · obtain ⟨g1, g2⟩ : 97 ≤ (⟨acc.toArray⟩ : ByteArray)[0].toNat ∧ (⟨acc.toArray⟩ : ByteArray)[0].toNat ≤ 122 := by simpa [small] using hsm
          have q1 : 97 ≤ ((⟨acc.toArray⟩ : ByteArray)[0].toNat : Int) := by omega
          have q2 : ((⟨acc.toArray⟩ : ByteArray)[0].toNat : Int) ≤ 122 := by omega
          have e1 := IntWalk.u8_in (((⟨acc.toArray⟩ : ByteArray)[0].toNat : Int) - 32) (by omega)
          have hl1 : 1 ≤ acc.length := hap
          have hl2 : (1 : Int) ≤ (acc.length : Int) := by omega
          have hcv := conv_cap w4 (⟨acc.toArray⟩ : ByteArray)[0] g1
          have s2 : 1 + (acc.length - 1) ≤ 9223372036854775807 := by omega
          have s3 : ¬ 9223372036854775807 < 1 + (acc.length - 1) := by omega
          go_wp2
          go_region
          have hN : (⟨#[(⟨acc.toArray⟩ : ByteArray)[0] - 32]⟩ : ByteArray) ++ (⟨acc.toArray⟩ : ByteArray).extract 1 acc.length = ⟨(cap acc).toArray⟩ := cap_yes ⟨acc.toArray⟩ hap1 hsm
          rw [hN]
          have bE : Below (w.heap.size + 1) w0 (w4.alloc (.cells #[.int .u8 (((⟨acc.toArray⟩ : ByteArray)[0].toNat : Int) - 32)] 5)).drew := (b4.alloc (by have := b4.size; rw [HZ0.out] at this; exact this) _).drew
          clear hcv hN e1
          generalize (w4.alloc (.cells #[.int .u8 (((⟨acc.toArray⟩ : ByteArray)[0].toNat : Int) - 32)] 5)).drew = w6 at bE ⊢
          have HNM := HNL
          have hcl : (cap acc).length ≤ acc.length := by rw [cap_len]; exact Nat.le_refl _
          generalize cap acc = nm at HNM hcl ⊢
          have z4 : w.heap.size < w6.heap.size := by have := bE.size; rw [HZ0.out] at this; omega
          have kk := keep2 (w := w) (W := w6) (by rw [← HW0.out]; exact bE)
          obtain ⟨y0, y1, f0, f1⟩ := kk
          by_cases hlong : 100 < nm.length
          · have hd : decide (100 < (nm.length : Int)) = true := by simp; omega
            have hP : parse s.data.toList = ((0, []), 3) := by rw [parse, HNM.out, if_pos hlong]
            have HP := Lib.hid hP; clear hP
            obtain ⟨r0, r1⟩ := set2 y0 y1 (p := .int .i64 0) (q := .string ⟨#[]⟩)
            have hB := below_set2 (hbel.trans (bE.mono (by omega))) (.int .i64 0) (.string ⟨#[]⟩)
            have HQ0 := Lib.hid r0; have HQ1 := Lib.hid r1; have HB := Lib.hid hB; clear r0 r1 hB
            go_wp2
            refine bodyPost_ret (v := .tuple #[.agg #[.int .i64 0, .string ⟨#[]⟩], .int .i64 3]) ?_ rfl ⟨by rw [HP.out]; rfl, HB.out⟩
            simp [results, Tryd.results14, go_sem, HQ0.out, HQ1.out]
          · have hd : decide (100 < (nm.length : Int)) = false := by simp; omega
            have bV : Below w6.heap.size w6 (w6.alloc (.cells #[.int .i64 ((space Q.data.toList : Nat) : Int), .string ⟨nm.toArray⟩] 24)) := (Below.refl _ _).alloc (Nat.le_refl _) _
            cases hv : valid (space Q.data.toList : Int) nm
            · have hP : parse s.data.toList = ((0, []), 1) := by rw [parse, HNM.out, if_neg hlong, HSP.out, hv]; rfl
              have HP := Lib.hid hP; clear hP
              go_wp2_with fail
              refine (RefValid_any _ _ _ (by show nm.length ≤ _; unfold maxLen; omega)).mono ?_
              rintro e w5 ⟨rfl, hb5⟩
              have b5 : Below (w.heap.size + 1) w0 w5 := (bE.alloc (by omega) _).trans (hb5.mono (by simp; omega))
              have k5 := keep2 (w := w) (W := w5) (by rw [← HW0.out]; exact b5)
              obtain ⟨j0, j1, g0, g1⟩ := k5
              obtain ⟨r0, r1⟩ := set2 j0 j1 (p := .int .i64 0) (q := .string ⟨#[]⟩)
              have hB := below_set2 (hbel.trans (b5.mono (by omega))) (.int .i64 0) (.string ⟨#[]⟩)
              have HQ0 := Lib.hid r0; have HQ1 := Lib.hid r1; have HB := Lib.hid hB; clear r0 r1 hB
              go_wp2
              refine bodyPost_ret (v := .tuple #[.agg #[.int .i64 0, .string ⟨#[]⟩], .int .i64 1]) ?_ rfl ⟨by rw [HP.out]; rfl, HB.out⟩
              simp [results, Tryd.results14, go_sem, HQ0.out, HQ1.out]
            · have hP : parse s.data.toList = ((space Q.data.toList, nm), 0) := by rw [parse, HNM.out, if_neg hlong, HSP.out, hv, if_pos rfl]
              have HP := Lib.hid hP; clear hP
              go_wp2_with fail
              refine (RefValid_any _ _ _ (by show nm.length ≤ _; unfold maxLen; omega)).mono ?_
              rintro e w5 ⟨rfl, hb5⟩
              have b5 : Below (w.heap.size + 1) w0 w5 := (bE.alloc (by omega) _).trans (hb5.mono (by simp; omega))
              have k5 := keep2 (w := w) (W := w5) (by rw [← HW0.out]; exact b5)
              obtain ⟨j0, j1, g0, g1⟩ := k5
              have i5 := keep2 (w := w6) (W := w5) (by simpa using hb5)
              obtain ⟨i0, i1, _, _⟩ := i5
              obtain ⟨r0, r1⟩ := set2 j0 j1 (p := .int .i64 ((space Q.data.toList : Nat) : Int)) (q := .string ⟨nm.toArray⟩)
              have hB := below_set2 (hbel.trans (b5.mono (by omega))) (.int .i64 ((space Q.data.toList : Nat) : Int)) (.string ⟨nm.toArray⟩)
              have HQ0 := Lib.hid r0; have HQ1 := Lib.hid r1; have HB := Lib.hid hB; clear r0 r1 hB
              go_wp2
              refine bodyPost_ret (v := .tuple #[.agg #[.int .i64 ((space Q.data.toList : Nat) : Int), .string ⟨nm.toArray⟩], .int .i64 0]) ?_ rfl ⟨by rw [HP.out]; rfl, HB.out⟩
              simp [results, Tryd.results14, go_sem, HQ0.out, HQ1.out]
        · have hsm' : small (⟨acc.toArray⟩ : ByteArray)[0] = false := by simpa using hsm
          have hns : ¬ (97 ≤ (⟨acc.toArray⟩ : ByteArray)[0].toNat ∧ (⟨acc.toArray⟩ : ByteArray)[0].toNat ≤ 122) := by simpa [small] using hsm
          have HNM : Hid (nameOf s.data.toList = acc) := Lib.hid (HNL.out.trans (cap_list hap1 hsm'))
          have hq : ((⟨acc.toArray⟩ : ByteArray)[0].toNat : Int) < 97 ∨ (97 ≤ ((⟨acc.toArray⟩ : ByteArray)[0].toNat : Int) ∧ 122 < ((⟨acc.toArray⟩ : ByteArray)[0].toNat : Int)) := by omega
          have bE := b4
          clear hns hsm hsm'
          rcases hq with q1 | ⟨q1, q2⟩
          · have z4 : w.heap.size < w4.heap.size := by have := bE.size; rw [HZ0.out] at this; omega
            have kk := keep2 (w := w) (W := w4) (by rw [← HW0.out]; exact bE)
            obtain ⟨y0, y1, f0, f1⟩ := kk
            by_cases hlong : 100 < acc.length
            · have hd : decide (100 < (acc.length : Int)) = true := by simp; omega
              have hP : parse s.data.toList = ((0, []), 3) := by rw [parse, HNM.out, if_pos hlong]
              have HP := Lib.hid hP; clear hP
              obtain ⟨r0, r1⟩ := set2 y0 y1 (p := .int .i64 0) (q := .string ⟨#[]⟩)
              have hB := below_set2 (hbel.trans (bE.mono (by omega))) (.int .i64 0) (.string ⟨#[]⟩)
              have HQ0 := Lib.hid r0; have HQ1 := Lib.hid r1; have HB := Lib.hid hB; clear r0 r1 hB
              go_wp2
              refine bodyPost_ret (v := .tuple #[.agg #[.int .i64 0, .string ⟨#[]⟩], .int .i64 3]) ?_ rfl ⟨by rw [HP.out]; rfl, HB.out⟩
              simp [results, Tryd.results14, go_sem, HQ0.out, HQ1.out]
            · have hd : decide (100 < (acc.length : Int)) = false := by simp; omega
              have bV : Below w4.heap.size w4 (w4.alloc (.cells #[.int .i64 ((space Q.data.toList : Nat) : Int), .string ⟨acc.toArray⟩] 24)) := (Below.refl _ _).alloc (Nat.le_refl _) _
              cases hv : valid (space Q.data.toList : Int) acc
              · have hP : parse s.data.toList = ((0, []), 1) := by rw [parse, HNM.out, if_neg hlong, HSP.out, hv]; rfl
                have HP := Lib.hid hP; clear hP
                go_wp2_with fail
                refine (RefValid_any _ _ _ (by show acc.length ≤ _; unfold maxLen; omega)).mono ?_
                rintro e w5 ⟨rfl, hb5⟩
                have b5 : Below (w.heap.size + 1) w0 w5 := (bE.alloc (by omega) _).trans (hb5.mono (by simp; omega))
                have k5 := keep2 (w := w) (W := w5) (by rw [← HW0.out]; exact b5)
                obtain ⟨j0, j1, g0, g1⟩ := k5
                obtain ⟨r0, r1⟩ := set2 j0 j1 (p := .int .i64 0) (q := .string ⟨#[]⟩)
                have hB := below_set2 (hbel.trans (b5.mono (by omega))) (.int .i64 0) (.string ⟨#[]⟩)
                have HQ0 := Lib.hid r0; have HQ1 := Lib.hid r1; have HB := Lib.hid hB; clear r0 r1 hB
                go_wp2
                refine bodyPost_ret (v := .tuple #[.agg #[.int .i64 0, .string ⟨#[]⟩], .int .i64 1]) ?_ rfl ⟨by rw [HP.out]; rfl, HB.out⟩
                simp [results, Tryd.results14, go_sem, HQ0.out, HQ1.out]
              · have hP : parse s.data.toList = ((space Q.data.toList, acc), 0) := by rw [parse, HNM.out, if_neg hlong, HSP.out, hv, if_pos rfl]
                have HP := Lib.hid hP; clear hP
                go_wp2_with fail
                refine (RefValid_any _ _ _ (by show acc.length ≤ _; unfold maxLen; omega)).mono ?_
                rintro e w5 ⟨rfl, hb5⟩
                have b5 : Below (w.heap.size + 1) w0 w5 := (bE.alloc (by omega) _).trans (hb5.mono (by simp; omega))
                have k5 := keep2 (w := w) (W := w5) (by rw [← HW0.out]; exact b5)
                obtain ⟨j0, j1, g0, g1⟩ := k5
                have i5 := keep2 (w := w4) (W := w5) (by simpa using hb5)
                obtain ⟨i0, i1, _, _⟩ := i5
                obtain ⟨r0, r1⟩ := set2 j0 j1 (p := .int .i64 ((space Q.data.toList : Nat) : Int)) (q := .string ⟨acc.toArray⟩)
                have hB := below_set2 (hbel.trans (b5.mono (by omega))) (.int .i64 ((space Q.data.toList : Nat) : Int)) (.string ⟨acc.toArray⟩)
                have HQ0 := Lib.hid r0; have HQ1 := Lib.hid r1; have HB := Lib.hid hB; clear r0 r1 hB
                go_wp2
                refine bodyPost_ret (v := .tuple #[.agg #[.int .i64 ((space Q.data.toList : Nat) : Int), .string ⟨acc.toArray⟩], .int .i64 0]) ?_ rfl ⟨by rw [HP.out]; rfl, HB.out⟩
                simp [results, Tryd.results14, go_sem, HQ0.out, HQ1.out]
          · have z4 : w.heap.size < w4.heap.size := by have := bE.size; rw [HZ0.out] at this; omega
            have kk := keep2 (w := w) (W := w4) (by rw [← HW0.out]; exact bE)
            obtain ⟨y0, y1, f0, f1⟩ := kk
            by_cases hlong : 100 < acc.length
            · have hd : decide (100 < (acc.length : Int)) = true := by simp; omega
              have hP : parse s.data.toList = ((0, []), 3) := by rw [parse, HNM.out, if_pos hlong]
              have HP := Lib.hid hP; clear hP
              obtain ⟨r0, r1⟩ := set2 y0 y1 (p := .int .i64 0) (q := .string ⟨#[]⟩)
              have hB := below_set2 (hbel.trans (bE.mono (by omega))) (.int .i64 0) (.string ⟨#[]⟩)
              have HQ0 := Lib.hid r0; have HQ1 := Lib.hid r1; have HB := Lib.hid hB; clear r0 r1 hB
              go_wp2
              refine bodyPost_ret (v := .tuple #[.agg #[.int .i64 0, .string ⟨#[]⟩], .int .i64 3]) ?_ rfl ⟨by rw [HP.out]; rfl, HB.out⟩
              simp [results, Tryd.results14, go_sem, HQ0.out, HQ1.out]
            · have hd : decide (100 < (acc.length : Int)) = false := by simp; omega
              have bV : Below w4.heap.size w4 (w4.alloc (.cells #[.int .i64 ((space Q.data.toList : Nat) : Int), .string ⟨acc.toArray⟩] 24)) := (Below.refl _ _).alloc (Nat.le_refl _) _
              cases hv : valid (space Q.data.toList : Int) acc
              · have hP : parse s.data.toList = ((0, []), 1) := by rw [parse, HNM.out, if_neg hlong, HSP.out, hv]; rfl
                have HP := Lib.hid hP; clear hP
                go_wp2_with fail
                refine (RefValid_any _ _ _ (by show acc.length ≤ _; unfold maxLen; omega)).mono ?_
                rintro e w5 ⟨rfl, hb5⟩
                have b5 : Below (w.heap.size + 1) w0 w5 := (bE.alloc (by omega) _).trans (hb5.mono (by simp; omega))
                have k5 := keep2 (w := w) (W := w5) (by rw [← HW0.out]; exact b5)
                obtain ⟨j0, j1, g0, g1⟩ := k5
                obtain ⟨r0, r1⟩ := set2 j0 j1 (p := .int .i64 0) (q := .string ⟨#[]⟩)
                have hB := below_set2 (hbel.trans (b5.mono (by omega))) (.int .i64 0) (.string ⟨#[]⟩)
                have HQ0 := Lib.hid r0; have HQ1 := Lib.hid r1; have HB := Lib.hid hB; clear r0 r1 hB
                go_wp2
                refine bodyPost_ret (v := .tuple #[.agg #[.int .i64 0, .string ⟨#[]⟩], .int .i64 1]) ?_ rfl ⟨by rw [HP.out]; rfl, HB.out⟩
                simp [results, Tryd.results14, go_sem, HQ0.out, HQ1.out]
              · have hP : parse s.data.toList = ((space Q.data.toList, acc), 0) := by rw [parse, HNM.out, if_neg hlong, HSP.out, hv, if_pos rfl]
                have HP := Lib.hid hP; clear hP
                go_wp2_with fail
                refine (RefValid_any _ _ _ (by show acc.length ≤ _; unfold maxLen; omega)).mono ?_
                rintro e w5 ⟨rfl, hb5⟩
                have b5 : Below (w.heap.size + 1) w0 w5 := (bE.alloc (by omega) _).trans (hb5.mono (by simp; omega))
                have k5 := keep2 (w := w) (W := w5) (by rw [← HW0.out]; exact b5)
                obtain ⟨j0, j1, g0, g1⟩ := k5
                have i5 := keep2 (w := w4) (W := w5) (by simpa using hb5)
                obtain ⟨i0, i1, _, _⟩ := i5
                obtain ⟨r0, r1⟩ := set2 j0 j1 (p := .int .i64 ((space Q.data.toList : Nat) : Int)) (q := .string ⟨acc.toArray⟩)
                have hB := below_set2 (hbel.trans (b5.mono (by omega))) (.int .i64 ((space Q.data.toList : Nat) : Int)) (.string ⟨acc.toArray⟩)
                have HQ0 := Lib.hid r0; have HQ1 := Lib.hid r1; have HB := Lib.hid hB; clear r0 r1 hB
                go_wp2
                refine bodyPost_ret (v := .tuple #[.agg #[.int .i64 ((space Q.data.toList : Nat) : Int), .string ⟨acc.toArray⟩], .int .i64 0]) ?_ rfl ⟨by rw [HP.out]; rfl, HB.out⟩
                simp [results, Tryd.results14, go_sem, HQ0.out, HQ1.out]
end Go.Proofs.YtaapdhpfjiaeaaaDoor.Ti
