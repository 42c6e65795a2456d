/-
  The law StringsParts.
-/
import Derived.Test.YtihhejeciagdpaaSfKnown
import Derived.Test.YtihhejeciagdpaaSfLp
import Derived.Test.YtihhejeciagdpaaSfPad
import Derived.Test.YtihhejeciagdpaaSfPart
namespace Go.Proofs.Ytihhejeciagdpaa.Sf
open Go.RowKit
set_option linter.unusedVariables false

set_option maxRecDepth 100000 in
set_option maxHeartbeats 4000000 in
theorem StringsParts_any (s t : ByteArray) (w : World) (hs : s.size ≤ 9223372036854775807) (ht : t.size ≤ 9223372036854775807) : Calls Try.prog 12 #[.string s, .string t] w fun e w' => e = .returned (.bool true) ∧ Below w.heap.size w w' := by
  have HK := Lib.hid known_any
  by_cases h0 : 200 < s.size
  · have hd0 : decide ((200 : Int) < (s.size : Int)) = true := decide_eq_true (by omega)
    clear h0
    go_enter Try.func12, Try.ntmps12
    go_wp2_with fail
    refine (HK.out _).mono ?_
    rintro e w1 ⟨rfl, hb1⟩
    go_wp2
    go_ret
    exact ⟨rfl, hb1⟩
  · have hd0 : decide ((200 : Int) < (s.size : Int)) = false := decide_eq_false (by omega)
    by_cases h1 : 20 < t.size
    · have hd1 : decide ((20 : Int) < (t.size : Int)) = true := decide_eq_true (by omega)
      clear h1
      go_enter Try.func12, Try.ntmps12
      go_wp2_with fail
      refine (HK.out _).mono ?_
      rintro e w1 ⟨rfl, hb1⟩
      go_wp2
      go_ret
      exact ⟨rfl, hb1⟩
    · have hd1 : decide ((20 : Int) < (t.size : Int)) = false := decide_eq_false (by omega)
      have hs4 : s.size ≤ 4294967281 := by omega
      have ht4 : t.size ≤ 4294967281 := by omega
      have hoc := occ_len s t
      have HUe := Lib.hid (upto_end s t)
      have HO0 := Lib.hid (onw_zero s t)
      have hu : ∀ j, j < (occ s t).length → upto s t j ++ t ++ part s t ((j : Int) + 1) = upto s t (j + 1) ∧ (upto s t (j + 1)).size ≤ 200 := fun j hj => ⟨upto_succ hj, by unfold upto; rw [ByteArray.size_extract]; omega⟩
      have HU := Lib.hid hu
      have ho : ∀ j, j < (occ s t).length → part s t (-1 - ((j : Int) + 1)) ++ t ++ onw s t ((occ s t).length - j) = onw s t ((occ s t).length - (j + 1)) ∧ (onw s t ((occ s t).length - (j + 1))).size ≤ 200 := fun j hj => ⟨onw_pred hj, by unfold onw; rw [ByteArray.size_extract]; omega⟩
      have HO := Lib.hid ho
      clear hu ho
      have p0 : part s t 0 = upto s t 0 := upto_zero s t
      have pm : part s t (-1) = onw s t ((occ s t).length - 0) := onw_end s t
      have pe0 : part s t (((occ s t).length : Int) + 1) = ⟨#[]⟩ := part_out (k := (occ s t).length + 1) (by omega)
      have HC : Hid (∀ w, Calls Try.prog 20 #[.string s, .string t] w fun e w' => e = .returned (.int .i64 ((occ s t).length : Int)) ∧ Below w.heap.size w w') := Lib.hid (fun w => Count_any s t w hs4 ht4)
      have HP0 : Hid (∀ w, Calls Try.prog 31 #[.string s, .string t, .int .i64 0] w fun e w' => e = .returned (.string (upto s t 0)) ∧ Below w.heap.size w w') := Lib.hid (fun w => by have := Part_any s t 0 w hs4 ht4 ⟨by omega, by omega⟩; rwa [p0] at this)
      have HPm : Hid (∀ w, Calls Try.prog 31 #[.string s, .string t, .int .i64 (-1)] w fun e w' => e = .returned (.string (onw s t ((occ s t).length - 0))) ∧ Below w.heap.size w w') := Lib.hid (fun w => by have := Part_any s t (-1) w hs4 ht4 ⟨by omega, by omega⟩; rwa [pm] at this)
      have HE : Hid (∀ w, Calls Try.prog 31 #[.string s, .string t, .int .i64 (((occ s t).length : Int) + 1)] w fun e w' => e = .returned (.string ⟨#[]⟩) ∧ Below w.heap.size w w') := Lib.hid (fun w => by have := Part_any s t (((occ s t).length : Int) + 1) w hs4 ht4 ⟨by omega, by omega⟩; rwa [pe0] at this)
      clear p0 pm pe0
      generalize (occ s t).length = c at *
      go_enter Try.func12, Try.ntmps12
      go_wp2_with fail
      refine (HC.out _).mono ?_
      rintro e w1 ⟨rfl, hb1⟩
      go_wp2_with fail
      refine (HP0.out _).mono ?_
      rintro e w2 ⟨rfl, hb2⟩
      go_wp2_with fail
      refine (HPm.out _).mono ?_
      rintro e w3 ⟨rfl, hb3⟩
      have HB := Lib.hid (bnx (bnx hb1 hb2) hb3)
      clear hb1 hb2 hb3
      go_wp2_with fail
      go_loopw [6, 7, 8] (fun av bv iv wr => ∃ (j : Nat) (x y : ByteArray), iv = .int .i64 ((j : Int) + 1) ∧ j ≤ c ∧ av = .string x ∧ bv = .string y ∧ Hid (x = upto s t j) ∧ Hid (y = onw s t (c - j)) ∧ Hid (Below w.heap.size w wr)) (fun _ _ i _ => c + 1 - (intOf i).toNat)
      case atStart => exact ⟨0, _, _, by go_num, Nat.zero_le _, rfl, rfl, Lib.hid rfl, Lib.hid rfl, HB⟩
      case round =>
        obtain ⟨j, x, y, rfl, hj, rfl, rfl, HX, HY, HBr⟩ := hrel
        by_cases hlt : j < c
        · have d1 : decide ((j : Int) + 1 ≤ (c : Int)) = true := decide_eq_true (by omega)
          have x1 := HU.out j hlt
          have y1 := HO.out j hlt
          have H1 : Hid (∀ w, Calls Try.prog 31 #[.string s, .string t, .int .i64 ((j : Int) + 1)] w fun e w' => e = .returned (.string (part s t ((j : Int) + 1))) ∧ Below w.heap.size w w') := Lib.hid (fun w => Part_any s t _ w hs4 ht4 ⟨by omega, by omega⟩)
          have H2 : Hid (∀ w, Calls Try.prog 31 #[.string s, .string t, .int .i64 (-1 - ((j : Int) + 1))] w fun e w' => e = .returned (.string (part s t (-1 - ((j : Int) + 1)))) ∧ Below w.heap.size w w') := Lib.hid (fun w => Part_any s t _ w hs4 ht4 ⟨by omega, by omega⟩)
          rw [← HX.out] at x1
          rw [← HY.out] at y1
          obtain ⟨p, hp⟩ : ∃ p, part s t ((j : Int) + 1) = p := ⟨_, rfl⟩
          obtain ⟨q, hq⟩ : ∃ q, part s t (-1 - ((j : Int) + 1)) = q := ⟨_, rfl⟩
          rw [hp] at x1 H1
          rw [hq] at y1 H2
          have zx : (x ++ t ++ p).size ≤ 200 := by rw [x1.1]; exact x1.2
          have zy : (q ++ t ++ y).size ≤ 200 := by rw [y1.1]; exact y1.2
          have X1 := Lib.hid x1.1
          have Y1 := Lib.hid y1.1
          clear x1 y1 hp hq
          have zx2 : x.size + t.size ≤ 200 := by simp only [ByteArray.size_append] at zx; omega
          have zx3 : (x ++ t).size + p.size ≤ 200 := by simp only [ByteArray.size_append] at zx ⊢; omega
          have zy2 : q.size + t.size ≤ 200 := by simp only [ByteArray.size_append] at zy; omega
          have zy3 : (q ++ t).size + y.size ≤ 200 := by simp only [ByteArray.size_append] at zy ⊢; omega
          clear zx zy
          go_wp2_with fail
          refine (H1.out _).mono ?_
          rintro e w5 ⟨rfl, hb5⟩
          go_wp2_with fail
          refine (H2.out _).mono ?_
          rintro e w6 ⟨rfl, hb6⟩
          have HB6 := Lib.hid (bnx (bnx HBr.out hb5) hb6)
          clear hb5 hb6
          go_wp2_with fail
          go_roundw
          case rel => exact ⟨j + 1, _, _, by go_num, by omega, rfl, rfl, X1, Y1, HB6⟩
          case measure => simp [intOf]; omega
        · obtain rfl : j = c := by omega
          have d1 : decide ((j : Int) + 1 ≤ (j : Int)) = false := decide_eq_false (by omega)
          obtain rfl : x = s := HX.out.trans HUe.out
          obtain rfl : y = x := by rw [HY.out, Nat.sub_self]; exact HO0.out
          clear hlt
          go_wp2_with fail
          refine (HE.out _).mono ?_
          rintro e w5 ⟨rfl, hb5⟩
          go_wp2_with fail
          refine (HK.out _).mono ?_
          rintro e w6 ⟨rfl, hb6⟩
          go_wp2
          go_ret
          exact ⟨rfl, bnx (bnx HBr.out hb5) hb6⟩
end Go.Proofs.Ytihhejeciagdpaa.Sf
