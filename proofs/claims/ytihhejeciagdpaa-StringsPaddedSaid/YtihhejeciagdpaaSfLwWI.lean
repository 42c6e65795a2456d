/-
  The law StringsWithin; what plain says.
-/
import Derived.Test.YtihhejeciagdpaaSfKnown
import Derived.Test.YtihhejeciagdpaaSfLp
import Derived.Test.YtihhejeciagdpaaSfPad
namespace Go.Proofs.Ytihhejeciagdpaa.Sf
open Go.RowKit
set_option linter.unusedVariables false

theorem pl_step {s : ByteArray} {k : Nat} (h : ∀ i (hi : i < s.size), i < k → s[i] < 128) (hk : k < s.size) (hb : s[k].toNat < 128) : ∀ i (hi : i < s.size), i < k + 1 → s[i] < 128 := by
  intro i hi h1
  rcases Nat.lt_or_ge i k with h2 | h2
  · exact h i hi h2
  · obtain rfl : i = k := by omega
    exact hb
instance (s : ByteArray) : Decidable (Pl s) := inferInstanceAs (Decidable (∀ (i : Nat) (h : i < s.size), s[i] < 128))
set_option maxRecDepth 100000 in
set_option maxHeartbeats 4000000 in
theorem plain_any (s : ByteArray) (w : World) (hs : s.size ≤ 4294967281) : Calls Try.prog 22 #[.string s] w fun e w' => e = .returned (.bool (decide (Pl s))) ∧ Below w.heap.size w w' := by
  go_enter Try.func22, Try.ntmps22
  go_wp2_with fail
  go_loopw [3] (fun i wr => ∃ k : Nat, i = .int .i64 k ∧ k ≤ s.size ∧ Hid (Below w.heap.size w wr) ∧ Hid (∀ i (hi : i < s.size), i < k → s[i] < 128)) (fun i _ => s.size - (intOf i).toNat)
  case atStart => exact ⟨0, rfl, Nat.zero_le _, Lib.hid (Below.refl _ _), Lib.hid (fun _ _ h => absurd h (Nat.not_lt_zero _))⟩
  case round =>
    obtain ⟨k, rfl, hk, HB, HP⟩ := hrel
    by_cases hlt : k < s.size
    · obtain ⟨c, hc⟩ : ∃ c, s[k]'hlt = c := ⟨_, rfl⟩
      have hget : ∀ h, s[k]'h = c := fun _ => hc
      by_cases h1 : c.toNat < 128
      · have d1 : decide ((128 : Int) ≤ (c.toNat : Int)) = false := decide_eq_false (by omega)
        have HP2 := Lib.hid (pl_step HP.out hlt (by rw [hc]; exact h1))
        clear hc h1
        go_wp2_with fail
        go_roundw
        case rel => exact ⟨k + 1, by go_num, by omega, HB, HP2⟩
        case measure => simp [intOf]; omega
      · have d1 : decide ((128 : Int) ≤ (c.toNat : Int)) = true := decide_eq_true (by omega)
        have HN : Hid (decide (Pl s) = false) := Lib.hid (decide_eq_false (fun hp => h1 (by have := hp k hlt; rw [hc] at this; exact this)))
        clear hc h1
        go_wp2_with fail
        go_ret
        exact ⟨by rw [HN.out]; rfl, HB.out⟩
    · obtain rfl : k = s.size := by omega
      have HN : Hid (decide (Pl s) = true) := Lib.hid (decide_eq_true (fun i hi => HP.out i hi hi))
      go_wp2_with fail
      go_ret
      exact ⟨by rw [HN.out]; rfl, HB.out⟩
set_option maxRecDepth 100000 in
set_option maxHeartbeats 4000000 in
theorem StringsWithin_any (a b c : ByteArray) (w : World) (ha : a.size ≤ 9223372036854775807) (hb : b.size ≤ 9223372036854775807) (hc : c.size ≤ 9223372036854775807) : Calls Try.prog 6 #[.string a, .string b, .string c] w fun e w' => e = .returned (.bool true) ∧ Below w.heap.size w w' := by
  have HK := Lib.hid known_any
  by_cases h0 : 100 < a.size
  · have hd0 : decide ((100 : Int) < (a.size : Int)) = true := decide_eq_true (by omega)
    clear h0
    go_enter Try.func6, Try.ntmps6
    go_wp2_with fail
    refine (HK.out _).mono ?_
    rintro e w1 ⟨rfl, hb1⟩
    go_wp2
    go_ret
    exact ⟨rfl, hb1⟩
  · have hd0 : decide ((100 : Int) < (a.size : Int)) = false := decide_eq_false (by omega)
    by_cases h1 : 100 < b.size
    · have hd1 : decide ((100 : Int) < (b.size : Int)) = true := decide_eq_true (by omega)
      clear h1
      go_enter Try.func6, Try.ntmps6
      go_wp2_with fail
      refine (HK.out _).mono ?_
      rintro e w1 ⟨rfl, hb1⟩
      go_wp2
      go_ret
      exact ⟨rfl, hb1⟩
    · have hd1 : decide ((100 : Int) < (b.size : Int)) = false := decide_eq_false (by omega)
      by_cases h2 : 100 < c.size
      · have hd2 : decide ((100 : Int) < (c.size : Int)) = true := decide_eq_true (by omega)
        clear h2
        go_enter Try.func6, Try.ntmps6
        go_wp2_with fail
        refine (HK.out _).mono ?_
        rintro e w1 ⟨rfl, hb1⟩
        go_wp2
        go_ret
        exact ⟨rfl, hb1⟩
      · have hd2 : decide ((100 : Int) < (c.size : Int)) = false := decide_eq_false (by omega)
        by_cases pa : Pl a
        · have qa := decide_eq_true pa
          have HPa : Hid (∀ w, Calls Try.prog 22 #[.string a] w fun e w' => e = .returned (.bool true) ∧ Below w.heap.size w w') := Lib.hid (fun w => by have := plain_any a w (by omega); rwa [qa] at this)
          by_cases pb : Pl b
          · have qb := decide_eq_true pb
            have HPb : Hid (∀ w, Calls Try.prog 22 #[.string b] w fun e w' => e = .returned (.bool true) ∧ Below w.heap.size w w') := Lib.hid (fun w => by have := plain_any b w (by omega); rwa [qb] at this)
            by_cases pc : Pl c
            · have qc := decide_eq_true pc
              have HPc : Hid (∀ w, Calls Try.prog 22 #[.string c] w fun e w' => e = .returned (.bool true) ∧ Below w.heap.size w w') := Lib.hid (fun w => by have := plain_any c w (by omega); rwa [qc] at this)
              have hl : (a ++ b ++ c).size ≤ 4294967281 := by rw [wi_size]; omega
              have hb4 : b.size ≤ 4294967281 := by omega
              have hw1 := wi_first pa pb pc
              have hw2 := wi_there pa pb pc
              have hw3 := wi_count pa pb pc
              obtain ⟨p, hp1, hp2⟩ := hw1
              have hra : rc a = a.size := pl_rc pa
              have HF : Hid (∀ w, Calls Try.prog 18 #[.string (a ++ b ++ c), .string b, .int .i64 0] w fun e w' => e = .returned (.int .i64 (p : Int)) ∧ Below w.heap.size w w') := Lib.hid (fun w => by have := Find_any (a ++ b ++ c) b 0 w hl hb4; rwa [hp1] at this)
              have HG : Hid (∀ w, Calls Try.prog 18 #[.string (a ++ b ++ c), .string b, .int .i64 (a.size : Int)] w fun e w' => e = .returned (.int .i64 (a.size : Int)) ∧ Below w.heap.size w w') := Lib.hid (fun w => by have := Find_any (a ++ b ++ c) b (a.size : Int) w hl hb4; rwa [hw2] at this)
              have HL : Hid (∀ w, Calls Try.prog 14 #[.string a] w fun e w' => e = .returned (.int .i64 (a.size : Int)) ∧ Below w.heap.size w w') := Lib.hid (fun w => by have := Length_any a w (by omega); rwa [hra] at this)
              have HC : Hid (∀ w, Calls Try.prog 20 #[.string (a ++ b ++ c), .string b] w fun e w' => e = .returned (.int .i64 ((occ (a ++ b ++ c) b).length : Int)) ∧ Below w.heap.size w w') := Lib.hid (fun w => Count_any (a ++ b ++ c) b w hl hb4)
              obtain ⟨n, hn⟩ : ∃ n, (occ (a ++ b ++ c) b).length = n := ⟨_, rfl⟩
              rw [hn] at HC hw3
              have hz1 : a.size + b.size ≤ 300 := by omega
              have hz2 : (a ++ b).size + c.size ≤ 300 := by rw [ByteArray.size_append]; omega
              have d1 : decide ((0 : Int) ≤ (p : Int)) = true := decide_eq_true (by omega)
              have d2 : decide ((p : Int) ≤ (a.size : Int)) = true := decide_eq_true (by omega)
              clear hl hb4 hw2 hp1 hra hn pa pb pc qa qb qc h0 h1 h2
              by_cases hb0 : b.size = 0
              · obtain rfl : n = 0 := hw3.2 hb0
                have e1 : b.toList.isEmpty = true := by
                  rw [Lib.toList_data]; cases hl : b.data.toList with
                  | nil => rfl
                  | cons x l => rw [← size_list, hl] at hb0; cases hb0
                clear hw3 hb0
                go_enter Try.func6, Try.ntmps6
                go_wp2_with fail
                refine (HPa.out _).mono ?_
                rintro e w1 ⟨rfl, hb1⟩
                go_wp2_with fail
                refine (HPb.out _).mono ?_
                rintro e w2 ⟨rfl, hb2⟩
                go_wp2_with fail
                refine (HPc.out _).mono ?_
                rintro e w3 ⟨rfl, hb3⟩
                go_wp2_with fail
                refine (HF.out _).mono ?_
                rintro e w4 ⟨rfl, hb4⟩
                go_wp2_with fail
                refine (HL.out _).mono ?_
                rintro e w5 ⟨rfl, hb5⟩
                go_wp2_with fail
                refine (HL.out _).mono ?_
                rintro e w6 ⟨rfl, hb6⟩
                go_wp2_with fail
                refine (HG.out _).mono ?_
                rintro e w7 ⟨rfl, hb7⟩
                go_wp2_with fail
                refine (HL.out _).mono ?_
                rintro e w8 ⟨rfl, hb8⟩
                go_wp2_with fail
                refine (HC.out _).mono ?_
                rintro e w9 ⟨rfl, hb9⟩
                go_wp2_with fail
                refine (HK.out _).mono ?_
                rintro e w10 ⟨rfl, hb10⟩
                go_wp2
                go_ret
                exact ⟨rfl, (bnx (bnx (bnx (bnx (bnx (bnx (bnx (bnx (bnx hb1 hb2) hb3) hb4) hb5) hb6) hb7) hb8) hb9) hb10)⟩
              · have e1 := emp_no hb0
                have e2 : ((n : Int) == 0) = false := by rw [beq_eq_false_iff_ne]; intro h; exact hb0 (hw3.1 (by omega))
                clear hw3 hb0
                go_enter Try.func6, Try.ntmps6
                go_wp2_with fail
                refine (HPa.out _).mono ?_
                rintro e w1 ⟨rfl, hb1⟩
                go_wp2_with fail
                refine (HPb.out _).mono ?_
                rintro e w2 ⟨rfl, hb2⟩
                go_wp2_with fail
                refine (HPc.out _).mono ?_
                rintro e w3 ⟨rfl, hb3⟩
                go_wp2_with fail
                refine (HF.out _).mono ?_
                rintro e w4 ⟨rfl, hb4⟩
                go_wp2_with fail
                refine (HL.out _).mono ?_
                rintro e w5 ⟨rfl, hb5⟩
                go_wp2_with fail
                refine (HL.out _).mono ?_
                rintro e w6 ⟨rfl, hb6⟩
                go_wp2_with fail
                refine (HG.out _).mono ?_
                rintro e w7 ⟨rfl, hb7⟩
                go_wp2_with fail
                refine (HL.out _).mono ?_
                rintro e w8 ⟨rfl, hb8⟩
                go_wp2_with fail
                refine (HC.out _).mono ?_
                rintro e w9 ⟨rfl, hb9⟩
                go_wp2_with fail
                refine (HK.out _).mono ?_
                rintro e w10 ⟨rfl, hb10⟩
                go_wp2
                go_ret
                exact ⟨rfl, (bnx (bnx (bnx (bnx (bnx (bnx (bnx (bnx (bnx hb1 hb2) hb3) hb4) hb5) hb6) hb7) hb8) hb9) hb10)⟩
            · have qc := decide_eq_false pc
              have HPc : Hid (∀ w, Calls Try.prog 22 #[.string c] w fun e w' => e = .returned (.bool false) ∧ Below w.heap.size w w') := Lib.hid (fun w => by have := plain_any c w (by omega); rwa [qc] at this)
              clear pc qc
              go_enter Try.func6, Try.ntmps6
              go_wp2_with fail
              refine (HPa.out _).mono ?_
              rintro e w1 ⟨rfl, hb1⟩
              go_wp2_with fail
              refine (HPb.out _).mono ?_
              rintro e w2 ⟨rfl, hb2⟩
              go_wp2_with fail
              refine (HPc.out _).mono ?_
              rintro e w3 ⟨rfl, hb3⟩
              go_wp2_with fail
              refine (HK.out _).mono ?_
              rintro e w4 ⟨rfl, hb4⟩
              go_wp2
              go_ret
              exact ⟨rfl, (bnx (bnx (bnx hb1 hb2) hb3) hb4)⟩
          · have qb := decide_eq_false pb
            have HPb : Hid (∀ w, Calls Try.prog 22 #[.string b] w fun e w' => e = .returned (.bool false) ∧ Below w.heap.size w w') := Lib.hid (fun w => by have := plain_any b w (by omega); rwa [qb] at this)
            clear pb qb
            go_enter Try.func6, Try.ntmps6
            go_wp2_with fail
            refine (HPa.out _).mono ?_
            rintro e w1 ⟨rfl, hb1⟩
            go_wp2_with fail
            refine (HPb.out _).mono ?_
            rintro e w2 ⟨rfl, hb2⟩
            go_wp2_with fail
            refine (HK.out _).mono ?_
            rintro e w3 ⟨rfl, hb3⟩
            go_wp2
            go_ret
            exact ⟨rfl, (bnx (bnx hb1 hb2) hb3)⟩
        · have qa := decide_eq_false pa
          have HPa : Hid (∀ w, Calls Try.prog 22 #[.string a] w fun e w' => e = .returned (.bool false) ∧ Below w.heap.size w w') := Lib.hid (fun w => by have := plain_any a w (by omega); rwa [qa] at this)
          clear pa qa
          go_enter Try.func6, Try.ntmps6
          go_wp2_with fail
          refine (HPa.out _).mono ?_
          rintro e w1 ⟨rfl, hb1⟩
          go_wp2_with fail
          refine (HK.out _).mono ?_
          rintro e w2 ⟨rfl, hb2⟩
          go_wp2
          go_ret
          exact ⟨rfl, (bnx hb1 hb2)⟩
end Go.Proofs.Ytihhejeciagdpaa.Sf
