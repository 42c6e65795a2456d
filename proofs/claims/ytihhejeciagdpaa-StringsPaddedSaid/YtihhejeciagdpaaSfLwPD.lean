/-
  The law StringsPadded.
-/
import Derived.Test.YtihhejeciagdpaaSfLwWI
namespace Go.Proofs.Ytihhejeciagdpaa.Sf
open Go.RowKit
set_option linter.unusedVariables false

theorem and_8 (n : Int) : ∃ m : Nat, bits .and .i64 n 255 = (m : Int) ∧ m ≤ 255 := by
  have h2 : (BitVec.ofInt 64 255).toNat = 255 := by decide
  have h3 : (BitVec.ofInt 64 n).toNat &&& 255 ≤ 255 := Nat.and_le_right
  have e : bits .and .i64 n 255 = IntKind.i64.wrap ((BitVec.ofInt 64 n &&& BitVec.ofInt 64 255).toNat : Int) := rfl
  refine ⟨(BitVec.ofInt 64 n).toNat &&& 255, ?_, h3⟩
  rw [e, BitVec.toNat_and, h2, IntKind.wrap_i64]
  omega
theorem suf (a s : ByteArray) : Lib.hasSuffix (a ++ s).data.toList s.data.toList = true := by
  rw [app_list]; unfold Lib.hasSuffix
  rw [List.isSuffixOf_iff_suffix]
  exact List.suffix_append _ _
theorem pre (a s : ByteArray) : Lib.hasPrefix (s ++ a).data.toList s.data.toList = true := by
  rw [app_list]; unfold Lib.hasPrefix
  rw [List.isPrefixOf_iff_prefix]
  exact List.prefix_append _ _
theorem padded {s f : ByteArray} (hs : Pl s) (hf : Pl f) (hn : f.size ≠ 0) (hz : s.size ≤ 200) {n : Nat} (hb : n ≤ 255) : ¬ padBig s f (n : Int) ∧ (padB s f (n : Int)).size = max n s.size - s.size ∧ Pl (padB s f (n : Int)) := by
  have h := pdl_pl hs hf hn n
  refine ⟨?_, ?_, pl_iff.2 (pl_pdl hf _)⟩
  · unfold padBig; rw [h]; omega
  · rw [← size_list]; exact h
set_option maxRecDepth 100000 in
set_option maxHeartbeats 4000000 in
theorem StringsPadded_any (s : ByteArray) (n : Int) (f : ByteArray) (w : World) (hs : s.size ≤ 9223372036854775807) (hn : I64 n) (hf : f.size ≤ 9223372036854775807) : Calls Try.prog 10 #[.string s, .int .i64 n, .string f] w fun e w' => e = .returned (.bool true) ∧ Below w.heap.size w w' := by
  have HK := Lib.hid known_any
  by_cases h0 : 200 < s.size
  · have hd0 : decide ((200 : Int) < (s.size : Int)) = true := decide_eq_true (by omega)
    clear h0
    go_enter Try.func10, Try.ntmps10
    go_wp2_with fail
    refine (HK.out _).mono ?_
    rintro e w1 ⟨rfl, hb1⟩
    go_wp2
    go_ret
    exact ⟨rfl, hb1⟩
  · have hd0 : decide ((200 : Int) < (s.size : Int)) = false := decide_eq_false (by omega)
    by_cases h1 : 20 < f.size
    · have hd1 : decide ((20 : Int) < (f.size : Int)) = true := decide_eq_true (by omega)
      clear h1
      go_enter Try.func10, Try.ntmps10
      go_wp2_with fail
      refine (HK.out _).mono ?_
      rintro e w1 ⟨rfl, hb1⟩
      go_wp2
      go_ret
      exact ⟨rfl, hb1⟩
    · have hd1 : decide ((20 : Int) < (f.size : Int)) = false := decide_eq_false (by omega)
      by_cases ps : Pl s
      · have qs := decide_eq_true ps
        have HPs : Hid (∀ w, Calls Try.prog 22 #[.string s] w fun e w' => e = .returned (.bool true) ∧ Below w.heap.size w w') := Lib.hid (fun w => by have := plain_any s w (by omega); rwa [qs] at this)
        by_cases pf : Pl f
        · have qf := decide_eq_true pf
          have HPf : Hid (∀ w, Calls Try.prog 22 #[.string f] w fun e w' => e = .returned (.bool true) ∧ Below w.heap.size w w') := Lib.hid (fun w => by have := plain_any f w (by omega); rwa [qf] at this)
          by_cases hf0 : f.size = 0
          · have e1 : f.toList.isEmpty = true := by
              rw [Lib.toList_data]; cases hl : f.data.toList with
              | nil => rfl
              | cons x l => rw [← size_list, hl] at hf0; cases hf0
            clear hf0 ps pf qs qf
            go_enter Try.func10, Try.ntmps10
            go_wp2_with fail
            refine (HPs.out _).mono ?_
            rintro e w1 ⟨rfl, hb1⟩
            go_wp2_with fail
            refine (HPf.out _).mono ?_
            rintro e w2 ⟨rfl, hb2⟩
            go_wp2_with fail
            refine (HK.out _).mono ?_
            rintro e w3 ⟨rfl, hb3⟩
            go_wp2
            go_ret
            exact ⟨rfl, (bnx (bnx hb1 hb2) hb3)⟩
          · have e1 := emp_no hf0
            obtain ⟨m, hm, hm2⟩ := and_8 n
            obtain ⟨k1, k2, k3⟩ := padded ps pf hf0 (by omega) hm2
            have im : I64 (m : Int) := ⟨by omega, by omega⟩
            have l1 : pL s f (m : Int) = padB s f (m : Int) ++ s := if_neg k1
            have l2 : pR s f (m : Int) = s ++ padB s f (m : Int) := if_neg k1
            have l3 : padE s f (m : Int) = 0 := if_neg k1
            have HA : Hid (∀ w, Calls Try.prog 25 #[.string s, .int .i64 (m : Int), .string f] w fun e w' => e = .returned (.tuple #[.string (padB s f (m : Int) ++ s), .int .i64 0]) ∧ Below w.heap.size w w') := Lib.hid (fun w => by have := PadLeft_any s f (m : Int) w (by omega) (by omega) im; rwa [l1, l3] at this)
            have HB : Hid (∀ w, Calls Try.prog 27 #[.string s, .int .i64 (m : Int), .string f] w fun e w' => e = .returned (.tuple #[.string (s ++ padB s f (m : Int)), .int .i64 0]) ∧ Below w.heap.size w w') := Lib.hid (fun w => by have := PadRight_any s f (m : Int) w (by omega) (by omega) im; rwa [l2, l3] at this)
            obtain ⟨p, hp⟩ : ∃ p, padB s f (m : Int) = p := ⟨_, rfl⟩
            rw [hp] at HA HB k2 k3
            obtain ⟨Z, hZ⟩ : ∃ Z : Nat, max m s.size = Z := ⟨_, rfl⟩
            have hmx : max (m : Int) (s.size : Int) = (Z : Int) := by omega
            have r1 : rc (p ++ s) = Z := by rw [pl_rc (pl_app k3 ps), ByteArray.size_append]; omega
            have r2 : rc (s ++ p) = Z := by rw [pl_rc (pl_app ps k3), ByteArray.size_append]; omega
            have z1 : (p ++ s).size ≤ 4294967281 := by rw [ByteArray.size_append]; omega
            have z2 : (s ++ p).size ≤ 4294967281 := by rw [ByteArray.size_append]; omega
            have HL1 : Hid (∀ w, Calls Try.prog 14 #[.string (p ++ s)] w fun e w' => e = .returned (.int .i64 (Z : Int)) ∧ Below w.heap.size w w') := Lib.hid (fun w => by have := Length_any (p ++ s) w z1; rwa [r1] at this)
            have HL2 : Hid (∀ w, Calls Try.prog 14 #[.string (s ++ p)] w fun e w' => e = .returned (.int .i64 (Z : Int)) ∧ Below w.heap.size w w') := Lib.hid (fun w => by have := Length_any (s ++ p) w z2; rwa [r2] at this)
            have HS : Hid (∀ w, Calls Try.prog 29 #[.string (p ++ s), .string s] w fun e w' => e = .returned (.bool true) ∧ Below w.heap.size w w') := Lib.hid (fun w => (Try.strings_HasSuffix (p ++ s) s w (by omega)).mono (fun e w' ⟨h1, h2⟩ => ⟨by rw [h1, suf], by rw [h2]; exact Below.refl _ _⟩))
            have HF : Hid (∀ w, Calls Try.prog 30 #[.string (s ++ p), .string s] w fun e w' => e = .returned (.bool true) ∧ Below w.heap.size w w') := Lib.hid (fun w => (Try.strings_HasPrefix (s ++ p) s w).mono (fun e w' ⟨h1, h2⟩ => ⟨by rw [h1, pre], by rw [h2]; exact Below.refl _ _⟩))
            clear hf0 ps pf qs qf k1 k2 k3 l1 l2 l3 im hp r1 r2 z1 z2 hZ h0 h1
            go_enter Try.func10, Try.ntmps10
            go_wp2_with fail
            refine (HPs.out _).mono ?_
            rintro e w1 ⟨rfl, hb1⟩
            go_wp2_with fail
            refine (HPf.out _).mono ?_
            rintro e w2 ⟨rfl, hb2⟩
            go_wp2_with fail
            refine (HA.out _).mono ?_
            rintro e w3 ⟨rfl, hb3⟩
            go_wp2_with fail
            refine (HB.out _).mono ?_
            rintro e w4 ⟨rfl, hb4⟩
            go_wp2_with fail
            refine (HL1.out _).mono ?_
            rintro e w5 ⟨rfl, hb5⟩
            go_wp2_with fail
            refine (HL2.out _).mono ?_
            rintro e w6 ⟨rfl, hb6⟩
            go_wp2_with fail
            refine (HS.out _).mono ?_
            rintro e w7 ⟨rfl, hb7⟩
            go_wp2_with fail
            refine (HF.out _).mono ?_
            rintro e w8 ⟨rfl, hb8⟩
            go_wp2_with fail
            refine (HK.out _).mono ?_
            rintro e w9 ⟨rfl, hb9⟩
            go_wp2
            go_ret
            exact ⟨rfl, (bnx (bnx (bnx (bnx (bnx (bnx (bnx (bnx hb1 hb2) hb3) hb4) hb5) hb6) hb7) hb8) hb9)⟩
        · have qf := decide_eq_false pf
          have HPf : Hid (∀ w, Calls Try.prog 22 #[.string f] w fun e w' => e = .returned (.bool false) ∧ Below w.heap.size w w') := Lib.hid (fun w => by have := plain_any f w (by omega); rwa [qf] at this)
          clear ps pf qs qf
          go_enter Try.func10, Try.ntmps10
          go_wp2_with fail
          refine (HPs.out _).mono ?_
          rintro e w1 ⟨rfl, hb1⟩
          go_wp2_with fail
          refine (HPf.out _).mono ?_
          rintro e w2 ⟨rfl, hb2⟩
          go_wp2_with fail
          refine (HK.out _).mono ?_
          rintro e w3 ⟨rfl, hb3⟩
          go_wp2
          go_ret
          exact ⟨rfl, (bnx (bnx hb1 hb2) hb3)⟩
      · have qs := decide_eq_false ps
        have HPs : Hid (∀ w, Calls Try.prog 22 #[.string s] w fun e w' => e = .returned (.bool false) ∧ Below w.heap.size w w') := Lib.hid (fun w => by have := plain_any s w (by omega); rwa [qs] at this)
        clear ps qs
        go_enter Try.func10, Try.ntmps10
        go_wp2_with fail
        refine (HPs.out _).mono ?_
        rintro e w1 ⟨rfl, hb1⟩
        go_wp2_with fail
        refine (HK.out _).mono ?_
        rintro e w2 ⟨rfl, hb2⟩
        go_wp2
        go_ret
        exact ⟨rfl, (bnx hb1 hb2)⟩
end Go.Proofs.Ytihhejeciagdpaa.Sf
