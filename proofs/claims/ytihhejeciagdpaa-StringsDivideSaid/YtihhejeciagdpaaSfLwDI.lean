/-
  The law StringsDivide.
-/
import Derived.Test.YtihhejeciagdpaaSfKnown
import Derived.Test.YtihhejeciagdpaaSfLp
import Derived.Test.YtihhejeciagdpaaSfPad
namespace Go.Proofs.Ytihhejeciagdpaa.Sf
open Go.RowKit
set_option linter.unusedVariables false

theorem and_16 (n : Int) : ∃ m : Nat, bits .and .i64 n 65535 = (m : Int) ∧ m ≤ 65535 := by
  have h2 : (BitVec.ofInt 64 65535).toNat = 65535 := by decide
  have h3 : (BitVec.ofInt 64 n).toNat &&& 65535 ≤ 65535 := Nat.and_le_right
  have e : bits .and .i64 n 65535 = IntKind.i64.wrap ((BitVec.ofInt 64 n &&& BitVec.ofInt 64 65535).toNat : Int) := rfl
  refine ⟨(BitVec.ofInt 64 n).toNat &&& 65535, ?_, h3⟩
  rw [e, BitVec.toNat_and, h2, IntKind.wrap_i64]
  omega
set_option maxRecDepth 100000 in
set_option maxHeartbeats 4000000 in
theorem StringsDivide_any (s : ByteArray) (n : Int) (w : World) (hs : s.size ≤ 9223372036854775807) (hn : I64 n) : Calls Try.prog 4 #[.string s, .int .i64 n] w fun e w' => e = .returned (.bool true) ∧ Below w.heap.size w w' := by
  have HK := Lib.hid known_any
  by_cases h : 400 < s.size
  · have hd : decide ((400 : Int) < (s.size : Int)) = true := decide_eq_true (by omega)
    clear h
    go_enter Try.func4, Try.ntmps4
    go_wp2_with fail
    refine (HK.out _).mono ?_
    rintro e w1 ⟨rfl, hb1⟩
    go_wp2
    go_ret
    exact ⟨rfl, hb1⟩
  · have hd : decide ((400 : Int) < (s.size : Int)) = false := decide_eq_false (by omega)
    obtain ⟨m, hm, hm2⟩ := and_16 n
    have hrc := rc_le s
    have hd1 := fun k => div_both s k (by omega)
    have hd2 := fun k => div_neg s (k := k)
    have hd3 := div_all s
    have HL : Hid (∀ w, Calls Try.prog 14 #[.string s] w fun e w' => e = .returned (.int .i64 (rc s : Int)) ∧ Below w.heap.size w w') := Lib.hid (fun w => Length_any s w (by omega))
    obtain ⟨R, hR⟩ : ∃ R, rc s = R := ⟨_, rfl⟩
    rw [hR] at HL hd3 hrc
    simp only [hR] at hd2
    have h4 : R ≤ 400 := by omega
    clear hR
    obtain ⟨k, hk⟩ : ∃ k, m % (R + 1) = k := ⟨_, rfl⟩
    have hkS : k ≤ R := by have := Nat.mod_lt m (show 0 < R + 1 by omega); omega
    have hrem : (m : Int).tmod ((R : Int) + 1) = (k : Int) := by rw [← hk]; rfl
    have hnz : ¬ ((R : Int) + 1 = 0) := by omega
    have hd1 := hd1 k
    have hd2 := hd2 k
    obtain ⟨a, ha⟩ : ∃ a, slice s 0 (k : Int) = a := ⟨_, rfl⟩
    obtain ⟨b, hb⟩ : ∃ b, slice s (k : Int) 32768 = b := ⟨_, rfl⟩
    rw [ha] at hd2
    rw [ha, hb] at hd1
    have i0 : I64 0 := ⟨by omega, by omega⟩
    have ik : I64 (k : Int) := ⟨by omega, by omega⟩
    have i1 : I64 32768 := ⟨by omega, by omega⟩
    have iR : I64 (R : Int) := ⟨by omega, by omega⟩
    have iN : I64 (-(R : Int)) := ⟨by omega, by omega⟩
    have iM : I64 ((k : Int) - (R : Int)) := ⟨by omega, by omega⟩
    have HA : Hid (∀ w, Calls Try.prog 16 #[.string s, .int .i64 0, .int .i64 (k : Int)] w fun e w' => e = .returned (.string a) ∧ Below w.heap.size w w') := Lib.hid (fun w => by have := Slice_any s 0 (k : Int) w (by omega) i0 ik; rwa [ha] at this)
    have HB : Hid (∀ w, Calls Try.prog 16 #[.string s, .int .i64 (k : Int), .int .i64 32768] w fun e w' => e = .returned (.string b) ∧ Below w.heap.size w w') := Lib.hid (fun w => by have := Slice_any s (k : Int) 32768 w (by omega) ik i1; rwa [hb] at this)
    have HD : Hid (∀ w, Calls Try.prog 16 #[.string s, .int .i64 (-(R : Int)), .int .i64 (R : Int)] w fun e w' => e = .returned (.string s) ∧ Below w.heap.size w w') := Lib.hid (fun w => by have := Slice_any s (-(R : Int)) (R : Int) w (by omega) iN iR; rwa [hd3] at this)
    have hsz : a.size + b.size = s.size := by rw [← hd1, ByteArray.size_append]
    have hsz2 : a.size + b.size ≤ 400 := by omega
    have he : ((a ++ b).toList == s.toList) = true := by rw [hd1]; exact beq_self_eq_true _
    by_cases hkR : k = R
    · have hkr : ((k : Int) == (R : Int)) = true := by rw [beq_iff_eq]; omega
      subst hkR
      clear hd1 hd2 hd3 ha hb hsz i0 ik i1 iR iN iM hk h hrc hs
      go_enter Try.func4, Try.ntmps4
      go_wp2_with fail
      refine (HL.out _).mono ?_
      rintro e w1 ⟨rfl, hb1⟩
      go_wp2_with fail
      refine (HA.out _).mono ?_
      rintro e w2 ⟨rfl, hb2⟩
      go_wp2_with fail
      refine (HB.out _).mono ?_
      rintro e w3 ⟨rfl, hb3⟩
      go_wp2_with fail
      refine (HD.out _).mono ?_
      rintro e w4 ⟨rfl, hb4⟩
      go_wp2_with fail
      refine (HK.out _).mono ?_
      rintro e w5 ⟨rfl, hb5⟩
      go_wp2
      go_ret
      exact ⟨rfl, (bnx (bnx (bnx (bnx hb1 hb2) hb3) hb4) hb5)⟩
    · have hkr : ((k : Int) == (R : Int)) = false := by rw [beq_eq_false_iff_ne]; omega
      have HC : Hid (∀ w, Calls Try.prog 16 #[.string s, .int .i64 0, .int .i64 ((k : Int) - (R : Int))] w fun e w' => e = .returned (.string a) ∧ Below w.heap.size w w') := Lib.hid (fun w => by have := Slice_any s 0 ((k : Int) - (R : Int)) w (by omega) i0 iM; rwa [hd2 (by omega)] at this)
      clear hd1 hd2 hd3 ha hb hsz i0 ik i1 iR iN iM hk h hrc hs hkR
      go_enter Try.func4, Try.ntmps4
      go_wp2_with fail
      refine (HL.out _).mono ?_
      rintro e w1 ⟨rfl, hb1⟩
      go_wp2_with fail
      refine (HA.out _).mono ?_
      rintro e w2 ⟨rfl, hb2⟩
      go_wp2_with fail
      refine (HB.out _).mono ?_
      rintro e w3 ⟨rfl, hb3⟩
      go_wp2_with fail
      refine (HC.out _).mono ?_
      rintro e w4 ⟨rfl, hb4⟩
      go_wp2_with fail
      refine (HD.out _).mono ?_
      rintro e w5 ⟨rfl, hb5⟩
      go_wp2_with fail
      refine (HK.out _).mono ?_
      rintro e w6 ⟨rfl, hb6⟩
      go_wp2
      go_ret
      exact ⟨rfl, (bnx (bnx (bnx (bnx (bnx hb1 hb2) hb3) hb4) hb5) hb6)⟩
end Go.Proofs.Ytihhejeciagdpaa.Sf
