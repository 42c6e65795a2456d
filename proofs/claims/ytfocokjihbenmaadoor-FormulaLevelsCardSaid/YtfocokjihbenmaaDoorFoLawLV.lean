/-
  The law on levels (P8.3).
-/
import Derived.Test.YtfocokjihbenmaaDoorFoLevP
import Derived.Test.YtfocokjihbenmaaDoorFoLaw
import Derived.Test.YtfocokjihbenmaaDoorShelf2
namespace Go.Proofs.YtfocokjihbenmaaDoor.Fo
open Go.RowKit Go.Proofs.YtfocokjihbenmaaDoor.Nu
set_option linter.unusedVariables false
set_option linter.unusedSimpArgs false

theorem rep_list (c : UInt8) : ∀ n, Lib.repeatL [c] n = List.replicate n c
  | 0 => rfl
  | n + 1 => by rw [Lib.repeatL, rep_list c n]; rfl
theorem Rep_any (c : UInt8) (n : Nat) (h : n ≤ 31) (w : World) : Calls Tryd.prog 9 #[.string ⟨#[c]⟩, .int .i64 (n : Int)] w fun e w' => e = .returned (.string ⟨(List.replicate n c).toArray⟩) ∧ Below w.heap.size w w' := by
  rcases Nat.lt_or_ge n 2 with h2 | h2
  · rcases (by omega : n = 0 ∨ n = 1) with rfl | rfl
    · exact (Tryd.strings_Repeat_zero ⟨#[c]⟩ w).mono fun e w' ⟨h1, h2⟩ => ⟨h1, h2 ▸ Below.refl _ _⟩
    · exact (Tryd.strings_Repeat_one ⟨#[c]⟩ w).mono fun e w' ⟨h1, h2⟩ => ⟨h1, h2 ▸ Below.refl _ _⟩
  · refine (Tryd.strings_Repeat_main ⟨#[c]⟩ n w h2 (by omega) (by have : (⟨#[c]⟩ : ByteArray).size = 1 := rfl; rw [this]; omega) (Nat.lt_of_lt_of_eq Nat.zero_lt_one rfl)).mono fun e w' ⟨h3, h4⟩ => ⟨?_, h4⟩
    rw [h3, show ((⟨#[c]⟩ : ByteArray).data.toList) = [c] from rfl, rep_list]
theorem and_31 (n : Int) : 0 ≤ bits .and .i64 n 31 ∧ bits .and .i64 n 31 ≤ 31 := by
  have h2 : (BitVec.ofInt 64 31).toNat = 31 := by decide
  have h3 : (BitVec.ofInt 64 n).toNat &&& 31 ≤ 31 := Nat.and_le_right
  have e : bits .and .i64 n 31 = IntKind.i64.wrap ((BitVec.ofInt 64 n &&& BitVec.ofInt 64 31).toNat : Int) := rfl
  rw [e, BitVec.toNat_and, h2, IntKind.wrap_i64]
  omega
theorem EvAt (s : ByteArray) (L : List UInt8) (h : s.data.toList = L) (n d x : Int) (hv : ev L = ⟨n, d, x⟩) (w : World) (ht : Tb w) : Calls Tryd.prog 8 #[.string s] w fun e w' => e = .returned (.tuple #[.agg #[.int .i64 n, .int .i64 d], .int .i64 x]) ∧ Below w.heap.size w w' := by
  have h2 := Eval_any s w ht
  rw [h, hv] at h2
  exact h2
theorem lv_ev {n : Nat} (h : n ≤ 31) : ev (lvT n) = if 20 ≤ n then ⟨0, 0, 17⟩ else ⟨7, 1, 0⟩ := by
  have h1 := List.all_eq_true.1 lv_all_ok n (List.mem_range.2 (by omega))
  unfold lvOk at h1
  generalize ev (lvT n) = r at h1 ⊢
  obtain ⟨a, b, c⟩ := r
  by_cases h20 : 20 ≤ n
  · simp only [if_pos h20] at h1 ⊢
    simp at h1
    obtain ⟨rfl, rfl, rfl⟩ := h1; rfl
  · simp only [if_neg h20] at h1 ⊢
    simp at h1
    obtain ⟨rfl, rfl, rfl⟩ := h1; rfl
set_option maxRecDepth 100000 in
set_option maxHeartbeats 4000000 in
theorem FormulaLevels_any (a : Int) (w : World) (ht : Tb w) : Calls Tryd.prog 3 #[.int .i64 a] w fun e w' => e = .returned (.bool true) ∧ Below w.heap.size w w' := by
  obtain ⟨k0, k31⟩ := and_31 a
  obtain ⟨n, hn⟩ : ∃ n : Nat, bits .and .i64 a 31 = (n : Int) := ⟨(bits .and .i64 a 31).toNat, by omega⟩
  rw [hn] at k0 k31
  have hn31 : n ≤ 31 := by omega
  clear k0 k31
  have HV := Lib.hid (lv_ev hn31)
  have HO := Lib.hid (Rep_any 40 n hn31)
  have HC := Lib.hid (Rep_any 41 n hn31)
  have HT := Lib.hid ht
  have HL : Hid (lvT n = List.replicate n 40 ++ [55] ++ List.replicate n 41) := Lib.hid rfl
  have l1 : (List.replicate n (40 : UInt8)).length ≤ 31 := by simp; omega
  have l2 : (List.replicate n (41 : UInt8)).length ≤ 31 := by simp; omega
  generalize List.replicate n (40 : UInt8) = x at HO HL l1
  generalize List.replicate n (41 : UInt8) = y at HC HL l2
  generalize lvT n = L at HV HL
  clear ht
  have he0 : eqN 0 0 0 0 = true := by decide
  have he7 : eqN 7 1 7 1 = true := by decide
  have eqr := eq_num
  by_cases h20 : 20 ≤ n
  · have HE := Lib.hid (HV.out.trans (if_pos h20))
    have hd : decide ((n : Int) + 1 > 20) = true := by rw [decide_eq_true_iff]; omega
    clear h20
    go_enter Tryd.func3, Tryd.ntmps3
    go_wp2_with fail
    refine (HO.out _).mono ?_
    rintro e w1 ⟨rfl, hb1⟩
    have HB1 := Lib.hid hb1; clear hb1
    go_wp2_with fail
    refine (HC.out _).mono ?_
    rintro e w2 ⟨rfl, hb2⟩
    have HB2 := Lib.hid (HB1.out.trans (hb2.mono HB1.out.size)); clear hb2
    go_wp2_with fail
    refine (EvAt _ L (by rw [HL.out]; simp) _ _ _ HE.out _ (HT.out.below HB2.out)).mono ?_
    rintro e w3 ⟨rfl, hb3⟩
    have HB3 := Lib.hid (HB2.out.trans (hb3.mono HB2.out.size)); clear hb3
    have HK := Lib.hid (known_any (w3.alloc (nb1 0 0)) (HT.out.below (HB3.out.alloc HB3.out.size _)))
    have HA3 := Lib.hid (HB3.out.alloc HB3.out.size (nb1 0 0))
    unfold nb1 at HK
    go_wp2_with fail
    refine HK.out.mono ?_
    rintro e w6 ⟨rfl, hb6⟩
    go_wp2
    go_ret
    exact ⟨rfl, HA3.out.trans (hb6.mono HA3.out.size)⟩
  · have HE := Lib.hid (HV.out.trans (if_neg h20))
    have hd : decide ((n : Int) + 1 > 20) = false := by rw [decide_eq_false_iff_not]; omega
    clear h20
    go_enter Tryd.func3, Tryd.ntmps3
    go_wp2_with fail
    refine (HO.out _).mono ?_
    rintro e w1 ⟨rfl, hb1⟩
    have HB1 := Lib.hid hb1; clear hb1
    go_wp2_with fail
    refine (HC.out _).mono ?_
    rintro e w2 ⟨rfl, hb2⟩
    have HB2 := Lib.hid (HB1.out.trans (hb2.mono HB1.out.size)); clear hb2
    go_wp2_with fail
    refine (EvAt _ L (by rw [HL.out]; simp) _ _ _ HE.out _ (HT.out.below HB2.out)).mono ?_
    rintro e w3 ⟨rfl, hb3⟩
    have HB3 := Lib.hid (HB2.out.trans (hb3.mono HB2.out.size)); clear hb3
    have HK := Lib.hid (known_any (w3.alloc (nb1 7 1)) (HT.out.below (HB3.out.alloc HB3.out.size _)))
    have HA3 := Lib.hid (HB3.out.alloc HB3.out.size (nb1 7 1))
    unfold nb1 at HK
    go_wp2_with fail
    refine HK.out.mono ?_
    rintro e w6 ⟨rfl, hb6⟩
    go_wp2
    go_ret
    exact ⟨rfl, HA3.out.trans (hb6.mono HA3.out.size)⟩
end Go.Proofs.YtfocokjihbenmaaDoor.Fo
