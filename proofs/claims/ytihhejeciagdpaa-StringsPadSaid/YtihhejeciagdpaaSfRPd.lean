/-
  The contracts of padding, pad, PadLeft, PadRight of the reference of chapter 9.
-/
import Derived.Test.YtihhejeciagdpaaSfRSl
namespace Go.Proofs.Ytihhejeciagdpaa.Sf
open Go.RowKit Go.Shelf
set_option linter.unusedVariables false

theorem below_drew {B : Nat} {w W : World} (h : Below B w W) : Below B w W.drew := h.drew
/-- A byte string of a list, and one rune more. -/
theorem pdl_app {f : ByteArray} (h : 0 < rc f) (i : Nat) : (⟨(pdl f i).toArray⟩ : ByteArray) ++ rn f (i % rc f) = ⟨(pdl f (i + 1)).toArray⟩ := by
  apply bs_inj
  rw [app_list]
  show pdl f i ++ _ = pdl f (i + 1)
  rw [pdl_succ h]
theorem pdl_size (f : ByteArray) (i : Nat) : (⟨(pdl f i).toArray⟩ : ByteArray).size = (pdl f i).length := by rw [← size_list]
theorem rn_size (f : ByteArray) (k : Nat) : (rn f k).size ≤ f.size := by unfold rn; rw [ByteArray.size_extract]; omega
/-- What the reference's padding returns. -/
def rpdS (f : ByteArray) (n : Nat) : ByteArray := if 32768 < (pdl f n).length then ⟨#[]⟩ else ⟨(pdl f n).toArray⟩
def rpdB (f : ByteArray) (n : Nat) : Bool := if 32768 < (pdl f n).length then false else true
set_option maxRecDepth 100000 in
set_option maxHeartbeats 4000000 in
theorem Rpadding_any (f : ByteArray) (n : Nat) (w : World) (hf : f.size ≤ 1048576) (hf0 : f.size ≠ 0) (hn : n ≤ 9223372036854775807) :
    Calls Try.prog 51 #[.int .i64 (n : Int), .string f] w fun e w' => e = .returned (.tuple #[.string (rpdS f n), .bool (rpdB f n)]) ∧ Below w.heap.size w w' := by
  have hrc := rc_le f
  have hrp := rc_pos hf0
  have HS : Hid (rpdS f n = if 32768 < (pdl f n).length then ⟨#[]⟩ else ⟨(pdl f n).toArray⟩) := Lib.hid rfl
  have HE : Hid (rpdB f n = if 32768 < (pdl f n).length then false else true) := Lib.hid rfl
  have HAp := Lib.hid (fun i => pdl_app hrp i)
  have HMo := Lib.hid (fun i h => pdl_mono hrp (n := i) (m := n) h)
  clear hf0
  go_enter Try.func51, Try.ntmps51
  go_wp2_with fail
  refine (starts_rg f _ (by omega)).mono ?_
  rintro e w1 ⟨g, c, rfl, hg, hb1⟩
  have HG := Lib.hid hg
  have hcl := hg.le
  rw [al_len] at hcl
  have hcm := hg.mx
  have HB1 := Lib.hid hb1
  clear hg hb1
  obtain ⟨R, hR⟩ : ∃ R, rc f = R := ⟨_, rfl⟩
  have HRR := Lib.hid hR
  rw [hR] at hcl hrp hrc HAp
  rw [hR]
  clear hR
  go_wp2_with fail
  go_loopw [7, 8] (fun ov iv wr => ∃ (i : Nat) (o : ByteArray), iv = .int .i64 i ∧ i ≤ n ∧ ov = .string o ∧ o.size ≤ 32768 ∧ Hid (o = ⟨(pdl f i).toArray⟩) ∧ Hid (RG wr g c (al f)) ∧ Hid (Below w.heap.size w wr)) (fun _ i _ => n - (intOf i).toNat)
  case atStart => exact ⟨0, _, by go_num, Nat.zero_le _, rfl, Nat.zero_le _, Lib.hid (by rw [pdl_zero]), HG, HB1⟩
  case round =>
    obtain ⟨i, o, rfl, hi, rfl, ho, HO, HR, HB⟩ := hrel
    by_cases hlt : i < n
    · have hd : decide ((i : Int) < (n : Int)) = true := decide_eq_true (by omega)
      obtain ⟨k, hk⟩ : ∃ k, i % R = k := ⟨_, rfl⟩
      have hkR : k < R := by rw [← hk]; exact Nat.mod_lt _ hrp
      have hmd : (i : Int).tmod (R : Int) = (k : Int) := by rw [← hk]; rfl
      have hnz : ¬ ((R : Int) = 0) := by omega
      have c1 := HR.out.ag (i := k) (by rw [HRR.out]; omega)
      have c2 := HR.out.ag (i := k + 1) (by rw [HRR.out]; omega)
      have hm1 := ag_mono f (Nat.le_add_right k 1)
      have hm2 := ag_le f (k + 1)
      have HX := Lib.hid (HAp.out i)
      have HRn : Hid (rn f k = f.extract (ag f k) (ag f (k + 1))) := Lib.hid rfl
      rw [hk, ← HO.out, HRn.out] at HX
      have hzs := rn_size f k
      rw [HRn.out] at hzs
      have hz := congrArg ByteArray.size HX.out
      rw [pdl_size] at hz
      obtain ⟨A1, hA1⟩ : ∃ A, ag f k = A := ⟨_, rfl⟩
      obtain ⟨A2, hA2⟩ : ∃ A, ag f (k + 1) = A := ⟨_, rfl⟩
      rw [hA1] at c1
      rw [hA2] at c2
      rw [hA1, hA2] at HX hm1 hzs hz
      rw [hA2] at hm2
      have hp1 : (A1 : Int) ≤ (A2 : Int) := by omega
      have hp2 : (A2 : Int) ≤ (f.size : Int) := by omega
      have x1 : (k : Int) < (R : Int) + 1 := by omega
      have x2 : (k : Int) + 1 < (R : Int) + 1 := by omega
      have x3 : ((k : Int) + 1).toNat = k + 1 := by omega
      have x4 : (0 : Int) ≤ (k : Int) + 1 := by omega
      have s1 : o.size + (f.extract A1 A2).size ≤ 9223372036854775807 := by omega
      obtain ⟨O2, hO2⟩ : ∃ O2, o ++ f.extract A1 A2 = O2 := ⟨_, rfl⟩
      have HO2 := Lib.hid hO2
      rw [hO2] at hz
      rw [hO2] at HX
      clear hk hA1 hA2 hO2
      by_cases hb : 32768 < O2.size
      · have hd2 : decide ((32768 : Int) < (O2.size : Int)) = true := decide_eq_true (by omega)
        have hm := HMo.out (i + 1) hlt
        have HS2 : Hid (rpdS f n = ⟨#[]⟩) := Lib.hid (by rw [HS.out, if_pos (by omega)])
        have HE2 : Hid (rpdB f n = false) := Lib.hid (by rw [HE.out, if_pos (by omega)])
        clear hm hz hzs
        go_wp2
        go_region
        simp only [HO2.out]
        go_wp2
        go_ret2
        exact ⟨by rw [HS2.out, HE2.out]; rfl, HB.out.drew⟩
      · have hd2 : decide ((32768 : Int) < (O2.size : Int)) = false := decide_eq_false (by omega)
        clear hz hzs
        go_wp2
        go_region
        simp only [HO2.out]
        go_wp2
        go_roundw
        case rel => exact ⟨i + 1, O2, by go_num, by omega, rfl, by omega, HX, Lib.hid (HR.out.keep ((Below.refl _ _).drew)), Lib.hid HB.out.drew⟩
        case measure => simp [intOf]; omega
    · have hd : decide ((i : Int) < (n : Int)) = false := decide_eq_false (by omega)
      obtain rfl : i = n := by omega
      have hz : (pdl f i).length ≤ 32768 := by
        have := ho; rw [HO.out, pdl_size] at this; exact this
      have HS2 : Hid (rpdS f i = o) := Lib.hid (by rw [HS.out, if_neg (by omega), HO.out])
      have HE2 : Hid (rpdB f i = true) := Lib.hid (by rw [HE.out, if_neg (by omega)])
      clear hz
      go_wp2_with fail
      go_ret2
      exact ⟨by rw [HS2.out, HE2.out]; rfl, HB.out⟩
end Go.Proofs.Ytihhejeciagdpaa.Sf
