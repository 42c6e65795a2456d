/-
  Trimmed strings: the contracts of strfunc.Trim and of the reference's.
-/
import Derived.Shelf.Strings.SlTrimAscii
import Derived.Test.YtaallpfkgcndmaaDoorShelf
import Derived.Test.YtaallpfkgcndmaaDoorPmPure
import Derived.WalkKit
import Derived.WalkSpells
import Derived.Lib.Hide
import Derived.IntWalk
import Derived.WalkSmall
import Derived.Laws.IdiomStrings
namespace Go.Proofs.YtaallpfkgcndmaaDoor.Pm
open Go.RowKit Go.Shelf
set_option linter.unusedVariables false
set_option linter.unusedSimpArgs false

theorem ret_int {k : IntKind} {a b : Int} (h : a = b) : Ending.returned (.int k a) = .returned (.int k b) := by rw [h]
theorem ret_bool {a b : Bool} (h : a = b) : Ending.returned (.bool a) = .returned (.bool b) := by rw [h]
theorem ret_str {a b : ByteArray} (h : a = b) : Ending.returned (.string a) = .returned (.string b) := by rw [h]
theorem bs_inj {a b : ByteArray} (h : a.data.toList = b.data.toList) : a = b := by
  cases a; cases b; congr 1; exact Array.toList_inj.1 h
theorem ext_list (s : ByteArray) (a b : Nat) : (s.extract a b).data.toList = (s.data.toList.drop a).take (b - a) := by
  simp [ByteArray.data_extract, Array.toList_extract, List.extract]
theorem ext_tail (s : ByteArray) (a : Nat) : (s.extract a s.size).data.toList = s.data.toList.drop a := by
  rw [ext_list]
  apply List.take_of_length_le
  simp [← ByteArray.size_data]
theorem size_list (s : ByteArray) : s.data.toList.length = s.size := by simp
def bsl (l : List UInt8) : ByteArray := ⟨l.toArray⟩
/-! ### Trimmed -/
def bl : List UInt8 := [9, 10, 13, 32]
def tr (l : List UInt8) : List UInt8 := Lib.trimS l bl
def spc (c : UInt8) : Bool := bl.contains c
theorem spc_eq (c : UInt8) : spc c = ((c.toNat : Int) == 9 || ((c.toNat : Int) == 10 || ((c.toNat : Int) == 13 || (c.toNat : Int) == 32))) := by
  have h : ∀ k : UInt8, (c == k) = ((c.toNat : Int) == (k.toNat : Int)) := fun k => by
    rw [Bool.eq_iff_iff, beq_iff_eq, beq_iff_eq, Int.ofNat_inj, UInt8.toNat_inj]
  unfold spc bl
  simp only [List.contains_cons, List.contains_nil, Bool.or_false, h]
  rfl
def trL (l : List UInt8) : List UInt8 := l.dropWhile spc
def trR (l : List UInt8) : List UInt8 := (l.reverse.dropWhile spc).reverse
theorem tr_eq (l : List UInt8) : tr l = trL (trR l) := rfl
theorem trR_cons (c : UInt8) (l : List UInt8) : trR (c :: l) = if trR l = [] ∧ spc c = true then [] else c :: trR l := by
  unfold trR
  rw [List.reverse_cons, List.dropWhile_append]
  by_cases h : (l.reverse.dropWhile spc) = []
  · rw [h]
    cases hc : spc c
    · simp [List.dropWhile, hc]
    · simp [List.dropWhile, hc]
  · have h2 : (l.reverse.dropWhile spc).isEmpty = false := by
      cases hq : l.reverse.dropWhile spc with
      | nil => exact absurd hq h
      | cons _ _ => rfl
    rw [h2]
    simp [h]
theorem trL_yes {c : UInt8} (h : spc c = true) (l : List UInt8) : trL (c :: l) = trL l := by unfold trL; rw [List.dropWhile_cons, if_pos h]
theorem trL_no {c : UInt8} (h : spc c = false) (l : List UInt8) : trL (c :: l) = c :: l := by unfold trL; rw [List.dropWhile_cons, h]; rfl
theorem tr_swap (l : List UInt8) : trL (trR l) = trR (trL l) := by
  induction l with
  | nil => rfl
  | cons c l ih =>
    cases hc : spc c
    · rw [trL_no hc, trR_cons, if_neg (by rw [hc]; exact fun h => by cases h.2), trL_no hc]
    · rw [trL_yes hc, trR_cons, ← ih]
      by_cases h : trR l = []
      · rw [if_pos ⟨h, hc⟩, h]
      · rw [if_neg (fun hh => h hh.1), trL_yes hc]
theorem trL_idem (l : List UInt8) : trL (trL l) = trL l := by
  induction l with
  | nil => rfl
  | cons c l ih =>
    cases hc : spc c
    · rw [trL_no hc, trL_no hc]
    · rw [trL_yes hc, ih]
theorem trR_idem (l : List UInt8) : trR (trR l) = trR l := by
  have h := trL_idem l.reverse
  unfold trL at h
  unfold trR
  rw [List.reverse_reverse, h]
theorem tr_idem (l : List UInt8) : tr (tr l) = tr l := by
  rw [tr_eq, tr_eq, tr_swap (trL (trR l)), trL_idem, ← tr_swap (trR l), trR_idem]
theorem trR_snoc (l : List UInt8) (c : UInt8) : trR (l ++ [c]) = if spc c = true then trR l else l ++ [c] := by
  unfold trR
  rw [List.reverse_append, List.reverse_singleton, List.singleton_append, List.dropWhile_cons]
  cases hc : spc c
  · simp
  · simp
theorem str_cons {s : ByteArray} (h : 0 < s.size) : s.data.toList = s[0] :: (s.extract 1 s.size).data.toList := by
  rw [ext_tail]
  exact (List.drop_eq_getElem_cons (i := 0) (by rw [size_list]; exact h))
theorem str_snoc {s : ByteArray} (h : 0 < s.size) : s.data.toList = (s.extract 0 (s.size - 1)).data.toList ++ [s[s.size - 1]] := by
  rw [ext_list, List.drop_zero, Nat.sub_zero]
  have h2 := (List.take_append_getElem (l := s.data.toList) (i := s.size - 1) (by rw [size_list]; omega)).symm
  rw [List.take_of_length_le (by rw [size_list]; omega)] at h2
  exact h2
theorem trL_str_yes {s : ByteArray} (h : 0 < s.size) (hc : spc s[0] = true) : trL s.data.toList = trL (s.extract 1 s.size).data.toList := by rw [str_cons h, trL_yes hc]
theorem trL_str_no {s : ByteArray} (h : 0 < s.size) (hc : spc s[0] = false) : trL s.data.toList = s.data.toList := by
  have h1 := str_cons h
  rw [h1, trL_no hc]
theorem trR_str_yes {s : ByteArray} (h : 0 < s.size) (hc : spc s[s.size - 1] = true) : trR s.data.toList = trR (s.extract 0 (s.size - 1)).data.toList := by rw [str_snoc h, trR_snoc, if_pos hc]
theorem trR_str_no {s : ByteArray} (h : 0 < s.size) (hc : spc s[s.size - 1] = false) : trR s.data.toList = s.data.toList := by
  have h1 := str_snoc h
  rw [h1, trR_snoc, if_neg (by rw [hc]; exact Bool.false_ne_true)]
theorem list_nil {s : ByteArray} (h : s.size = 0) : s.data.toList = [] := List.length_eq_zero_iff.1 (by rw [size_list]; exact h)
theorem Trim_any (s : ByteArray) (w : World) (hs : s.size ≤ 4294967281) : Calls Tryd.prog 20 #[.string s] w fun e w' => e = .returned (.string (bsl (tr s.data.toList))) ∧ Below w.heap.size w w' := by
  have H : Hid (∀ w : World, Calls Tryd.prog 26 #[.string s, .string ⟨#[9, 10, 13, 32]⟩] w fun e w' => e = .returned (.string (bsl (tr s.data.toList))) ∧ Below w.heap.size w w') :=
    Lib.hid (fun w => Any.strings_Trim_laid Tryd.lays160 (by kernel_rfl) s ⟨#[9, 10, 13, 32]⟩ w (by omega) (by decide) (ascii_of_all (by decide)))
  go_enter Tryd.func20, Tryd.ntmps20
  go_wp2_with fail
  refine (H.out _).mono ?_
  rintro e w1 ⟨rfl, hb1⟩
  go_wp2
  go_ret
  exact ⟨rfl, hb1⟩
theorem space_any (c : UInt8) (w : World) : Calls Tryd.prog 25 #[.int .u8 (c.toNat : Int)] w fun e w' => e = .returned (.bool (spc c)) ∧ w' = w := by
  have HS := Lib.hid (spc_eq c)
  by_cases h1 : c.toNat = 9
  · have d1 : ((c.toNat : Int) == 9) = true := by rw [beq_iff_eq]; omega
    have HQ : Hid (spc c = true) := Lib.hid (by rw [HS.out, d1]; rfl)
    go_enter Tryd.func25, Tryd.ntmps25
    go_wp2
    go_ret
    exact ⟨ret_bool HQ.out.symm, rfl⟩
  · have d1 : ((c.toNat : Int) == 9) = false := by rw [beq_eq_false_iff_ne]; omega
    by_cases h2 : c.toNat = 10
    · have d2 : ((c.toNat : Int) == 10) = true := by rw [beq_iff_eq]; omega
      have HQ : Hid (spc c = true) := Lib.hid (by rw [HS.out, d1, d2]; rfl)
      go_enter Tryd.func25, Tryd.ntmps25
      go_wp2
      go_ret
      exact ⟨ret_bool HQ.out.symm, rfl⟩
    · have d2 : ((c.toNat : Int) == 10) = false := by rw [beq_eq_false_iff_ne]; omega
      by_cases h3 : c.toNat = 13
      · have d3 : ((c.toNat : Int) == 13) = true := by rw [beq_iff_eq]; omega
        have HQ : Hid (spc c = true) := Lib.hid (by rw [HS.out, d1, d2, d3]; rfl)
        go_enter Tryd.func25, Tryd.ntmps25
        go_wp2
        go_ret
        exact ⟨ret_bool HQ.out.symm, rfl⟩
      · have d3 : ((c.toNat : Int) == 13) = false := by rw [beq_eq_false_iff_ne]; omega
        have HQ : Hid (spc c = ((c.toNat : Int) == 32)) := Lib.hid (by rw [HS.out, d1, d2, d3]; rfl)
        go_enter Tryd.func25, Tryd.ntmps25
        go_wp2
        go_ret
        exact ⟨ret_bool HQ.out.symm, rfl⟩
set_option maxRecDepth 100000 in
set_option maxHeartbeats 4000000 in
theorem RTrim_any (s0 : ByteArray) (w : World) (hs : s0.size ≤ 4294967281) : Calls Tryd.prog 14 #[.string s0] w fun e w' => e = .returned (.string (bsl (tr s0.data.toList))) ∧ w' = w := by
  have HT : Hid (tr s0.data.toList = trR (trL s0.data.toList)) := Lib.hid (by rw [tr_eq, tr_swap])
  go_enter Tryd.func14, Tryd.ntmps14
  go_wp2_with fail
  go_loopw [0] (fun sv wr => ∃ s : ByteArray, sv = .string s ∧ s.size ≤ 4294967281 ∧ Hid (trL s.data.toList = trL s0.data.toList) ∧ w = wr) (fun sv _ => match sv with | .string s => s.size | _ => 0)
  case atStart => exact ⟨s0, rfl, hs, Lib.hid rfl, rfl⟩
  case round =>
    obtain ⟨s, rfl, hsz, HL, rfl⟩ := hrel
    by_cases h0 : s.size = 0
    · have d0 : decide ((0 : Int) < (s.size : Int)) = false := decide_eq_false (by omega)
      have HF : Hid (s.data.toList = trL s0.data.toList) := Lib.hid (by rw [← HL.out, list_nil h0]; rfl)
      clear HL
      go_wp2_with fail
      have hszs : s.size ≤ 4294967281 := hsz
      go_loopw [0] (fun sv wr => ∃ t : ByteArray, sv = .string t ∧ t.size ≤ 4294967281 ∧ Hid (trR t.data.toList = trR s.data.toList) ∧ w = wr) (fun sv _ => match sv with | .string s => s.size | _ => 0)
      case atStart => exact ⟨s, rfl, hszs, Lib.hid rfl, rfl⟩
      case round =>
        obtain ⟨t, rfl, htz, HR, rfl⟩ := hrel
        by_cases k0 : t.size = 0
        · have f0 : decide ((0 : Int) < (t.size : Int)) = false := decide_eq_false (by omega)
          have HE : Hid (t = bsl (tr s0.data.toList)) := Lib.hid (by
            apply bs_inj
            show t.data.toList = tr s0.data.toList
            rw [HT.out, ← HF.out, ← HR.out, list_nil k0]; rfl)
          go_wp2_with fail
          go_ret
          exact ⟨ret_str HE.out, rfl⟩
        · have kpos : 0 < t.size := by omega
          have kposI : (0 : Int) < (t.size : Int) := by omega
          have f0 : decide ((0 : Int) < (t.size : Int)) = true := decide_eq_true kposI
          have KY := Lib.hid (fun h => trR_str_yes kpos h)
          have KN := Lib.hid (fun h => trR_str_no kpos h)
          have hlast : t.size - 1 < t.size := by omega
          obtain ⟨c2, hc2⟩ : ∃ c, t[t.size - 1]'hlast = c := ⟨_, rfl⟩
          have hget2 : ∀ h, t[t.size - 1]'h = c2 := fun _ => hc2
          rw [hc2] at KY KN
          have KSp := Lib.hid (fun w => space_any c2 w)
          obtain ⟨b2, hb2⟩ : ∃ b, spc c2 = b := ⟨_, rfl⟩
          rw [hb2] at KSp KY KN
          have q1 : (0 : Int) ≤ (t.size : Int) - 1 := by omega
          have q2 : ((t.size : Int) - 1).toNat = t.size - 1 := by omega
          have q3 : (t.size : Int) - 1 < (t.size : Int) := by omega
          have q4 : (t.size : Int) - 1 ≤ (t.size : Int) := by omega
          clear hb2 hc2
          cases b2 with
          | true =>
            have HR2 : Hid (trR (t.extract 0 (t.size - 1)).data.toList = trR s.data.toList) := Lib.hid ((KY.out rfl).symm.trans HR.out)
            have z2 : (t.extract 0 (t.size - 1)).size = t.size - 1 := by rw [ByteArray.size_extract]; omega
            clear KY KN k0
            go_wp2_with fail
            refine (KSp.out _).mono ?_
            rintro e w4 ⟨rfl, rfl⟩
            go_wp2_with fail
            go_roundw
            case rel => exact ⟨_, rfl, by omega, HR2, trivial⟩
            case measure => show (t.extract 0 (t.size - 1)).size < t.size; omega
          | false =>
            have HE : Hid (t = bsl (tr s0.data.toList)) := Lib.hid (by
              apply bs_inj
              show t.data.toList = tr s0.data.toList
              rw [HT.out, ← HF.out, ← HR.out, KN.out rfl])
            clear KY KN k0
            go_wp2_with fail
            refine (KSp.out _).mono ?_
            rintro e w4 ⟨rfl, rfl⟩
            go_wp2_with fail
            go_ret
            exact ⟨ret_str HE.out, rfl⟩
    · have hpos : 0 < s.size := by omega
      have hposI : (0 : Int) < (s.size : Int) := by omega
      have d0 : decide ((0 : Int) < (s.size : Int)) = true := decide_eq_true hposI
      have HY := Lib.hid (fun h => trL_str_yes hpos h)
      have HN := Lib.hid (fun h => trL_str_no hpos h)
      obtain ⟨c, hc⟩ : ∃ c, s[0]'hpos = c := ⟨_, rfl⟩
      have hget : ∀ h, s[0]'h = c := fun _ => hc
      rw [hc] at HY HN
      have HSp := Lib.hid (fun w => space_any c w)
      obtain ⟨b, hb⟩ : ∃ b, spc c = b := ⟨_, rfl⟩
      rw [hb] at HSp HY HN
      clear hb hc
      cases b with
      | true =>
        have HL2 : Hid (trL (s.extract 1 s.size).data.toList = trL s0.data.toList) := Lib.hid ((HY.out rfl).symm.trans HL.out)
        have a1 : (1 : Int) ≤ (s.size : Int) := by omega
        have a2 : 1 ≤ s.size := by omega
        have z1 : (s.extract 1 s.size).size = s.size - 1 := by rw [ByteArray.size_extract]; omega
        clear HY HN h0
        go_wp2_with fail
        refine (HSp.out _).mono ?_
        rintro e w3 ⟨rfl, rfl⟩
        go_wp2_with fail
        go_roundw
        case rel => exact ⟨_, rfl, by omega, HL2, trivial⟩
        case measure => show (s.extract 1 s.size).size < s.size; omega
      | false =>
        have HF : Hid (s.data.toList = trL s0.data.toList) := Lib.hid ((HN.out rfl).symm.trans HL.out)
        clear HY HN HL h0
        go_wp2_with fail
        refine (HSp.out _).mono ?_
        rintro e w3 ⟨rfl, hw3⟩
        subst w3
        go_wp2_with fail
        have hszs : s.size ≤ 4294967281 := hsz
        go_loopw [0] (fun sv wr => ∃ t : ByteArray, sv = .string t ∧ t.size ≤ 4294967281 ∧ Hid (trR t.data.toList = trR s.data.toList) ∧ w = wr) (fun sv _ => match sv with | .string s => s.size | _ => 0)
        case atStart => exact ⟨s, rfl, hszs, Lib.hid rfl, rfl⟩
        case round =>
          obtain ⟨t, rfl, htz, HR, rfl⟩ := hrel
          by_cases k0 : t.size = 0
          · have f0 : decide ((0 : Int) < (t.size : Int)) = false := decide_eq_false (by omega)
            have HE : Hid (t = bsl (tr s0.data.toList)) := Lib.hid (by
              apply bs_inj
              show t.data.toList = tr s0.data.toList
              rw [HT.out, ← HF.out, ← HR.out, list_nil k0]; rfl)
            go_wp2_with fail
            go_ret
            exact ⟨ret_str HE.out, rfl⟩
          · have kpos : 0 < t.size := by omega
            have kposI : (0 : Int) < (t.size : Int) := by omega
            have f0 : decide ((0 : Int) < (t.size : Int)) = true := decide_eq_true kposI
            have KY := Lib.hid (fun h => trR_str_yes kpos h)
            have KN := Lib.hid (fun h => trR_str_no kpos h)
            have hlast : t.size - 1 < t.size := by omega
            obtain ⟨c2, hc2⟩ : ∃ c, t[t.size - 1]'hlast = c := ⟨_, rfl⟩
            have hget2 : ∀ h, t[t.size - 1]'h = c2 := fun _ => hc2
            rw [hc2] at KY KN
            have KSp := Lib.hid (fun w => space_any c2 w)
            obtain ⟨b2, hb2⟩ : ∃ b, spc c2 = b := ⟨_, rfl⟩
            rw [hb2] at KSp KY KN
            have q1 : (0 : Int) ≤ (t.size : Int) - 1 := by omega
            have q2 : ((t.size : Int) - 1).toNat = t.size - 1 := by omega
            have q3 : (t.size : Int) - 1 < (t.size : Int) := by omega
            have q4 : (t.size : Int) - 1 ≤ (t.size : Int) := by omega
            clear hb2 hc2
            cases b2 with
            | true =>
              have HR2 : Hid (trR (t.extract 0 (t.size - 1)).data.toList = trR s.data.toList) := Lib.hid ((KY.out rfl).symm.trans HR.out)
              have z2 : (t.extract 0 (t.size - 1)).size = t.size - 1 := by rw [ByteArray.size_extract]; omega
              clear KY KN k0
              go_wp2_with fail
              refine (KSp.out _).mono ?_
              rintro e w4 ⟨rfl, rfl⟩
              go_wp2_with fail
              go_roundw
              case rel => exact ⟨_, rfl, by omega, HR2, trivial⟩
              case measure => show (t.extract 0 (t.size - 1)).size < t.size; omega
            | false =>
              have HE : Hid (t = bsl (tr s0.data.toList)) := Lib.hid (by
                apply bs_inj
                show t.data.toList = tr s0.data.toList
                rw [HT.out, ← HF.out, ← HR.out, KN.out rfl])
              clear KY KN k0
              go_wp2_with fail
              refine (KSp.out _).mono ?_
              rintro e w4 ⟨rfl, rfl⟩
              go_wp2_with fail
              go_ret
              exact ⟨ret_str HE.out, rfl⟩
end Go.Proofs.YtaallpfkgcndmaaDoor.Pm
