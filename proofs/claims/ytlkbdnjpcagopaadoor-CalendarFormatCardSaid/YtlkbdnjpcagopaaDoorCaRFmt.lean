/-
  The contracts of Format and Unit of the calendar's reference.
-/
import Derived.Test.YtlkbdnjpcagopaaDoorCaRCode
import Derived.Test.YtlkbdnjpcagopaaDoorCaKnown
namespace Go.Proofs.YtlkbdnjpcagopaaDoor.Ca
open Go.RowKit
set_option linter.unusedVariables false
set_option linter.unusedSimpArgs false

theorem RFormat_no1 {n : Int} (h : ¬ (0 ≤ n ∧ n < 52596000)) (s : ByteArray) (w : World) :
    Calls Tryd.prog 27 #[.string s, .int .i64 n] w fun e w' => e = .returned (.tuple #[.string ⟨#[]⟩, .int .i64 2]) ∧ Below w.heap.size w w' := by
  have HC := Lib.hid (fun w => rinst_no h w)
  clear h
  go_enter Tryd.func27, Tryd.ntmps27
  go_wp2_with fail
  (with_reducible refine (HC.out _).mono ?_)
  rintro e w1 ⟨rfl, rfl⟩
  go_wp2
  go_ret2
  exact ⟨rfl, Below.refl _ w⟩
theorem RFormat_no2 {n : Int} (h : 0 ≤ n ∧ n < 52596000) (s : ByteArray) (w : World) (hs : 400 < s.size) :
    Calls Tryd.prog 27 #[.string s, .int .i64 n] w fun e w' => e = .returned (.tuple #[.string ⟨#[]⟩, .int .i64 3]) ∧ Below w.heap.size w w' := by
  have HC := Lib.hid (fun w => rinst h w)
  have hs3 : (400 : Int) < (s.size : Int) := by omega
  clear h hs
  go_enter Tryd.func27, Tryd.ntmps27
  go_wp2_with fail
  (with_reducible refine (HC.out _).mono ?_)
  rintro e w1 ⟨rfl, rfl⟩
  go_wp2
  go_ret2
  exact ⟨rfl, Below.refl _ w⟩
theorem one_extract (s : ByteArray) (k : Nat) (h : k < s.size) : (s.extract k (k + 1)).data.toList = [s[k]] := by
  rw [Lib.extract_data, show k + 1 - k = 1 by omega, List.drop_eq_getElem_cons (by simpa using h)]
  simp [ByteArray.getElem_eq_getElem_data]
theorem cat_str (a : List UInt8) (t : ByteArray) : (⟨a.toArray⟩ : ByteArray) ++ t = ⟨(a ++ t.data.toList).toArray⟩ := by
  apply ByteArray.ext; apply Array.ext'; simp
theorem gk (s : ByteArray) (k : Nat) (h : k < s.size) : s.data.toList[k]'(by simpa using h) = s[k] := by simp [ByteArray.getElem_eq_getElem_data]
/-- The text of what has come so far. -/
def accS (y m d c : Int) (pre : List Sy) : ByteArray := ⟨(pre.flatMap (out y m d c)).toArray⟩
theorem accS_size (y m d c : Int) (pre : List Sy) : (accS y m d c pre).size = (pre.flatMap (out y m d c)).length := by
  show (pre.flatMap (out y m d c)).toArray.size = _; simp
set_option maxRecDepth 100000 in
set_option maxHeartbeats 4000000 in
theorem RFormat_yes {y m d c : Int} (hk : Ok y m d) (c1 : 0 ≤ c) (c2 : c < 1440) (s : ByteArray) (w : World) (hs : s.size ≤ 400) :
    Calls Tryd.prog 27 #[.string s, .int .i64 (inst y m d c)] w fun e w' => e = .returned (.tuple #[.string ⟨(fmt y m d c s.data.toList).toArray⟩, .int .i64 0]) ∧ Below w.heap.size w w' := by
  have hr := inst_range hk c1 c2
  have HC := Lib.hid (fun w => rinst ⟨hr.1, hr.2.1⟩ w)
  have HV := Lib.hid (fun (b : UInt8) (hb : isCode b = true) w => rvalue_code hk c1 c2 hb w)
  have HN := Lib.hid (fun (b : UInt8) (hb : isCode b = false) w => rvalue_none hk c1 c2 hb w)
  obtain ⟨n, hn⟩ : ∃ n, inst y m d c = n := ⟨_, rfl⟩
  rw [hn] at HC HV HN
  rw [hn]
  clear hn hr
  have HK := Lib.hid hk
  clear hk
  have HSL := Lib.hid (syms_len _ s.data.toList (Nat.le_refl _))
  have hsl : s.data.toList.length = s.size := by simp
  have HL := Lib.hid hsl
  clear hsl
  go_enter Tryd.func27, Tryd.ntmps27
  go_wp2_with fail
  (with_reducible refine (HC.out _).mono ?_)
  rintro e w1 ⟨rfl, rfl⟩
  go_wp2
  go_loopw [6, 7] (fun a i wr => ∃ (pre : List Sy) (k : Nat), i = .int .i64 k ∧ k ≤ s.size ∧ a = .string (accS y m d c pre) ∧ Hid (syms s.data.toList = pre ++ syms (s.data.toList.drop k)) ∧ Hid (Below w.heap.size w wr)) (fun _ i _ => s.size - (intOf i).toNat)
  case atStart => exact ⟨[], 0, rfl, Nat.zero_le _, rfl, Lib.hid (by simp), Lib.hid (Below.refl _ _)⟩
  case round =>
    obtain ⟨pre, k, rfl, hk, rfl, HP, HB⟩ := hrel
    have hpl : pre.length ≤ 400 := by have a := HSL.out; have b := HL.out; rw [HP.out, List.length_append] at a; omega
    have hal := outs_len HK.out c1 c2 pre
    have has := accS_size y m d c pre
    have hsz : (accS y m d c pre).size ≤ 3600 := by omega
    clear hpl hal has
    by_cases hlt : k < s.size
    · by_cases h9 : s[k] = 92 ∧ k + 1 < s.size
      · obtain ⟨h9, hlt1⟩ := h9
        have he := syms_esc s.data.toList k (by simpa using hlt1) ((gk s k hlt).trans h9)
        rw [gk s (k + 1) hlt1] at he
        have HP2 : Hid (syms s.data.toList = (pre ++ [(s[k + 1], true)]) ++ syms (s.data.toList.drop (k + 2))) := Lib.hid (by rw [HP.out, he]; simp)
        have HA : Hid (accS y m d c pre ++ s.extract (k + 1) (k + 1 + 1) = accS y m d c (pre ++ [(s[k + 1], true)])) := Lib.hid (by
          unfold accS; rw [cat_str, one_extract s (k + 1) hlt1, List.flatMap_append]; simp [out])
        have hd : ((s[k].toNat : Int) == 92) = true := by rw [h9]; rfl
        have hi : (k : Int) + 1 < s.size := by omega
        clear h9 he
        go_wp2
        go_roundw
        case rel => exact ⟨pre ++ [(s[k + 1], true)], k + 2, by go_num, by omega, by rw [← HA.out], HP2, HB⟩
        case measure => simp [intOf]; omega
      · have he := syms_plain s.data.toList k (by simpa using hlt) (by rw [gk s k hlt]; simpa using h9)
        rw [gk s k hlt] at he
        have HP2 : Hid (syms s.data.toList = (pre ++ [(s[k], false)]) ++ syms (s.data.toList.drop (k + 1))) := Lib.hid (by rw [HP.out, he]; simp)
        clear he
        by_cases hcode : isCode s[k] = true
        · have H1 := Lib.hid (fun w => HV.out s[k] hcode w)
          have htl := tx_len HK.out c1 c2 s[k]
          obtain ⟨T, hT⟩ : ∃ T : ByteArray, ⟨(tx y m d c s[k]).toArray⟩ = T := ⟨_, rfl⟩
          have hTs : T.size ≤ 9 := by rw [← hT]; show (tx y m d c s[k]).toArray.size ≤ 9; simp; exact htl
          have HA : Hid (accS y m d c pre ++ T = accS y m d c (pre ++ [(s[k], false)])) := Lib.hid (by
            unfold accS; rw [← hT, cat_str, List.flatMap_append]; simp [out, hcode])
          rw [hT] at H1
          have hne : s[k] ≠ 92 := fun e => by rw [e] at hcode; exact absurd hcode (by decide)
          have hd : ((s[k].toNat : Int) == 92) = false := u8_ne hne
          clear hne
          clear h9 hT htl hcode
          go_wp2_with fail
          (with_reducible refine (H1.out _).mono ?_)
          rintro e w2 ⟨rfl, hb2⟩
          have HB2 := Lib.hid (HB.out.trans (hb2.mono HB.out.size))
          clear hb2
          go_wp2
          go_roundw
          case rel => exact ⟨pre ++ [(s[k], false)], k + 1, by go_num, by omega, by rw [← HA.out], HP2, HB2⟩
          case measure => simp [intOf]; omega
        · have hc2 : isCode s[k] = false := by simpa using hcode
          have H1 := Lib.hid (fun w => HN.out s[k] hc2 w)
          have HA : Hid (accS y m d c pre ++ s.extract k (k + 1) = accS y m d c (pre ++ [(s[k], false)])) := Lib.hid (by
            unfold accS; rw [cat_str, one_extract s k hlt, List.flatMap_append]; simp [out, hc2])
          by_cases hx : s[k] = 92
          · have hd : ((s[k].toNat : Int) == 92) = true := by rw [hx]; rfl
            have hi : (s.size : Int) ≤ (k : Int) + 1 := by have : ¬ k + 1 < s.size := fun h => h9 ⟨hx, h⟩; omega
            have hi2 : decide ((k : Int) + 1 < (s.size : Int)) = false := by rw [decide_eq_false_iff_not]; omega
            clear hx h9 hc2 hcode
            go_wp2_with fail
            (with_reducible refine (H1.out _).mono ?_)
            rintro e w2 ⟨rfl, hb2⟩
            have HB2 := Lib.hid (HB.out.trans (hb2.mono HB.out.size))
            clear hb2
            go_wp2
            go_roundw
            case rel => exact ⟨pre ++ [(s[k], false)], k + 1, by go_num, by omega, by rw [← HA.out], HP2, HB2⟩
            case measure => simp [intOf]; omega
          · have hd : ((s[k].toNat : Int) == 92) = false := u8_ne hx
            clear hx h9 hc2 hcode
            go_wp2_with fail
            (with_reducible refine (H1.out _).mono ?_)
            rintro e w2 ⟨rfl, hb2⟩
            have HB2 := Lib.hid (HB.out.trans (hb2.mono HB.out.size))
            clear hb2
            go_wp2
            go_roundw
            case rel => exact ⟨pre ++ [(s[k], false)], k + 1, by go_num, by omega, by rw [← HA.out], HP2, HB2⟩
            case measure => simp [intOf]; omega
    · obtain rfl : k = s.size := by omega
      have HF : Hid (accS y m d c pre = ⟨(fmt y m d c s.data.toList).toArray⟩) := Lib.hid (by
        unfold accS fmt; rw [HP.out, List.drop_of_length_le (by rw [HL.out]; exact Nat.le_refl _)]; simp [syms])
      go_wp2
      go_ret2
      exact ⟨by rw [← HF.out]; rfl, HB.out⟩
theorem ustep_cu (u : Int) (b : UInt8) : ustep u (b, false) = min u (cu b) := rfl
end Go.Proofs.YtlkbdnjpcagopaaDoor.Ca
