/-
  The law StringsCase.
-/
import Derived.Test.YtihhejeciagdpaaDoorSfTab
namespace Go.Proofs.YtihhejeciagdpaaDoor.Sf
open Go.RowKit
set_option linter.unusedVariables false

theorem tr_len (l : List UInt8) : (tr l).length ≤ l.length := by
  have h1 : (trL (trR l)).length ≤ (trR l).length := (List.dropWhile_sublist _).length_le
  have h2 : (trR l).length ≤ l.length := by
    unfold trR
    rw [List.length_reverse]
    have := (List.dropWhile_sublist spc (l := l.reverse)).length_le
    rwa [List.length_reverse] at this
  rw [tr_eq]; omega
theorem map_sm_cp (l : List UInt8) : (l.map cp).map sm = l.map sm := by
  rw [List.map_map]
  exact List.map_congr_left (fun c _ => sm_cp c)
set_option maxRecDepth 100000 in
set_option maxHeartbeats 4000000 in
theorem StringsCase_any (s : ByteArray) (b : Bool) (w : World) (hs : s.size ≤ 9223372036854775807) (ht : Tb w) : Calls Tryd.prog 3 #[.string s, .bool b] w fun e w' => e = .returned (.bool true) ∧ Below w.heap.size w w' := by
  have HK := Lib.hid known_any
  clear ht
  by_cases h0 : 400 < s.size
  · have hd0 : decide ((400 : Int) < (s.size : Int)) = true := decide_eq_true (by omega)
    clear h0
    go_enter Tryd.func3, Tryd.ntmps3
    go_wp2_with fail
    refine (HK.out _).mono ?_
    rintro e w1 ⟨rfl, hb1⟩
    go_wp2
    go_ret
    exact ⟨rfl, hb1⟩
  · have hd0 : decide ((400 : Int) < (s.size : Int)) = false := decide_eq_false (by omega)
    have hs4 : s.size ≤ 4294967281 := by omega
    have htz : (bsl (tr s.data.toList)).size ≤ 4294967281 := by
      rw [bsl_size]; have := tr_len s.data.toList; rw [size_list] at this; omega
    have huz : (bsl (s.data.toList.map cp)).size ≤ 4294967281 := by
      rw [bsl_size, List.length_map, size_list]; omega
    have HT := Lib.hid (fun w => Trim_any s w hs4)
    have HT2 := Lib.hid (fun w => RTrim_any s w hs4)
    have HT3 : Hid (∀ w, Calls Tryd.prog 5 #[.string (bsl (tr s.data.toList))] w fun e w' => e = .returned (.string (bsl (tr s.data.toList))) ∧ Below w.heap.size w w') := Lib.hid (fun w => by
      have := Trim_any (bsl (tr s.data.toList)) w htz
      rw [show (bsl (tr s.data.toList)).data.toList = tr s.data.toList from rfl, tr_idem] at this
      exact this)
    have HL := Lib.hid (fun w => Lower_any s w hs4)
    have HL2 := Lib.hid (fun w => RLower_any s w hs4)
    have HU := Lib.hid (fun w => Upper_any s w hs4)
    have HU2 := Lib.hid (fun w => RUpper_any s w hs4)
    have HF := Lib.hid (fun w => First_any s b w hs4)
    have HF2 := Lib.hid (fun w => RFirst_any s b w hs4)
    have HLU : Hid (∀ w, Calls Tryd.prog 6 #[.string (bsl (s.data.toList.map cp))] w fun e w' => e = .returned (.string (bsl (s.data.toList.map sm))) ∧ Below w.heap.size w w') := Lib.hid (fun w => by
      have := Lower_any (bsl (s.data.toList.map cp)) w huz
      rw [show (bsl (s.data.toList.map cp)).data.toList.map sm = s.data.toList.map sm from map_sm_cp _] at this
      exact this)
    clear htz huz hs4
    generalize bsl (tr s.data.toList) = x at HT HT2 HT3 HL HL2 HU HU2 HF HF2 HLU
    generalize bsl (s.data.toList.map sm) = y at HT HT2 HT3 HL HL2 HU HU2 HF HF2 HLU
    generalize bsl (s.data.toList.map cp) = z at HT HT2 HT3 HL HL2 HU HU2 HF HF2 HLU
    generalize bsl (cs (chg b) 1 s.data.toList) = u at HT HT2 HT3 HL HL2 HU HU2 HF HF2 HLU
    go_enter Tryd.func3, Tryd.ntmps3
    go_wp2_with fail
    refine (HT.out _).mono ?_
    rintro e w1 ⟨rfl, hb1⟩
    go_wp2_with fail
    refine (HL.out _).mono ?_
    rintro e w2 ⟨rfl, hb2⟩
    go_wp2_with fail
    refine (HL2.out _).mono ?_
    rintro e w3 ⟨rfl, hb3⟩
    go_wp2_with fail
    refine (HU.out _).mono ?_
    rintro e w4 ⟨rfl, hb4⟩
    go_wp2_with fail
    refine (HU2.out _).mono ?_
    rintro e w5 ⟨rfl, hb5⟩
    go_wp2_with fail
    refine (HF.out _).mono ?_
    rintro e w6 ⟨rfl, hb6⟩
    go_wp2_with fail
    refine (HF2.out _).mono ?_
    rintro e w7 ⟨rfl, hb7⟩
    go_wp2_with fail
    refine (HT2.out _).mono ?_
    rintro e w8 ⟨rfl, hb8⟩
    go_wp2_with fail
    refine (HT3.out _).mono ?_
    rintro e w9 ⟨rfl, hb9⟩
    go_wp2_with fail
    refine (HU.out _).mono ?_
    rintro e w10 ⟨rfl, hb10⟩
    go_wp2_with fail
    refine (HLU.out _).mono ?_
    rintro e w11 ⟨rfl, hb11⟩
    go_wp2_with fail
    refine (HL.out _).mono ?_
    rintro e w12 ⟨rfl, hb12⟩
    go_wp2_with fail
    refine (HK.out _).mono ?_
    rintro e w13 ⟨rfl, hb13⟩
    go_wp2
    go_ret
    exact ⟨rfl, (bny (bny (bny (bny (bny (bny (bny (bny (bny (bny (bny (bny hb1 hb2) hb3) hb4) hb5) hb6) hb7) hb8) hb9) hb10) hb11) hb12) hb13)⟩
end Go.Proofs.YtihhejeciagdpaaDoor.Sf
