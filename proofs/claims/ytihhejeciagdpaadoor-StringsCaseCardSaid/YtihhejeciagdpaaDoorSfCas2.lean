/-
  The contracts of First, Trim of package strfunc; change, cased, Lower, Upper, First, space, Trim of the reference.
-/
import Derived.Test.YtihhejeciagdpaaDoorSfCase
import Derived.BigQuiet
import Derived.BigRegion
namespace Go.Proofs.YtihhejeciagdpaaDoor.Sf
open Go.RowKit Go.Shelf
set_option linter.unusedVariables false

theorem region_cls {P : Program} {C : World → Prop} {a : Act} {l : List Oper} {id : Nat} {R : Exit → Act → World → Prop} {w : World} (hm : P.follows .mixedOrders = true) (hB : Region.lexB .any l.toArray = true) (hC : C w.drew)
    (h : wpQuiet P l.toArray C (fun a' => ∀ w', C w' → R .normal a' w') l a) : (Code.region id l.toArray true).wp P R a w :=
  wp_region_quiet (C := C) hm hB hC (by simpa using h)
/-- The worlds that keep what w holds. -/
def Ws (w : World) := { W : World // Below w.heap.size w W }
theorem up_ws (s : ByteArray) (hs : s.size ≤ 4294967281) {w : World} (x : Ws w) :
    Calls Tryd.prog 8 #[.string s] x.1 fun e w'' => e = .returned (.string (bsl (s.data.toList.map cp))) ∧ ∃ y : Ws w, w'' = y.1 :=
  (Upper_any s x.1 hs).mono fun e w' ⟨he, hb⟩ => ⟨he, ⟨w', x.2.trans (hb.mono x.2.size)⟩, rfl⟩
theorem lo_ws (s : ByteArray) (hs : s.size ≤ 4294967281) {w : World} (x : Ws w) :
    Calls Tryd.prog 6 #[.string s] x.1 fun e w'' => e = .returned (.string (bsl (s.data.toList.map sm))) ∧ ∃ y : Ws w, w'' = y.1 :=
  (Lower_any s x.1 hs).mono fun e w' ⟨he, hb⟩ => ⟨he, ⟨w', x.2.trans (hb.mono x.2.size)⟩, rfl⟩
theorem bsl_size (l : List UInt8) : (bsl l).size = l.length := by rw [← size_list]; rfl
theorem chg_up : chg true = cp := rfl
theorem chg_lo : chg false = sm := rfl
set_option maxRecDepth 100000 in
set_option maxHeartbeats 2000000 in
theorem First_any (s : ByteArray) (b : Bool) (w : World) (hs : s.size ≤ 4294967281) : Calls Tryd.prog 10 #[.string s, .bool b] w fun e w' => e = .returned (.string (bsl (cs (chg b) 1 s.data.toList))) ∧ Below w.heap.size w w' := by
  by_cases h0 : s.size = 0
  · have e1 : s.toList.isEmpty = true := by rw [Lib.toList_data, list_nil h0]; rfl
    have HO : Hid (bsl (cs (chg b) 1 s.data.toList) = ⟨#[]⟩) := Lib.hid (by rw [list_nil h0]; rfl)
    go_enter Tryd.func10, Tryd.ntmps10
    go_wp2
    go_ret
    exact ⟨ret_str HO.out.symm, Below.refl _ _⟩
  · have e1 := emp_no h0
    have a1 : (1 : Int) ≤ (s.size : Int) := by omega
    have a2 : 1 ≤ s.size := by omega
    have z0 : (s.extract 0 1).size ≤ 1 := by rw [ByteArray.size_extract]; omega
    have z1 : (s.extract 1 s.size).size ≤ s.size := by rw [ByteArray.size_extract]; omega
    have hx1 : (s.extract 0 1).size ≤ 4294967281 := by omega
    have ne : ∀ w : World, Nonempty (Ws w) := fun w => ⟨⟨w, Below.refl _ w⟩⟩
    cases b with
    | true =>
      have HO := Lib.hid (cs_one cp h0)
      have hz : (bsl ((s.extract 0 1).data.toList.map cp)).size + (s.extract 1 s.size).size ≤ 9223372036854775807 := by
        rw [bsl_size, List.length_map, size_list]; omega
      have HCg := Lib.hid chg_up
      have HU := Lib.hid (fun (x : Ws w) => up_ws (s.extract 0 1) hx1 x)
      obtain ⟨u, hu⟩ : ∃ u, bsl ((s.extract 0 1).data.toList.map cp) = u := ⟨_, rfl⟩
      rw [hu] at hz HU
      have HO2 : Hid (u ++ s.extract 1 s.size = bsl (cs (chg true) 1 s.data.toList)) := Lib.hid (by rw [← hu]; exact HO.out)
      clear hu
      go_enter Tryd.func10, Tryd.ntmps10
      go_wp2
      have ne3 := ne w
      refine region_cls (C := fun W => ∃ x : Ws w, W = x.1) (by kernel_rfl) (by kernel_rfl) ⟨⟨_, (Below.refl _ w).drew⟩, rfl⟩ ?_
      repeat (go_big_quiet_step ((first | (go_at_call 8; with_reducible exact HU.out _))))
      refine wpQuiet_nil ?_
      intro w' hw'
      obtain ⟨x, rfl⟩ := hw'
      go_wp2
      go_ret
      exact ⟨ret_str HO2.out, x.2⟩
    | false =>
      have HO := Lib.hid (cs_one sm h0)
      have hz : (bsl ((s.extract 0 1).data.toList.map sm)).size + (s.extract 1 s.size).size ≤ 9223372036854775807 := by
        rw [bsl_size, List.length_map, size_list]; omega
      have HCg := Lib.hid chg_lo
      have HU := Lib.hid (fun (x : Ws w) => lo_ws (s.extract 0 1) hx1 x)
      obtain ⟨u, hu⟩ : ∃ u, bsl ((s.extract 0 1).data.toList.map sm) = u := ⟨_, rfl⟩
      rw [hu] at hz HU
      have HO2 : Hid (u ++ s.extract 1 s.size = bsl (cs (chg false) 1 s.data.toList)) := Lib.hid (by rw [← hu]; exact HO.out)
      clear hu
      go_enter Tryd.func10, Tryd.ntmps10
      go_wp2
      have ne3 := ne w
      refine region_cls (C := fun W => ∃ x : Ws w, W = x.1) (by kernel_rfl) (by kernel_rfl) ⟨⟨_, (Below.refl _ w).drew⟩, rfl⟩ ?_
      repeat (go_big_quiet_step ((first | (go_at_call 6; with_reducible exact HU.out _))))
      refine wpQuiet_nil ?_
      intro w' hw'
      obtain ⟨x, rfl⟩ := hw'
      go_wp2
      go_ret
      exact ⟨ret_str HO2.out, x.2⟩
theorem Trim_any (s : ByteArray) (w : World) (hs : s.size ≤ 4294967281) : Calls Tryd.prog 5 #[.string s] w fun e w' => e = .returned (.string (bsl (tr s.data.toList))) ∧ Below w.heap.size w w' := by
  have H : Hid (∀ w : World, Calls Tryd.prog 16 #[.string s, .string ⟨#[9, 10, 13, 32]⟩] w fun e w' => e = .returned (.string (bsl (tr s.data.toList))) ∧ Below w.heap.size w w') :=
    Lib.hid (fun w => Any.strings_Trim_laid Tryd.lays160 (by kernel_rfl) s ⟨#[9, 10, 13, 32]⟩ w (by omega) (by decide) (ascii_of_all (by decide)))
  go_enter Tryd.func5, Tryd.ntmps5
  go_wp2_with fail
  refine (H.out _).mono ?_
  rintro e w1 ⟨rfl, hb1⟩
  go_wp2
  go_ret
  exact ⟨rfl, hb1⟩
/-! ### The reference -/
theorem change_any (c : UInt8) (b : Bool) (w : World) : Calls Tryd.prog 32 #[.int .u8 (c.toNat : Int), .bool b] w fun e w' => e = .returned (.int .u8 ((chg b c).toNat : Int)) ∧ w' = w := by
  have hc := c.toNat_lt
  cases b with
  | true =>
    by_cases h1 : 97 ≤ c.toNat
    · have d1 : decide ((97 : Int) ≤ (c.toNat : Int)) = true := decide_eq_true (by omega)
      by_cases h2 : c.toNat ≤ 122
      · have d2 : decide ((c.toNat : Int) ≤ 122) = true := decide_eq_true (by omega)
        have HS : Hid (((chg true c).toNat : Int) = _) := Lib.hid (cp_yes ⟨h1, h2⟩)
        go_enter Tryd.func32, Tryd.ntmps32
        go_wp2
        go_ret
        exact ⟨ret_int (by rw [HS.out]), rfl⟩
      · have d2 : decide ((c.toNat : Int) ≤ 122) = false := decide_eq_false (by omega)
        have HS : Hid (chg true c = c) := Lib.hid (cp_no (by omega))
        go_enter Tryd.func32, Tryd.ntmps32
        go_wp2
        go_ret
        exact ⟨ret_int (by rw [HS.out]), rfl⟩
    · have d1 : decide ((97 : Int) ≤ (c.toNat : Int)) = false := decide_eq_false (by omega)
      have HS : Hid (chg true c = c) := Lib.hid (cp_no (by omega))
      go_enter Tryd.func32, Tryd.ntmps32
      go_wp2
      go_ret
      exact ⟨ret_int (by rw [HS.out]), rfl⟩
  | false =>
    by_cases h1 : 65 ≤ c.toNat
    · have d1 : decide ((65 : Int) ≤ (c.toNat : Int)) = true := decide_eq_true (by omega)
      by_cases h2 : c.toNat ≤ 90
      · have d2 : decide ((c.toNat : Int) ≤ 90) = true := decide_eq_true (by omega)
        have HS : Hid (((chg false c).toNat : Int) = _) := Lib.hid (sm_yes ⟨h1, h2⟩)
        go_enter Tryd.func32, Tryd.ntmps32
        go_wp2
        go_ret
        exact ⟨ret_int (by rw [HS.out]), rfl⟩
      · have d2 : decide ((c.toNat : Int) ≤ 90) = false := decide_eq_false (by omega)
        have HS : Hid (chg false c = c) := Lib.hid (sm_no (by omega))
        go_enter Tryd.func32, Tryd.ntmps32
        go_wp2
        go_ret
        exact ⟨ret_int (by rw [HS.out]), rfl⟩
    · have d1 : decide ((65 : Int) ≤ (c.toNat : Int)) = false := decide_eq_false (by omega)
      have HS : Hid (chg false c = c) := Lib.hid (sm_no (by omega))
      go_enter Tryd.func32, Tryd.ntmps32
      go_wp2
      go_ret
      exact ⟨ret_int (by rw [HS.out]), rfl⟩
set_option maxRecDepth 100000 in
set_option maxHeartbeats 4000000 in
theorem cased_any (s : ByteArray) (n : Nat) (b : Bool) (w : World) (hs : s.size ≤ 4294967281) (hn : n ≤ 4294967281) : Calls Tryd.prog 19 #[.string s, .int .i64 (n : Int), .bool b] w fun e w' => e = .returned (.string (bsl (cs (chg b) n s.data.toList))) ∧ Below w.heap.size w w' := by
  have HG := Lib.hid (fun c w => change_any c b w)
  obtain ⟨g, hg⟩ : ∃ g, chg b = g := ⟨_, rfl⟩
  simp only [hg] at HG ⊢
  clear hg
  obtain ⟨C, W1, hconv, hrb, hb1⟩ := conv_to s w
  have hsz := size_list s
  have HZ := Lib.hid hsz
  clear hsz
  have HR0 : Hid (RB W1 w.heap.size (cs g 0 s.data.toList)) := Lib.hid (by rw [cs_zero]; exact hrb)
  have HB1 := Lib.hid hb1
  clear hrb hb1
  go_enter Tryd.func19, Tryd.ntmps19
  go_wp2_with fail
  clear hconv
  go_loopw [8] (fun iv wr => ∃ i : Nat, iv = .int .i64 i ∧ i ≤ s.size ∧ i ≤ n ∧ Hid (RB wr w.heap.size (cs g i s.data.toList)) ∧ Hid (Below w.heap.size w wr)) (fun i _ => s.size - (intOf i).toNat)
  case atStart => exact ⟨0, by go_num, Nat.zero_le _, Nat.zero_le _, HR0, HB1⟩
  case round =>
    obtain ⟨i, rfl, hi, hin, HR, HB⟩ := hrel
    by_cases hlt : i < s.size
    · have hltI : (i : Int) < (s.size : Int) := by omega
      have hd : decide ((i : Int) < (s.size : Int)) = true := decide_eq_true hltI
      have hil : i < s.data.toList.length := by rw [HZ.out]; exact hlt
      by_cases hln : i < n
      · have hlnI : (i : Int) < (n : Int) := by omega
        have hd2 : decide ((i : Int) < (n : Int)) = true := decide_eq_true hlnI
        obtain ⟨hcell, hfz⟩ := HR.out.at_ i _ (cs_get g hil)
        have hst := HR.out.set (j := i) (by rw [cs_len]; exact hil) (g s.data.toList[i])
        rw [cs_set g hil] at hst
        obtain ⟨c, hc⟩ : ∃ c, s.data.toList[i] = c := ⟨_, rfl⟩
        rw [hc] at hcell hst
        have HST := Lib.hid hst
        have hbs := HB.out.size
        clear hst hc
        go_wp2_with fail
        refine (HG.out c _).mono ?_
        rintro e w3 ⟨rfl, rfl⟩
        go_wp2_with fail
        go_roundw
        case rel => exact ⟨i + 1, by go_num, by omega, by omega, HST, Lib.hid (HB.out.setCell (p := ⟨w.heap.size, i, none⟩) (Nat.le_refl _) _)⟩
        case measure => simp [intOf]; omega
      · have hlnI : ¬ (i : Int) < (n : Int) := by omega
        have hd2 : decide ((i : Int) < (n : Int)) = false := decide_eq_false hlnI
        obtain rfl : i = n := by omega
        have hcv := conv_back HR.out C
        rw [cs_len, HZ.out] at hcv
        go_wp2_with fail
        go_ret
        exact ⟨rfl, HB.out⟩
    · have hltI : ¬ (i : Int) < (s.size : Int) := by omega
      have hd : decide ((i : Int) < (s.size : Int)) = false := decide_eq_false hltI
      obtain rfl : i = s.size := by omega
      have hcv := conv_back HR.out C
      have hca := (cs_all g (n := s.size) (l := s.data.toList) (by rw [HZ.out]; exact Nat.le_refl _)).trans (cs_all g (n := n) (l := s.data.toList) (by rw [HZ.out]; exact hin)).symm
      rw [cs_len, HZ.out, hca] at hcv
      clear hca
      go_wp2_with fail
      go_ret
      exact ⟨rfl, HB.out⟩
theorem RLower_any (s : ByteArray) (w : World) (hs : s.size ≤ 4294967281) : Calls Tryd.prog 7 #[.string s] w fun e w' => e = .returned (.string (bsl (s.data.toList.map sm))) ∧ Below w.heap.size w w' := by
  have HM := Lib.hid (fun w => cased_any s s.size false w hs hs)
  have HA : Hid (cs (chg false) s.size s.data.toList = s.data.toList.map sm) := Lib.hid (cs_all _ (by rw [size_list]; exact Nat.le_refl _))
  rw [HA.out] at HM
  go_enter Tryd.func7, Tryd.ntmps7
  go_wp2_with fail
  refine (HM.out _).mono ?_
  rintro e w1 ⟨rfl, hb1⟩
  go_wp2
  go_ret
  exact ⟨rfl, hb1⟩
theorem RUpper_any (s : ByteArray) (w : World) (hs : s.size ≤ 4294967281) : Calls Tryd.prog 9 #[.string s] w fun e w' => e = .returned (.string (bsl (s.data.toList.map cp))) ∧ Below w.heap.size w w' := by
  have HM := Lib.hid (fun w => cased_any s s.size true w hs hs)
  have HA : Hid (cs (chg true) s.size s.data.toList = s.data.toList.map cp) := Lib.hid (cs_all _ (by rw [size_list]; exact Nat.le_refl _))
  rw [HA.out] at HM
  go_enter Tryd.func9, Tryd.ntmps9
  go_wp2_with fail
  refine (HM.out _).mono ?_
  rintro e w1 ⟨rfl, hb1⟩
  go_wp2
  go_ret
  exact ⟨rfl, hb1⟩
theorem RFirst_any (s : ByteArray) (b : Bool) (w : World) (hs : s.size ≤ 4294967281) : Calls Tryd.prog 11 #[.string s, .bool b] w fun e w' => e = .returned (.string (bsl (cs (chg b) 1 s.data.toList))) ∧ Below w.heap.size w w' := by
  have HM := Lib.hid (fun w => cased_any s 1 b w hs (by omega))
  go_enter Tryd.func11, Tryd.ntmps11
  go_wp2_with fail
  refine (HM.out _).mono ?_
  rintro e w1 ⟨rfl, hb1⟩
  go_wp2
  go_ret
  exact ⟨rfl, hb1⟩
theorem space_any (c : UInt8) (w : World) : Calls Tryd.prog 21 #[.int .u8 (c.toNat : Int)] w fun e w' => e = .returned (.bool (spc c)) ∧ w' = w := by
  have HS := Lib.hid (spc_eq c)
  by_cases h1 : c.toNat = 9
  · have d1 : ((c.toNat : Int) == 9) = true := by rw [beq_iff_eq]; omega
    have HQ : Hid (spc c = true) := Lib.hid (by rw [HS.out, d1]; rfl)
    go_enter Tryd.func21, Tryd.ntmps21
    go_wp2
    go_ret
    exact ⟨ret_bool HQ.out.symm, rfl⟩
  · have d1 : ((c.toNat : Int) == 9) = false := by rw [beq_eq_false_iff_ne]; omega
    by_cases h2 : c.toNat = 10
    · have d2 : ((c.toNat : Int) == 10) = true := by rw [beq_iff_eq]; omega
      have HQ : Hid (spc c = true) := Lib.hid (by rw [HS.out, d1, d2]; rfl)
      go_enter Tryd.func21, Tryd.ntmps21
      go_wp2
      go_ret
      exact ⟨ret_bool HQ.out.symm, rfl⟩
    · have d2 : ((c.toNat : Int) == 10) = false := by rw [beq_eq_false_iff_ne]; omega
      by_cases h3 : c.toNat = 13
      · have d3 : ((c.toNat : Int) == 13) = true := by rw [beq_iff_eq]; omega
        have HQ : Hid (spc c = true) := Lib.hid (by rw [HS.out, d1, d2, d3]; rfl)
        go_enter Tryd.func21, Tryd.ntmps21
        go_wp2
        go_ret
        exact ⟨ret_bool HQ.out.symm, rfl⟩
      · have d3 : ((c.toNat : Int) == 13) = false := by rw [beq_eq_false_iff_ne]; omega
        have HQ : Hid (spc c = ((c.toNat : Int) == 32)) := Lib.hid (by rw [HS.out, d1, d2, d3]; rfl)
        go_enter Tryd.func21, Tryd.ntmps21
        go_wp2
        go_ret
        exact ⟨ret_bool HQ.out.symm, rfl⟩
set_option maxRecDepth 100000 in
set_option maxHeartbeats 4000000 in
theorem RTrim_any (s0 : ByteArray) (w : World) (hs : s0.size ≤ 4294967281) : Calls Tryd.prog 12 #[.string s0] w fun e w' => e = .returned (.string (bsl (tr s0.data.toList))) ∧ Below w.heap.size w w' := by
  have HT : Hid (tr s0.data.toList = trR (trL s0.data.toList)) := Lib.hid (by rw [tr_eq, tr_swap])
  go_enter Tryd.func12, Tryd.ntmps12
  go_wp2_with fail
  go_loopw [0] (fun sv wr => ∃ s : ByteArray, sv = .string s ∧ s.size ≤ 4294967281 ∧ Hid (trL s.data.toList = trL s0.data.toList) ∧ w = wr) (fun sv _ => match sv with | .string s => s.size | _ => 0)
  case atStart => exact ⟨s0, rfl, hs, Lib.hid rfl, rfl⟩
  case round =>
    obtain ⟨s, rfl, hsz, HL, rfl⟩ := hrel
    by_cases h0 : s.size = 0
    · have d0 : decide ((0 : Int) < (s.size : Int)) = false := decide_eq_false (by omega)
      have HF : Hid (s.data.toList = trL s0.data.toList) := Lib.hid (by rw [← HL.out, list_nil h0]; rfl)
      clear HL
      go_wp2_with fail
      have hszs : s.size ≤ 4294967281 := hsz
      go_loopw [0] (fun sv wr => ∃ t : ByteArray, sv = .string t ∧ t.size ≤ 4294967281 ∧ Hid (trR t.data.toList = trR s.data.toList) ∧ w = wr) (fun sv _ => match sv with | .string s => s.size | _ => 0)
      case atStart => exact ⟨s, rfl, hszs, Lib.hid rfl, rfl⟩
      case round =>
        obtain ⟨t, rfl, htz, HR, rfl⟩ := hrel
        by_cases k0 : t.size = 0
        · have f0 : decide ((0 : Int) < (t.size : Int)) = false := decide_eq_false (by omega)
          have HE : Hid (t = bsl (tr s0.data.toList)) := Lib.hid (by
            apply bs_inj
            show t.data.toList = tr s0.data.toList
            rw [HT.out, ← HF.out, ← HR.out, list_nil k0]; rfl)
          go_wp2_with fail
          go_ret
          exact ⟨ret_str HE.out, Below.refl _ _⟩
        · have kpos : 0 < t.size := by omega
          have kposI : (0 : Int) < (t.size : Int) := by omega
          have f0 : decide ((0 : Int) < (t.size : Int)) = true := decide_eq_true kposI
          have KY := Lib.hid (fun h => trR_str_yes kpos h)
          have KN := Lib.hid (fun h => trR_str_no kpos h)
          have hlast : t.size - 1 < t.size := by omega
          obtain ⟨c2, hc2⟩ : ∃ c, t[t.size - 1]'hlast = c := ⟨_, rfl⟩
          have hget2 : ∀ h, t[t.size - 1]'h = c2 := fun _ => hc2
          rw [hc2] at KY KN
          have KSp := Lib.hid (fun w => space_any c2 w)
          obtain ⟨b2, hb2⟩ : ∃ b, spc c2 = b := ⟨_, rfl⟩
          rw [hb2] at KSp KY KN
          have q1 : (0 : Int) ≤ (t.size : Int) - 1 := by omega
          have q2 : ((t.size : Int) - 1).toNat = t.size - 1 := by omega
          have q3 : (t.size : Int) - 1 < (t.size : Int) := by omega
          have q4 : (t.size : Int) - 1 ≤ (t.size : Int) := by omega
          clear hb2 hc2
          cases b2 with
          | true =>
            have HR2 : Hid (trR (t.extract 0 (t.size - 1)).data.toList = trR s.data.toList) := Lib.hid ((KY.out rfl).symm.trans HR.out)
            have z2 : (t.extract 0 (t.size - 1)).size = t.size - 1 := by rw [ByteArray.size_extract]; omega
            clear KY KN k0
            go_wp2_with fail
            refine (KSp.out _).mono ?_
            rintro e w4 ⟨rfl, rfl⟩
            go_wp2_with fail
            go_roundw
            case rel => exact ⟨_, rfl, by omega, HR2, trivial⟩
            case measure => show (t.extract 0 (t.size - 1)).size < t.size; omega
          | false =>
            have HE : Hid (t = bsl (tr s0.data.toList)) := Lib.hid (by
              apply bs_inj
              show t.data.toList = tr s0.data.toList
              rw [HT.out, ← HF.out, ← HR.out, KN.out rfl])
            clear KY KN k0
            go_wp2_with fail
            refine (KSp.out _).mono ?_
            rintro e w4 ⟨rfl, rfl⟩
            go_wp2_with fail
            go_ret
            exact ⟨ret_str HE.out, Below.refl _ _⟩
    · have hpos : 0 < s.size := by omega
      have hposI : (0 : Int) < (s.size : Int) := by omega
      have d0 : decide ((0 : Int) < (s.size : Int)) = true := decide_eq_true hposI
      have HY := Lib.hid (fun h => trL_str_yes hpos h)
      have HN := Lib.hid (fun h => trL_str_no hpos h)
      obtain ⟨c, hc⟩ : ∃ c, s[0]'hpos = c := ⟨_, rfl⟩
      have hget : ∀ h, s[0]'h = c := fun _ => hc
      rw [hc] at HY HN
      have HSp := Lib.hid (fun w => space_any c w)
      obtain ⟨b, hb⟩ : ∃ b, spc c = b := ⟨_, rfl⟩
      rw [hb] at HSp HY HN
      clear hb hc
      cases b with
      | true =>
        have HL2 : Hid (trL (s.extract 1 s.size).data.toList = trL s0.data.toList) := Lib.hid ((HY.out rfl).symm.trans HL.out)
        have a1 : (1 : Int) ≤ (s.size : Int) := by omega
        have a2 : 1 ≤ s.size := by omega
        have z1 : (s.extract 1 s.size).size = s.size - 1 := by rw [ByteArray.size_extract]; omega
        clear HY HN h0
        go_wp2_with fail
        refine (HSp.out _).mono ?_
        rintro e w3 ⟨rfl, rfl⟩
        go_wp2_with fail
        go_roundw
        case rel => exact ⟨_, rfl, by omega, HL2, trivial⟩
        case measure => show (s.extract 1 s.size).size < s.size; omega
      | false =>
        have HF : Hid (s.data.toList = trL s0.data.toList) := Lib.hid ((HN.out rfl).symm.trans HL.out)
        clear HY HN HL h0
        go_wp2_with fail
        refine (HSp.out _).mono ?_
        rintro e w3 ⟨rfl, hw3⟩
        subst w3
        go_wp2_with fail
        have hszs : s.size ≤ 4294967281 := hsz
        go_loopw [0] (fun sv wr => ∃ t : ByteArray, sv = .string t ∧ t.size ≤ 4294967281 ∧ Hid (trR t.data.toList = trR s.data.toList) ∧ w = wr) (fun sv _ => match sv with | .string s => s.size | _ => 0)
        case atStart => exact ⟨s, rfl, hszs, Lib.hid rfl, rfl⟩
        case round =>
          obtain ⟨t, rfl, htz, HR, rfl⟩ := hrel
          by_cases k0 : t.size = 0
          · have f0 : decide ((0 : Int) < (t.size : Int)) = false := decide_eq_false (by omega)
            have HE : Hid (t = bsl (tr s0.data.toList)) := Lib.hid (by
              apply bs_inj
              show t.data.toList = tr s0.data.toList
              rw [HT.out, ← HF.out, ← HR.out, list_nil k0]; rfl)
            go_wp2_with fail
            go_ret
            exact ⟨ret_str HE.out, Below.refl _ _⟩
          · have kpos : 0 < t.size := by omega
            have kposI : (0 : Int) < (t.size : Int) := by omega
            have f0 : decide ((0 : Int) < (t.size : Int)) = true := decide_eq_true kposI
            have KY := Lib.hid (fun h => trR_str_yes kpos h)
            have KN := Lib.hid (fun h => trR_str_no kpos h)
            have hlast : t.size - 1 < t.size := by omega
            obtain ⟨c2, hc2⟩ : ∃ c, t[t.size - 1]'hlast = c := ⟨_, rfl⟩
            have hget2 : ∀ h, t[t.size - 1]'h = c2 := fun _ => hc2
            rw [hc2] at KY KN
            have KSp := Lib.hid (fun w => space_any c2 w)
            obtain ⟨b2, hb2⟩ : ∃ b, spc c2 = b := ⟨_, rfl⟩
            rw [hb2] at KSp KY KN
            have q1 : (0 : Int) ≤ (t.size : Int) - 1 := by omega
            have q2 : ((t.size : Int) - 1).toNat = t.size - 1 := by omega
            have q3 : (t.size : Int) - 1 < (t.size : Int) := by omega
            have q4 : (t.size : Int) - 1 ≤ (t.size : Int) := by omega
            clear hb2 hc2
            cases b2 with
            | true =>
              have HR2 : Hid (trR (t.extract 0 (t.size - 1)).data.toList = trR s.data.toList) := Lib.hid ((KY.out rfl).symm.trans HR.out)
              have z2 : (t.extract 0 (t.size - 1)).size = t.size - 1 := by rw [ByteArray.size_extract]; omega
              clear KY KN k0
              go_wp2_with fail
              refine (KSp.out _).mono ?_
              rintro e w4 ⟨rfl, rfl⟩
              go_wp2_with fail
              go_roundw
              case rel => exact ⟨_, rfl, by omega, HR2, trivial⟩
              case measure => show (t.extract 0 (t.size - 1)).size < t.size; omega
            | false =>
              have HE : Hid (t = bsl (tr s0.data.toList)) := Lib.hid (by
                apply bs_inj
                show t.data.toList = tr s0.data.toList
                rw [HT.out, ← HF.out, ← HR.out, KN.out rfl])
              clear KY KN k0
              go_wp2_with fail
              refine (KSp.out _).mono ?_
              rintro e w4 ⟨rfl, rfl⟩
              go_wp2_with fail
              go_ret
              exact ⟨ret_str HE.out, Below.refl _ _⟩
end Go.Proofs.YtihhejeciagdpaaDoor.Sf
