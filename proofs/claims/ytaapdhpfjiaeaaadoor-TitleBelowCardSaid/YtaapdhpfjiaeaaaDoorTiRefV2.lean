/-
  The contract of the reference's Valid, for every namespace and every name.
-/
import Derived.Test.YtaapdhpfjiaeaaaDoorTiRefV
namespace Go.Proofs.YtaapdhpfjiaeaaaDoor.Ti
open Go.RowKit Go.Proofs.YtaapdhpfjiaeaaaDoor.Rf

theorem lt_of_cell' {w : World} {a : Addr} {v : Value} (h : w.cell? a = some v) : a.block < w.heap.size := by
  obtain ⟨o, ho, _⟩ := cells_of_cell h
  exact (Array.getElem?_eq_some_iff.1 ho).1

set_option maxRecDepth 100000 in
set_option maxHeartbeats 4000000 in
theorem RefValid_any (sp : Int) (s : ByteArray) (w : World) (hs : s.size ≤ maxLen) :
    Calls Tryd.prog 16 #[.agg #[.int .i64 sp, .string s]] w fun e w' => e = .returned (.bool (valid sp s.data.toList)) ∧ Below w.heap.size w w' := by
  unfold maxLen at hs
  have hsl : s.data.toList.length = s.size := rfl
  have hbel : Below w.heap.size w (w.alloc (.cells #[.int .i64 sp, .string s] 24)) := (Below.refl _ w).alloc (Nat.le_refl _) _
  by_cases h1 : sp < 0
  · have hfin : valid sp s.data.toList = false := by rw [valid, if_pos (.inl h1)]
    have HF := Lib.hid hfin; clear hfin
    go_enter Tryd.func16, Tryd.ntmps16
    go_wp2
    go_ret
    exact ⟨ret_bool (by rw [HF.out]), hbel⟩
  by_cases h2 : 6 ≤ sp
  · have hfin : valid sp s.data.toList = false := by rw [valid, if_pos (.inr h2)]
    have HF := Lib.hid hfin; clear hfin
    go_enter Tryd.func16, Tryd.ntmps16
    go_wp2
    go_ret
    exact ⟨ret_bool (by rw [HF.out]), hbel⟩
  have e1 : ¬ (sp < 0 ∨ 6 ≤ sp) := by omega
  by_cases h3 : s.size < 1
  · have hfin : valid sp s.data.toList = false := by rw [valid, if_neg e1, if_pos (.inl (by omega))]
    have HF := Lib.hid hfin; clear hfin e1
    go_enter Tryd.func16, Tryd.ntmps16
    go_wp2
    go_ret
    exact ⟨ret_bool (by rw [HF.out]), hbel⟩
  by_cases h4 : 100 < s.size
  · have hfin : valid sp s.data.toList = false := by rw [valid, if_neg e1, if_pos (.inr (by omega))]
    have HF := Lib.hid hfin; clear hfin e1
    go_enter Tryd.func16, Tryd.ntmps16
    go_wp2
    go_ret
    exact ⟨ret_bool (by rw [HF.out]), hbel⟩
  have H12 : Hid (0 ≤ sp ∧ sp < 6) := Lib.hid (by omega)
  have HLN : Hid (1 ≤ s.data.toList.length ∧ s.data.toList.length ≤ 100) := Lib.hid (by omega)
  have hp : 0 < s.size := by omega
  have hs' : s.size < 4294967281 := by omega
  have dz1 : decide ((s.size : Int) < 1) = false := by simp; omega
  have dz2 : decide (100 < (s.size : Int)) = false := by simp; omega
  clear e1
  go_enter Tryd.func16, Tryd.ntmps16
  go_wp2
  go_loop [4] (fun i => ∃ k : Nat, k ≤ s.size ∧ i = .int .i64 k ∧ Hid (vbytes (s.data.toList.take k) = true)) (fun i => s.size - (intOf i).toNat)
  case atStart => exact ⟨0, Nat.zero_le _, rfl, Lib.hid (by rw [List.take_zero]; decide)⟩
  case round =>
    obtain ⟨k, hk, rfl, hr⟩ := hrel
    by_cases hlt : k < s.size
    · have hE := extract_one s k hlt
      have hk1 : (k : Int) + 1 ≤ (s.size : Int) := by omega
      by_cases b1 : s[k].toNat < 32
      · have hd : decide ((s[k].toNat : Int) < 32) = true := by simp; omega
        have HB := Lib.hid (valid_not (sp := sp) (.inl (vb_bad (s := s) (k := k) (hk := hlt) (by simp [bad, b1]))))
        go_wp2
        go_ret
        exact ⟨ret_bool (by rw [HB.out]), hbel⟩
      have d1 : decide ((s[k].toNat : Int) < 32) = false := by simp; omega
      by_cases b2 : s[k].toNat = 127
      · have hd : ((s[k].toNat : Int) == 127) = true := by rw [beq_iff_eq]; omega
        have HB := Lib.hid (valid_not (sp := sp) (.inl (vb_bad (s := s) (k := k) (hk := hlt) (by simp [bad, b2]))))
        clear b2
        go_wp2
        go_ret
        exact ⟨ret_bool (by rw [HB.out]), hbel⟩
      have d2 : ((s[k].toNat : Int) == 127) = false := by rw [beq_eq_false_iff_ne]; omega
      have hbi := bad_index s[k]
      by_cases b3 : 0 ≤ Lib.indexByte [60, 62, 91, 93, 123, 125, 124, 35, 95] s[k]
      · have HB := Lib.hid (valid_not (sp := sp) (.inl (vb_bad (s := s) (k := k) (hk := hlt) (by simp [bad, b3]))))
        go_wp2_with fail
        refine (Index_zero _ _ _ (by decide) (by show (1 : Nat) < _; decide)).mono ?_
        rintro e w' ⟨rfl, rfl⟩
        go_wp2
        go_ret
        exact ⟨ret_bool (by rw [HB.out]), hbel⟩
      have hnb : bad s[k] = false := by simp [bad, b1, b2, b3]
      have HNB := Lib.hid hnb; clear hnb b1 b2
      by_cases c1 : s[k] = 32
      · have hd : ((s[k].toNat : Int) == 32) = true := by rw [c1]; rfl
        by_cases k0 : k = 0
        · subst k0
          have HV := Lib.hid (vb_step (hk := hlt) hr.out HNB.out (by simp))
          clear c1
          go_wp2_with fail
          refine (Index_zero _ _ _ (by decide) (by show (1 : Nat) < _; decide)).mono ?_
          rintro e w' ⟨rfl, rfl⟩
          go_wp2
          go_round
          case rel => exact ⟨0 + 1, by omega, by go_num, HV⟩
          case measure => simp [intOf]; omega
        · have kp : 0 < k := by omega
          have kp1 : (1 : Int) ≤ (k : Int) := by omega
          have kp2 : k - 1 < s.size := by omega
          have htl := take_last kp hlt
          by_cases c2 : s[k - 1] = 32
          · have hd2 : ((s[k - 1].toNat : Int) == 32) = true := by rw [c2]; rfl
            have HB := Lib.hid (valid_not (sp := sp) (.inl (vb_two (s := s) (k := k) (hk := hlt) (by rw [htl, c2]) c1)))
            clear c1 c2 htl
            go_wp2_with fail
            refine (Index_zero _ _ _ (by decide) (by show (1 : Nat) < _; decide)).mono ?_
            rintro e w' ⟨rfl, rfl⟩
            go_wp2
            go_ret
            exact ⟨ret_bool (by rw [HB.out]), hbel⟩
          · have hd2 : ((s[k - 1].toNat : Int) == 32) = false := u8_ne c2
            have HV := Lib.hid (vb_step (hk := hlt) hr.out HNB.out (fun h => c2 (by rw [htl] at h; simpa using h.1)))
            clear c1 c2 htl
            go_wp2_with fail
            refine (Index_zero _ _ _ (by decide) (by show (1 : Nat) < _; decide)).mono ?_
            rintro e w' ⟨rfl, rfl⟩
            go_wp2
            go_round
            case rel => exact ⟨k + 1, by omega, by go_num, HV⟩
            case measure => simp [intOf]; omega
      · have hd : ((s[k].toNat : Int) == 32) = false := u8_ne c1
        have HV := Lib.hid (vb_step (hk := hlt) hr.out HNB.out (fun h => c1 h.2))
        clear c1
        go_wp2_with fail
        refine (Index_zero _ _ _ (by decide) (by show (1 : Nat) < _; decide)).mono ?_
        rintro e w' ⟨rfl, rfl⟩
        go_wp2
        go_round
        case rel => exact ⟨k + 1, by omega, by go_num, HV⟩
        case measure => simp [intOf]; omega
    · have hvb : vbytes s.data.toList = true := by
        have := hr.out
        rwa [List.take_of_length_le (by simp; omega)] at this
      have HVB := Lib.hid hvb; clear hvb hr
      go_wp2_with fail
      refine (Parts_any _ _ hs').mono ?_
      rintro e w2 ⟨v, rfl, hown, hb2⟩
      have hpl : 1 ≤ (parts 47 s.data.toList).length := by obtain ⟨p, q, e⟩ := parts_ne 47 s.data.toList; rw [e]; simp
      have hpm : (parts 47 s.data.toList).length ≤ 101 := by have := parts_len s.data.toList; omega
      have HVP : Hid (vparts s.data.toList = (parts 47 s.data.toList).all okPart) := Lib.hid rfl
      have hall : ∀ p ∈ parts 47 s.data.toList, p.length ≤ 100 := fun p hp => by have := parts_each s.data.toList p hp; omega
      have HALL := Lib.hid hall; clear hall
      simp only [World.size_alloc] at hown hb2
      have d0 : w2.cell? ⟨w.heap.size, 0, none⟩ = some (.int .i64 sp) := (hb2.cell (p := ⟨w.heap.size, 0, none⟩) (by simp)).trans (by simp)
      have d1 : w2.cell? ⟨w.heap.size, 1, none⟩ = some (.string s) := (hb2.cell (p := ⟨w.heap.size, 1, none⟩) (by simp)).trans (by simp)
      have hbel2 : Below w.heap.size w w2 := hbel.trans (hb2.mono (by simp))
      generalize parts 47 s.data.toList = ps at hown hpl hpm HVP HALL
      obtain ⟨g, cap, rfl⟩ : ∃ g cap, v = .slice (some ⟨g, 0, none⟩) ps.length cap := by
        rcases hown.2 with ⟨_, h0⟩ | ⟨g, cap, cur, hv, _⟩
        · omega
        · exact ⟨g, cap, hv⟩
      have HOWN := Lib.hid hown; clear hown
      go_wp2
      go_loopw [6] (fun i wr => ∃ (j m0 : Nat), j ≤ ps.length ∧ i = .int .i64 j ∧ Hid (wr = w2.drewN m0) ∧ Hid ((ps.take j).all okPart = true)) (fun i _ => ps.length - (intOf i).toNat)
      case atStart => exact ⟨0, 0, Nat.zero_le _, rfl, Lib.hid rfl, Lib.hid rfl⟩
      case round =>
        obtain ⟨j, m0, hj, rfl, hw, hr⟩ := hrel
        by_cases hjl : j < ps.length
        · obtain ⟨X, hX⟩ : ∃ X : ByteArray, X = ⟨(ps[j]).toArray⟩ := ⟨_, rfl⟩
          have hXd : X.data.toList = ps[j] := by rw [hX]
          have hXs : X.size ≤ 100 := by have h := HALL.out ps[j] (List.getElem_mem hjl); rw [← hXd] at h; exact h
          have hcell : wr.cell? ⟨g, j, none⟩ = some (.string X) := by
            rw [hw.out]
            show w2.cell? ⟨g, j, none⟩ = _
            rw [HOWN.out.cellAt j (by omega), hX]
            simp [strs, hjl]
          have hstep : (ps.take (j + 1)).all okPart = okPart X.data.toList := by
            rw [List.take_succ_eq_append_getElem hjl, List.all_append, hr.out, hXd]; simp
          have hno : okPart X.data.toList = false → valid sp s.data.toList = false := fun h => valid_not (.inr (by
            rw [HVP.out, List.all_eq_false]
            exact ⟨ps[j], List.getElem_mem hjl, by rw [← hXd, h]; simp⟩))
          have HST := Lib.hid hstep; have HNO := Lib.hid hno
          have hji : (j : Int) < (ps.length : Int) := by omega
          clear hX hXd hstep hno
          by_cases x0 : X.size = 0
          · have h1 : X.data.toList = [] := by rw [← List.length_eq_zero_iff]; exact x0
            have h2 : X.toList.isEmpty = true := by rw [Lib.toList_data, h1]; rfl
            have h3 : X.toList = [] := by rw [Lib.toList_data, h1]
            have HF := Lib.hid (HNO.out (by rw [h1]; rfl)); clear h1 x0
            go_wp2
            go_quiet (fail)
            go_wp2
            go_ret
            exact ⟨ret_bool (by rw [HF.out]), by rw [hw.out]; exact below_drewN (below_drewN hbel2 m0) nq⟩
          · have x1 : 0 < X.size := by omega
            have h2 : X.toList.isEmpty = false := by rw [Lib.toList_data]; exact empty_of X x1
            have h3 : ¬ X.toList = [] := by rw [Lib.toList_data]; intro e; have := empty_of X x1; rw [e] at this; cases this
            have x2 : (1 : Int) ≤ (X.size : Int) := by omega
            have x3 : X.size - 1 < X.size := by omega
            have hlo := last_of X x1
            have hhd := head_of X x1
            by_cases ha : X[0] = 32
            · have hd : ((X[0].toNat : Int) == 32) = true := by rw [ha]; rfl
              have HF := Lib.hid (HNO.out (by rw [okPart, hhd, ha]; simp)); clear ha hlo hhd x0
              go_wp2
              go_quiet (fail)
              go_wp2
              go_ret
              exact ⟨ret_bool (by rw [HF.out]), by rw [hw.out]; exact below_drewN (below_drewN hbel2 m0) nq⟩
            · have hd : ((X[0].toNat : Int) == 32) = false := u8_ne ha
              have a1 := IntWalk.i64_in ((X.size : Int) - 1) (by omega)
              have a2 : (0 : Int) ≤ (X.size : Int) - 1 := by omega
              have a3 : ((X.size : Int) - 1).toNat = X.size - 1 := by omega
              have a4 : (X.size : Int) - 1 < (X.size : Int) := by omega
              by_cases hb : X[X.size - 1] = 32
              · have hd2 : ((X[X.size - 1].toNat : Int) == 32) = true := by rw [hb]; rfl
                have HF := Lib.hid (HNO.out (by rw [okPart, hlo, hb]; simp)); clear ha hb hlo hhd x0
                go_wp2
                go_quiet (fail)
                go_wp2
                go_ret
                exact ⟨ret_bool (by rw [HF.out]), by rw [hw.out]; exact below_drewN (below_drewN hbel2 m0) nq⟩
              · have hd2 : ((X[X.size - 1].toNat : Int) == 32) = false := u8_ne hb
                have HK : Hid ((ps.take (j + 1)).all okPart = true) := Lib.hid (HST.out.trans (by rw [okPart, hlo, hhd, empty_of X x1]; simp [ha, hb])); clear ha hb hlo hhd x0
                go_wp2
                go_quiet (fail)
                clear a1
                go_wp2
                go_roundw
                case rel => exact ⟨j + 1, m0 + nq, by omega, by go_num, Lib.hid (by rw [hw.out, World.drewN_drewN]), HK⟩
                case measure => simp [intOf]; omega
        · have hvp : vparts s.data.toList = true := by
            have := hr.out
            rw [List.take_of_length_le (by omega)] at this
            rw [HVP.out, this]
          have HVPT := Lib.hid hvp; clear hvp hr
          have e0 : wr.cell? ⟨w.heap.size, 0, none⟩ = some (.int .i64 sp) := by rw [hw.out]; exact d0
          have hhd := head_of s hp
          have hbw : Below w.heap.size w wr := by rw [hw.out]; exact below_drewN hbel2 m0
          by_cases f1 : s[0] = 58
          · have hd : ((s[0].toNat : Int) == 58) = true := by rw [f1]; rfl
            have hf : valid sp s.data.toList = false := by
              cases hv : valid sp s.data.toList
              · rfl
              · exact absurd f1 ((valid_parts hv).2.2.1 s[0] hhd).1
            have HF := Lib.hid hf; clear hf f1 hhd
            go_wp2
            go_ret
            exact ⟨ret_bool (by rw [HF.out]), hbw⟩
          have df1 : ((s[0].toNat : Int) == 58) = false := u8_ne f1
          by_cases f2 : small s[0] = true
          · obtain ⟨g1, g2⟩ : 97 ≤ s[0].toNat ∧ s[0].toNat ≤ 122 := by simpa [small] using f2
            have q1 : 97 ≤ (s[0].toNat : Int) := by omega
            have q2 : (s[0].toNat : Int) ≤ 122 := by omega
            have hf : valid sp s.data.toList = false := by
              cases hv : valid sp s.data.toList
              · rfl
              · have := ((valid_parts hv).2.2.1 s[0] hhd).2; rw [f2] at this; cases this
            have HF := Lib.hid hf; clear hf f1 f2 hhd g1 g2
            go_wp2
            go_ret
            exact ⟨ret_bool (by rw [HF.out]), hbw⟩
          have f2' : small s[0] = false := by simpa using f2
          have HFST : Hid (∀ c, s.data.toList.head? = some c → c ≠ 58 ∧ small c = false) := Lib.hid (fun c hc => by rw [hhd] at hc; cases hc; exact ⟨f1, f2'⟩)
          have hns : ¬ (97 ≤ s[0].toNat ∧ s[0].toNat ≤ 122) := by simpa [small] using f2
          have hfin : valid sp s.data.toList = (decide (sp ≠ 0) || decide (space s.data.toList = 0)) := by
            by_cases z : sp = 0
            · by_cases z2 : space s.data.toList = 0
              · rw [valid_mk H12.out HLN.out HFST.out (fun _ => z2) HVB.out HVPT.out]; simp [z2]
              · have : valid sp s.data.toList = false := by
                  cases hv : valid sp s.data.toList
                  · rfl
                  · exact absurd ((valid_parts hv).2.2.2.1 z) z2
                rw [this]; simp [z, z2]
            · rw [valid_mk H12.out HLN.out HFST.out (fun h => absurd h z) HVB.out HVPT.out]; simp [z]
          have HF := Lib.hid hfin
          clear hfin f1 f2 f2' hhd
          have hq : (s[0].toNat : Int) < 97 ∨ (97 ≤ (s[0].toNat : Int) ∧ 122 < (s[0].toNat : Int)) := by omega
          clear hns
          by_cases z : sp = 0
          · have dz : (sp != 0) = false := by rw [z]; rfl
            by_cases z2 : space s.data.toList = 0
            · have d2 : (((space s.data.toList : Nat) : Int) == 0) = true := by rw [z2]; rfl
              have HT := Lib.hid (HF.out.trans (by simp [z2] : _ = true))
              clear z z2
              rcases hq with q1 | ⟨q1, q2⟩
              all_goals
                go_wp2_with fail
                refine (prefixed_any _ _ hs').mono ?_
                rintro e w5 ⟨rfl, hb5⟩
                have e1 : w5.cell? ⟨w.heap.size, 0, none⟩ = some (.int .i64 sp) := (hb5.cell (p := ⟨w.heap.size, 0, none⟩) (lt_of_cell' e0)).trans e0
                go_wp2
                go_ret
                exact ⟨ret_bool (by rw [HT.out]), hbw.trans (hb5.mono hbw.size)⟩
            · have d2 : (((space s.data.toList : Nat) : Int) == 0) = false := by rw [beq_eq_false_iff_ne]; omega
              have HT := Lib.hid (HF.out.trans (by simp [z, z2] : _ = false))
              clear z z2
              rcases hq with q1 | ⟨q1, q2⟩
              all_goals
                go_wp2_with fail
                refine (prefixed_any _ _ hs').mono ?_
                rintro e w5 ⟨rfl, hb5⟩
                have e1 : w5.cell? ⟨w.heap.size, 0, none⟩ = some (.int .i64 sp) := (hb5.cell (p := ⟨w.heap.size, 0, none⟩) (lt_of_cell' e0)).trans e0
                go_wp2
                go_ret
                exact ⟨ret_bool (by rw [HT.out]), hbw.trans (hb5.mono hbw.size)⟩
          · have dz : (sp != 0) = true := by rw [bne_iff_ne]; exact z
            have HT := Lib.hid (HF.out.trans (by simp [z] : _ = true))
            clear z
            rcases hq with q1 | ⟨q1, q2⟩
            all_goals
              go_wp2_with fail
              refine (prefixed_any _ _ hs').mono ?_
              rintro e w5 ⟨rfl, hb5⟩
              have e1 : w5.cell? ⟨w.heap.size, 0, none⟩ = some (.int .i64 sp) := (hb5.cell (p := ⟨w.heap.size, 0, none⟩) (lt_of_cell' e0)).trans e0
              go_wp2
              go_ret
              exact ⟨ret_bool (by rw [HT.out]), hbw.trans (hb5.mono hbw.size)⟩
end Go.Proofs.YtaapdhpfjiaeaaaDoor.Ti
