/-
  The contracts of the reference's SpaceName, cut, prefixed and blanks.
-/
import Derived.Test.YtaapdhpfjiaeaaaDoorTiRef1
namespace Go.Proofs.YtaapdhpfjiaeaaaDoor.Ti
open Go.RowKit

set_option maxRecDepth 100000 in
theorem SpaceName_any (k : Nat) (hk : k ≤ 5) (w : World) :
    Calls Tryd.prog 43 #[.int .i64 (k : Int)] w fun e w' => e = .returned (.string ⟨(name k).toArray⟩) ∧ Below w.heap.size w w' := by
  have h : k = 0 ∨ k = 1 ∨ k = 2 ∨ k = 3 ∨ k = 4 ∨ k = 5 := by omega
  have hB : ∀ o, Below w.heap.size w (w.alloc o) := fun o => (Below.refl _ w).alloc (Nat.le_refl _) _
  rcases h with rfl | rfl | rfl | rfl | rfl | rfl
  all_goals
    go_enter Tryd.func43, Tryd.ntmps43
    go_wp2
    go_ret
    exact ⟨rfl, hB _⟩

theorem trimPrefix_one (x : ByteArray) (h : 0 < x.size) : Lib.trimPrefix x.data.toList [32] = if x[0] = 32 then x.data.toList.drop 1 else x.data.toList := by
  have e := data_cons x h
  generalize x.data.toList.drop 1 = r at e ⊢
  rw [e]
  by_cases hc : x[0] = 32
  · rw [if_pos hc, hc]; exact trimPrefix_yes 32 r
  · rw [if_neg hc]; exact trimPrefix_no hc
theorem str_of {x : ByteArray} {l : List UInt8} (h : x.data.toList = l) : x = ⟨l.toArray⟩ := by
  apply ByteArray.ext; apply Array.ext'; exact h

theorem cut_any (s : ByteArray) (n : Nat) (hn : n ≤ s.size) (w : World) :
    Calls Tryd.prog 36 #[.string s, .int .i64 (n : Int)] w fun e w' => e = .returned (.string ⟨(Lib.trimPrefix (s.data.toList.drop n) [32]).toArray⟩) ∧ w = w' := by
  have hx := Lib.extract_to_end s n
  have hz : (s.extract n s.size).size = s.size - n := by simp
  have hn1 : (n : Int) ≤ (s.size : Int) := by omega
  by_cases h0 : n = s.size
  · have hfin : s.extract n s.size = ⟨(Lib.trimPrefix (s.data.toList.drop n) [32]).toArray⟩ := by
      apply str_of
      rw [hx, List.drop_of_length_le (by show s.size ≤ n; omega)]; rfl
    have HF := Lib.hid hfin; clear hfin hx
    have hd : ¬ (0 : Int) < ((s.size - n : Nat) : Int) := by omega
    have hd2 : ¬ 0 < s.size - n := by omega
    clear h0
    go_enter Tryd.func36, Tryd.ntmps36
    go_wp2
    go_ret
    exact ⟨ret_str HF.out, rfl⟩
  · have hp : 0 < (s.extract n s.size).size := by omega
    have ht := trimPrefix_one (s.extract n s.size) hp
    rw [hx] at ht
    have hp2 : 0 < s.size - n := by omega
    have hp3 : (1 : Int) ≤ ((s.size - n : Nat) : Int) := by omega
    have hp4 : 1 ≤ s.size - n := by omega
    by_cases hc : (s.extract n s.size)[0] = 32
    · have hd : (((s.extract n s.size)[0].toNat : Int) == 32) = true := by rw [hc]; rfl
      rw [if_pos hc] at ht
      have hfin : (s.extract n s.size).extract 1 (s.size - n) = ⟨(Lib.trimPrefix (s.data.toList.drop n) [32]).toArray⟩ := by
        apply str_of
        rw [ht, ← hz, Lib.extract_to_end, hx]
      have HF := Lib.hid hfin; clear hfin hx ht hc
      go_enter Tryd.func36, Tryd.ntmps36
      go_wp2
      go_ret
      exact ⟨ret_str HF.out, rfl⟩
    · have hd : (((s.extract n s.size)[0].toNat : Int) == 32) = false := u8_ne hc
      rw [if_neg hc] at ht
      have hfin : s.extract n s.size = ⟨(Lib.trimPrefix (s.data.toList.drop n) [32]).toArray⟩ := by
        apply str_of
        rw [ht, hx]
      have HF := Lib.hid hfin; clear hfin hx ht hc
      go_enter Tryd.func36, Tryd.ntmps36
      go_wp2
      go_ret
      exact ⟨ret_str HF.out, rfl⟩

theorem Index_zero (s t : ByteArray) (w : World) (hs : s.size < 4294967281) (ht : t.size < 4294967281) :
    Calls Tryd.prog 41 #[.string s, .string t, .int .i64 0] w fun e w' => e = .returned (.int .i64 (Lib.index s.data.toList t.data.toList)) ∧ w = w' := by
  have h := Index_any s t 0 w (Nat.zero_le _) hs ht
  rw [indexFrom_zero] at h
  exact h
theorem hasSuffix_snoc (a : List UInt8) (d c : UInt8) : Lib.hasSuffix (a ++ [d]) [c] = (c == d) := by
  unfold Lib.hasSuffix
  simp [List.isSuffixOf, List.isPrefixOf]
theorem data_snoc (x : ByteArray) (h : 0 < x.size) : x.data.toList = x.data.toList.take (x.size - 1) ++ [x[x.size - 1]'(by omega)] := by
  have := take_snoc x (x.size - 1) (by omega)
  rw [show x.size - 1 + 1 = x.size from by omega, List.take_of_length_le (by show x.size ≤ x.size; omega)] at this
  exact this
theorem trimSuffix_last (x : ByteArray) (h : 0 < x.size) : Lib.trimSuffix x.data.toList [32] = if x[x.size - 1]'(by omega) = 32 then x.data.toList.take (x.size - 1) else x.data.toList := by
  have e := data_snoc x h
  have hl : x.data.toList.length = x.size := rfl
  unfold Lib.trimSuffix
  rw [hl]
  have hs : Lib.hasSuffix x.data.toList [32] = (32 == x[x.size - 1]'(by omega)) := by rw [e]; exact hasSuffix_snoc _ _ _
  rw [hs]
  by_cases hc : x[x.size - 1]'(by omega) = 32
  · rw [if_pos hc, hc]; rfl
  · rw [if_neg hc, if_neg]
    simp; exact fun e => hc e.symm
theorem trimSuffix_at (x : ByteArray) (n : Nat) (hn : x.size = n) (h : 0 < n) : Lib.trimSuffix x.data.toList [32] = if x[n - 1]'(by omega) = 32 then x.data.toList.take (n - 1) else x.data.toList := by
  subst hn; exact trimSuffix_last x h
def atOf (l : List UInt8) : Int := if space l = 0 then 0 else Lib.index l [58]

set_option maxRecDepth 100000 in
set_option maxHeartbeats 1000000 in
theorem prefixed_miss (s : ByteArray) (w : World) (hs : s.size < 4294967281) (hi : Lib.index s.data.toList [58] = -1) :
    Calls Tryd.prog 37 #[.string s] w fun e w' => e = .returned (.tuple #[.int .i64 (space s.data.toList : Int), .int .i64 (atOf s.data.toList)]) ∧ Below w.heap.size w w' := by
  have hc : (Lib.cut s.data.toList [58]).2.2 = false := by unfold Lib.cut; rw [hi]; rfl
  have h0 : space s.data.toList = 0 := by unfold space; rw [hc]; rfl
  have ha : atOf s.data.toList = 0 := by unfold atOf; rw [if_pos h0]
  have H0 := Lib.hid h0; have HA := Lib.hid ha; clear h0 ha hc
  go_enter Tryd.func37, Tryd.ntmps37
  go_wp2_with fail
  refine (Index_zero _ _ _ hs (by decide)).mono ?_
  rintro e w' ⟨rfl, rfl⟩
  go_wp2
  go_ret2
  exact ⟨by rw [H0.out, HA.out]; rfl, Below.refl _ _⟩
set_option maxRecDepth 100000 in
set_option maxHeartbeats 1000000 in
theorem prefixed_hit (s : ByteArray) (i : Nat) (w : World) (hs : s.size < 4294967281) (hi : Lib.index s.data.toList [58] = (i : Int)) :
    Calls Tryd.prog 37 #[.string s] w fun e w' => e = .returned (.tuple #[.int .i64 (space s.data.toList : Int), .int .i64 (atOf s.data.toList)]) ∧ Below w.heap.size w w' := by
  have hr := Lib.index_room s.data.toList [58] (by omega)
  have hsl : s.data.toList.length = s.size := rfl
  have his : i < s.size := by rw [hi] at hr; simp at hr; omega
  have hcut : (Lib.cut s.data.toList [58]).1 = s.data.toList.take i ∧ (Lib.cut s.data.toList [58]).2.2 = true := by
    unfold Lib.cut; rw [hi, if_pos (by omega)]; exact ⟨by simp, rfl⟩
  have hsp : space s.data.toList = spaceFrom (Lib.trimSuffix (s.data.toList.take i) [32]) 5 1 := by unfold space; rw [hcut.2, if_pos rfl, hcut.1]
  have hz : (s.extract 0 i).size = i := by simp; omega
  have hxd : (s.extract 0 i).data.toList = s.data.toList.take i := by rw [Lib.extract_data]; simp
  clear hr hcut
  have HSP := Lib.hid hsp; have HXD := Lib.hid hxd; have HI := Lib.hid hi; clear hsp hxd
  have hi0 : decide ((i : Int) < 0) = false := by simp
  have hi1 : (i : Int) ≤ (s.size : Int) := by omega
  by_cases h0 : i = 0
  · have HQ : Hid (s.data.toList.take i = Lib.trimSuffix (s.data.toList.take i) [32]) := Lib.hid (by rw [h0]; rfl)
    have hql : (s.extract 0 i).size ≤ s.size := by omega
    have hd : decide ((0 : Int) < (i : Int)) = false := by simp; omega
    have hd' : ¬ 0 < i := by omega
    clear h0
    go_enter Tryd.func37, Tryd.ntmps37
    go_wp2_with fail
    refine (Index_zero _ _ _ hs (by decide)).mono ?_
    rintro e w' ⟨rfl, rfl⟩
    go_wp2
    have hqm : (s.extract 0 i).size ≤ maxLen := by unfold maxLen; omega
    have HQM := Lib.hid hqm; clear hqm
    obtain ⟨p, hp'⟩ : ∃ p, Lib.trimSuffix (s.data.toList.take i) [32] = p := ⟨_, rfl⟩
    have HSP := Lib.hid (HSP.out.trans (by rw [hp']))
    have HQ := Lib.hid (HQ.out.trans hp')
    clear hp'
    go_loopw [6] (fun j wr => ∃ k : Nat, 1 ≤ k ∧ k ≤ 6 ∧ j = .int .i64 k ∧ Below w.heap.size w wr ∧ Hid (spaceFrom p 5 1 = spaceFrom p (6 - k) k)) (fun j _ => 6 - (intOf j).toNat)
    case atStart => exact ⟨1, by omega, by omega, rfl, Below.refl _ _, Lib.hid rfl⟩
    case round =>
      obtain ⟨k, hk1, hk2, rfl, hbw, hr⟩ := hrel
      by_cases hlt : k < 6
      · have hlt' : (k : Int) < 6 := by omega
        cases hc : fold (s.data.toList.take i) (name k)
        · have hc' : fold p (name k) = false := by rw [← HQ.out]; exact hc
          have HC := Lib.hid hc'; clear hc'
          go_wp2_with fail
          refine (SpaceName_any k (by omega) _).mono ?_
          rintro e w2 ⟨rfl, hb2⟩
          go_wp2_with fail
          refine (sameLetters_any _ _ _ HQM.out).mono ?_
          rintro e w3 ⟨rfl, n3, rfl⟩
          go_wp2
          go_roundw
          case rel => exact ⟨k + 1, by omega, by omega, by go_num, below_drewN (hbw.trans (hb2.mono hbw.size)) n3, Lib.hid (by rw [hr.out, show 6 - k = (6 - (k + 1)) + 1 from by omega, spaceFrom_no HC.out])⟩
          case measure => simp [intOf]; omega
        · have hc' : fold p (name k) = true := by rw [← HQ.out]; exact hc
          have hfin : space s.data.toList = k := by rw [HSP.out, hr.out, show 6 - k = (5 - k) + 1 from by omega, spaceFrom_yes hc']
          have hat : atOf s.data.toList = (i : Int) := by unfold atOf; rw [hfin, if_neg (by omega), HI.out]
          have HF := Lib.hid hfin; have HAT := Lib.hid hat; clear hc' hfin hat
          go_wp2_with fail
          refine (SpaceName_any k (by omega) _).mono ?_
          rintro e w2 ⟨rfl, hb2⟩
          go_wp2_with fail
          refine (sameLetters_any _ _ _ HQM.out).mono ?_
          rintro e w3 ⟨rfl, n3, rfl⟩
          go_wp2
          go_ret2
          exact ⟨by rw [HF.out, HAT.out]; rfl, below_drewN (hbw.trans (hb2.mono hbw.size)) n3⟩
      · have hlt' : ¬ (k : Int) < 6 := by omega
        have hfin : space s.data.toList = 0 := by rw [HSP.out, hr.out, show 6 - k = 0 from by omega]; rfl
        have hat : atOf s.data.toList = 0 := by unfold atOf; rw [hfin, if_pos rfl]
        have HF := Lib.hid hfin; have HAT := Lib.hid hat; clear hfin hat
        go_wp2
        go_ret2
        exact ⟨by rw [HF.out, HAT.out]; rfl, hbw⟩
  have hp : 0 < i := by omega
  have hp1 : 0 < (s.extract 0 i).size := by omega
  have hp2 : (1 : Int) ≤ (i : Int) := by omega
  have hp3 : i - 1 < (s.extract 0 i).size := by omega
  have ht := trimSuffix_at (s.extract 0 i) i hz hp
  rw [HXD.out] at ht
  by_cases hc : (s.extract 0 i)[i - 1] = 32
  · rw [if_pos hc] at ht
    have hd : (((s.extract 0 i)[i - 1].toNat : Int) == 32) = true := by rw [hc]; rfl
    have HQ : Hid (s.data.toList.take (i - 1) = Lib.trimSuffix (s.data.toList.take i) [32]) := Lib.hid (by rw [ht, List.take_take]; congr 1; omega)
    have hql : ((s.extract 0 i).extract 0 (i - 1)).size ≤ s.size := by simp; omega
    clear ht hc h0
    go_enter Tryd.func37, Tryd.ntmps37
    go_wp2_with fail
    refine (Index_zero _ _ _ hs (by decide)).mono ?_
    rintro e w' ⟨rfl, rfl⟩
    go_wp2
    have hqm : ((s.extract 0 i).extract 0 (i - 1)).size ≤ maxLen := by unfold maxLen; omega
    have HQM := Lib.hid hqm; clear hqm
    obtain ⟨p, hp'⟩ : ∃ p, Lib.trimSuffix (s.data.toList.take i) [32] = p := ⟨_, rfl⟩
    have HSP := Lib.hid (HSP.out.trans (by rw [hp']))
    have HQ := Lib.hid (HQ.out.trans hp')
    clear hp'
    go_loopw [6] (fun j wr => ∃ k : Nat, 1 ≤ k ∧ k ≤ 6 ∧ j = .int .i64 k ∧ Below w.heap.size w wr ∧ Hid (spaceFrom p 5 1 = spaceFrom p (6 - k) k)) (fun j _ => 6 - (intOf j).toNat)
    case atStart => exact ⟨1, by omega, by omega, rfl, Below.refl _ _, Lib.hid rfl⟩
    case round =>
      obtain ⟨k, hk1, hk2, rfl, hbw, hr⟩ := hrel
      by_cases hlt : k < 6
      · have hlt' : (k : Int) < 6 := by omega
        cases hc : fold (s.data.toList.take (i - 1)) (name k)
        · have hc' : fold p (name k) = false := by rw [← HQ.out]; exact hc
          have HC := Lib.hid hc'; clear hc'
          go_wp2_with fail
          refine (SpaceName_any k (by omega) _).mono ?_
          rintro e w2 ⟨rfl, hb2⟩
          go_wp2_with fail
          refine (sameLetters_any _ _ _ HQM.out).mono ?_
          rintro e w3 ⟨rfl, n3, rfl⟩
          go_wp2
          go_roundw
          case rel => exact ⟨k + 1, by omega, by omega, by go_num, below_drewN (hbw.trans (hb2.mono hbw.size)) n3, Lib.hid (by rw [hr.out, show 6 - k = (6 - (k + 1)) + 1 from by omega, spaceFrom_no HC.out])⟩
          case measure => simp [intOf]; omega
        · have hc' : fold p (name k) = true := by rw [← HQ.out]; exact hc
          have hfin : space s.data.toList = k := by rw [HSP.out, hr.out, show 6 - k = (5 - k) + 1 from by omega, spaceFrom_yes hc']
          have hat : atOf s.data.toList = (i : Int) := by unfold atOf; rw [hfin, if_neg (by omega), HI.out]
          have HF := Lib.hid hfin; have HAT := Lib.hid hat; clear hc' hfin hat
          go_wp2_with fail
          refine (SpaceName_any k (by omega) _).mono ?_
          rintro e w2 ⟨rfl, hb2⟩
          go_wp2_with fail
          refine (sameLetters_any _ _ _ HQM.out).mono ?_
          rintro e w3 ⟨rfl, n3, rfl⟩
          go_wp2
          go_ret2
          exact ⟨by rw [HF.out, HAT.out]; rfl, below_drewN (hbw.trans (hb2.mono hbw.size)) n3⟩
      · have hlt' : ¬ (k : Int) < 6 := by omega
        have hfin : space s.data.toList = 0 := by rw [HSP.out, hr.out, show 6 - k = 0 from by omega]; rfl
        have hat : atOf s.data.toList = 0 := by unfold atOf; rw [hfin, if_pos rfl]
        have HF := Lib.hid hfin; have HAT := Lib.hid hat; clear hfin hat
        go_wp2
        go_ret2
        exact ⟨by rw [HF.out, HAT.out]; rfl, hbw⟩
  · rw [if_neg hc] at ht
    have hd : (((s.extract 0 i)[i - 1].toNat : Int) == 32) = false := u8_ne hc
    have HQ : Hid (s.data.toList.take i = Lib.trimSuffix (s.data.toList.take i) [32]) := Lib.hid (by rw [ht])
    have hql : (s.extract 0 i).size ≤ s.size := by omega
    clear ht hc h0
    go_enter Tryd.func37, Tryd.ntmps37
    go_wp2_with fail
    refine (Index_zero _ _ _ hs (by decide)).mono ?_
    rintro e w' ⟨rfl, rfl⟩
    go_wp2
    have hqm : (s.extract 0 i).size ≤ maxLen := by unfold maxLen; omega
    have HQM := Lib.hid hqm; clear hqm
    obtain ⟨p, hp'⟩ : ∃ p, Lib.trimSuffix (s.data.toList.take i) [32] = p := ⟨_, rfl⟩
    have HSP := Lib.hid (HSP.out.trans (by rw [hp']))
    have HQ := Lib.hid (HQ.out.trans hp')
    clear hp'
    go_loopw [6] (fun j wr => ∃ k : Nat, 1 ≤ k ∧ k ≤ 6 ∧ j = .int .i64 k ∧ Below w.heap.size w wr ∧ Hid (spaceFrom p 5 1 = spaceFrom p (6 - k) k)) (fun j _ => 6 - (intOf j).toNat)
    case atStart => exact ⟨1, by omega, by omega, rfl, Below.refl _ _, Lib.hid rfl⟩
    case round =>
      obtain ⟨k, hk1, hk2, rfl, hbw, hr⟩ := hrel
      by_cases hlt : k < 6
      · have hlt' : (k : Int) < 6 := by omega
        cases hc : fold (s.data.toList.take i) (name k)
        · have hc' : fold p (name k) = false := by rw [← HQ.out]; exact hc
          have HC := Lib.hid hc'; clear hc'
          go_wp2_with fail
          refine (SpaceName_any k (by omega) _).mono ?_
          rintro e w2 ⟨rfl, hb2⟩
          go_wp2_with fail
          refine (sameLetters_any _ _ _ HQM.out).mono ?_
          rintro e w3 ⟨rfl, n3, rfl⟩
          go_wp2
          go_roundw
          case rel => exact ⟨k + 1, by omega, by omega, by go_num, below_drewN (hbw.trans (hb2.mono hbw.size)) n3, Lib.hid (by rw [hr.out, show 6 - k = (6 - (k + 1)) + 1 from by omega, spaceFrom_no HC.out])⟩
          case measure => simp [intOf]; omega
        · have hc' : fold p (name k) = true := by rw [← HQ.out]; exact hc
          have hfin : space s.data.toList = k := by rw [HSP.out, hr.out, show 6 - k = (5 - k) + 1 from by omega, spaceFrom_yes hc']
          have hat : atOf s.data.toList = (i : Int) := by unfold atOf; rw [hfin, if_neg (by omega), HI.out]
          have HF := Lib.hid hfin; have HAT := Lib.hid hat; clear hc' hfin hat
          go_wp2_with fail
          refine (SpaceName_any k (by omega) _).mono ?_
          rintro e w2 ⟨rfl, hb2⟩
          go_wp2_with fail
          refine (sameLetters_any _ _ _ HQM.out).mono ?_
          rintro e w3 ⟨rfl, n3, rfl⟩
          go_wp2
          go_ret2
          exact ⟨by rw [HF.out, HAT.out]; rfl, below_drewN (hbw.trans (hb2.mono hbw.size)) n3⟩
      · have hlt' : ¬ (k : Int) < 6 := by omega
        have hfin : space s.data.toList = 0 := by rw [HSP.out, hr.out, show 6 - k = 0 from by omega]; rfl
        have hat : atOf s.data.toList = 0 := by unfold atOf; rw [hfin, if_pos rfl]
        have HF := Lib.hid hfin; have HAT := Lib.hid hat; clear hfin hat
        go_wp2
        go_ret2
        exact ⟨by rw [HF.out, HAT.out]; rfl, hbw⟩
theorem prefixed_any (s : ByteArray) (w : World) (hs : s.size < 4294967281) :
    Calls Tryd.prog 37 #[.string s] w fun e w' => e = .returned (.tuple #[.int .i64 (space s.data.toList : Int), .int .i64 (atOf s.data.toList)]) ∧ Below w.heap.size w w' := by
  by_cases hi : Lib.index s.data.toList [58] = -1
  · exact prefixed_miss s w hs hi
  · have := Lib.index_ge s.data.toList [58]
    exact prefixed_hit s (Lib.index s.data.toList [58]).toNat w hs (by omega)
end Go.Proofs.YtaapdhpfjiaeaaaDoor.Ti
