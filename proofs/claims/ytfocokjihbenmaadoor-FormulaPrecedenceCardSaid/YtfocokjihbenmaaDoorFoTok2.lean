/-
  The contracts of signLength and tokenLength.
-/
import Derived.Test.YtfocokjihbenmaaDoorFoTok
import Derived.Lib.IndexAny
namespace Go.Proofs.YtfocokjihbenmaaDoor.Fo
open Go.RowKit Go.Proofs.YtfocokjihbenmaaDoor.Nu
set_option linter.unusedVariables false
set_option linter.unusedSimpArgs false

set_option maxRecDepth 100000 in
set_option maxHeartbeats 1000000 in
theorem signLength_any (s : ByteArray) (h0 : 0 < s.size) (hs : s.size ≤ 1000) (w : World) : Calls Tryd.prog 45 #[.string s] w fun e w' => e = .returned (.int .i64 (signLen s.data.toList : Int)) ∧ w' = w := by
  have hsz : s.data.toList.length = s.size := rfl
  obtain ⟨M, hM⟩ : ∃ M : Nat, min 2 s.size = M := ⟨_, rfl⟩
  have hM1 : min (2 : Int) (s.size : Int) = (M : Int) := by omega
  have hM2 : M ≤ s.size := by omega
  have ht : s.data.toList.take M = s.data.toList.take 2 := by
    rcases Nat.lt_or_ge s.size 2 with h | h
    · rw [List.take_of_length_le (by omega), List.take_of_length_le (by omega)]
    · rw [show M = 2 by omega]
  have he : (s.extract 0 M).data.toList = s.data.toList.take M := by simp
  rw [ht] at he
  have hh : ∃ c r, s.data.toList = c :: r := by
    cases hq : s.data.toList with
    | nil => rw [hq] at hsz; simp at hsz; omega
    | cons c r => exact ⟨c, r, rfl⟩
  obtain ⟨c, r, hcr⟩ := hh
  have hS : signLen s.data.toList = if s.data.toList.take 2 ∈ twos then 2 else (if c ∈ ones then 1 else 0) := by rw [hcr]; rfl
  rw [hS]
  have h1 : s.extract 0 1 = ⟨#[c]⟩ := by
    apply ByteArray.ext; apply Array.ext'
    rw [show (s.extract 0 1).data.toList = s.data.toList.take 1 by simp, hcr]; rfl
  have HC := Lib.hid (fun w => Tryd.strings_Contains_one ⟨ones.toArray⟩ c w)
  rw [show ((⟨ones.toArray⟩ : ByteArray).data.toList) = ones from by simp, ← Lib.contains_iff_indexByte] at HC
  generalize s.data.toList.take 2 = t at he ⊢
  by_cases hm : t ∈ twos
  · rw [if_pos hm]
    have HX := Lib.hid (bs_list _ _ he)
    clear he hsz hS ht hM hcr
    simp only [twos, List.mem_cons, List.not_mem_nil, or_false] at hm
    rcases hm with rfl | rfl | rfl
    all_goals
      have hx := HX.out
      go_enter Tryd.func45, Tryd.ntmps45
      go_wp2
      go_ret
      first | exact ⟨rfl, rfl⟩ | exact ⟨by simp, rfl⟩
  · rw [if_neg hm]
    have hn : ∀ u ∈ twos, ((s.extract 0 M).toList == u) = false := fun u hu => ne_lit _ _ (fun e => hm (by rw [← he, e]; exact hu))
    have n1 := hn [60, 61] (by decide)
    have n2 := hn [62, 61] (by decide)
    have n3 := hn [60, 62] (by decide)
    have h01 : (1 : Int) ≤ (s.size : Int) := by omega
    clear he hsz hS ht hM hn hcr hm
    unfold ones at HC
    by_cases hc : c ∈ ones
    · have hk : ones.contains c = true := by simpa using hc
      have HK := Lib.hid hk
      rw [if_pos hc]
      clear hc hk
      go_enter Tryd.func45, Tryd.ntmps45
      go_wp2_with fail
      refine (HC.out _).mono ?_
      rintro e w1 ⟨rfl, rfl⟩
      have hk2 := HK.out
      unfold ones at hk2
      rw [hk2]
      clear hk2
      go_wp2
      go_ret
      first | exact ⟨rfl, rfl⟩ | exact ⟨by simp, rfl⟩
    · have hk : ones.contains c = false := by simpa using hc
      have HK := Lib.hid hk
      rw [if_neg hc]
      clear hc hk
      go_enter Tryd.func45, Tryd.ntmps45
      go_wp2_with fail
      refine (HC.out _).mono ?_
      rintro e w1 ⟨rfl, rfl⟩
      have hk2 := HK.out
      unfold ones at hk2
      rw [hk2]
      clear hk2
      go_wp2
      go_ret
      first | exact ⟨rfl, rfl⟩ | exact ⟨by simp, rfl⟩
set_option maxRecDepth 100000 in
set_option maxHeartbeats 1000000 in
theorem tokenLength_any (s : ByteArray) (h0 : 0 < s.size) (hs : s.size ≤ 1000) (w : World) : Calls Tryd.prog 27 #[.string s] w fun e w' => e = .returned (.int .i64 (tokLen s.data.toList : Int)) ∧ w' = w := by
  have hsz : s.data.toList.length = s.size := rfl
  obtain ⟨c, r, hcr⟩ : ∃ c r, s.data.toList = c :: r := by
    cases hq : s.data.toList with
    | nil => rw [hq] at hsz; simp at hsz; omega
    | cons c r => exact ⟨c, r, rfl⟩
  have h00 : (s[0]'h0) = c := by
    have : s.data.toList[0]? = some (s[0]'h0) := by rw [List.getElem?_eq_getElem (by rw [hsz]; exact h0)]; rfl
    rw [hcr] at this; simpa using this.symm
  have hT : tokLen s.data.toList = if isD c then numLen s.data.toList else if isL c then wordLen s.data.toList else signLen s.data.toList := by rw [hcr]; rfl
  have HT := Lib.hid hT
  have H1 := Lib.hid (numberLength_any s hs)
  have H2 := Lib.hid (wordLength_any s hs)
  have H3 := Lib.hid (signLength_any s h0 hs)
  clear hcr hT hsz
  cases hd : isD c with
  | true =>
    have HD := Lib.hid hd
    have e1 : tokLen s.data.toList = numLen s.data.toList := by rw [HT.out, hd]; rfl
    rw [e1]
    clear hd e1
    go_enter Tryd.func27, Tryd.ntmps27
    go_wp2_with fail
    refine (isDigit_any c _).mono ?_
    rintro e w1 ⟨rfl, rfl⟩
    rw [HD.out]
    go_wp2_with fail
    refine (H1.out _).mono ?_
    rintro e w1 ⟨rfl, rfl⟩
    go_wp2
    go_ret
    exact ⟨rfl, rfl⟩
  | false =>
    have HD := Lib.hid hd
    cases hl : isL c with
    | true =>
      have HL := Lib.hid hl
      have e1 : tokLen s.data.toList = wordLen s.data.toList := by rw [HT.out, hd, hl]; rfl
      rw [e1]
      clear hd hl e1
      go_enter Tryd.func27, Tryd.ntmps27
      go_wp2_with fail
      refine (isDigit_any c _).mono ?_
      rintro e w1 ⟨rfl, rfl⟩
      rw [HD.out]
      go_wp2_with fail
      refine (isLetter_any c _).mono ?_
      rintro e w1 ⟨rfl, rfl⟩
      rw [HL.out]
      go_wp2_with fail
      refine (H2.out _).mono ?_
      rintro e w1 ⟨rfl, rfl⟩
      go_wp2
      go_ret
      exact ⟨rfl, rfl⟩
    | false =>
      have HL := Lib.hid hl
      have e1 : tokLen s.data.toList = signLen s.data.toList := by rw [HT.out, hd, hl]; rfl
      rw [e1]
      clear hd hl e1
      go_enter Tryd.func27, Tryd.ntmps27
      go_wp2_with fail
      refine (isDigit_any c _).mono ?_
      rintro e w1 ⟨rfl, rfl⟩
      rw [HD.out]
      go_wp2_with fail
      refine (isLetter_any c _).mono ?_
      rintro e w1 ⟨rfl, rfl⟩
      rw [HL.out]
      go_wp2_with fail
      refine (H3.out _).mono ?_
      rintro e w1 ⟨rfl, rfl⟩
      go_wp2
      go_ret
      exact ⟨rfl, rfl⟩
end Go.Proofs.YtfocokjihbenmaaDoor.Fo
