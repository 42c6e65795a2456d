/-
  The contracts of run, isLetter, numberLength.
  The contracts of signLength and tokenLength.
  The contract of split.
  The contract of Eval.
  What the sanity check of the laws says, and the values of the texts of the law on logic.
  The law on logic (P8.2).
-/
import Derived.Test.YtfocokjihbenmaaGreatDoorFoGr
import Derived.Lib.Strings
import Derived.Lib.IndexAny
import Derived.Shelf.Strings.SlTrimAscii
import Derived.Laws.OwnMore
import Derived.Laws.AppendOwn
import Derived.Maps.AppendAt
import Derived.OwnWalk
import Derived.Test.YtfocokjihbenmaaGreatDoorFoAp
namespace Go.Proofs.YtfocokjihbenmaaGreatDoor.Fo
open Go.RowKit Go.Proofs.YtfocokjihbenmaaGreatDoor.Nu
set_option linter.unusedVariables false
set_option linter.unusedSimpArgs false

theorem isLetter_any (c : UInt8) (w : World) : Calls Tryz.prog 50 #[.int .u8 c.toNat] w fun e w' => e = .returned (.bool (isL c)) ∧ w' = w := by
  have h1 := UInt8.toNat_lt c
  by_cases ha : 97 ≤ c.toNat
  · by_cases hb : c.toNat ≤ 122
    · have e : isL c = true := by unfold isL; rw [decide_eq_true_iff]; omega
      have HE := Lib.hid e; clear e
      have d1 : decide ((97 : Int) ≤ (c.toNat : Int)) = true := by rw [decide_eq_true_iff]; omega
      have d2 : decide ((c.toNat : Int) ≤ (122 : Int)) = true := by rw [decide_eq_true_iff]; omega
      go_enter Tryz.func50, Tryz.ntmps50
      go_wp2
      go_ret
      rw [HE.out]; simp
    · have e : isL c = false := by unfold isL; rw [decide_eq_false_iff_not]; omega
      have HE := Lib.hid e; clear e
      have d1 : decide ((97 : Int) ≤ (c.toNat : Int)) = true := by rw [decide_eq_true_iff]; omega
      have d2 : decide ((c.toNat : Int) ≤ (122 : Int)) = false := by rw [decide_eq_false_iff_not]; omega
      go_enter Tryz.func50, Tryz.ntmps50
      go_wp2
      go_ret
      rw [HE.out]; simp
  · have e : isL c = false := by unfold isL; rw [decide_eq_false_iff_not]; omega
    have HE := Lib.hid e; clear e
    have d1 : decide ((97 : Int) ≤ (c.toNat : Int)) = false := by rw [decide_eq_false_iff_not]; omega
    go_enter Tryz.func50, Tryz.ntmps50
    go_wp2
    go_ret
    rw [HE.out]; simp
theorem tw_stop {p : UInt8 → Bool} : ∀ {l : List UInt8} {k : Nat} {c : UInt8}, (l.take k).all p = true → l[k]? = some c → p c = false → (l.takeWhile p).length = k
  | [], k, c, _, h, _ => by simp at h
  | a :: l, 0, c, _, h, hp => by simp at h; subst h; simp [hp]
  | a :: l, k + 1, c, h1, h, hp => by
    simp at h1 h
    rw [List.takeWhile_cons, if_pos h1.1, List.length_cons, tw_stop (by simpa using h1.2) h hp]
theorem tw_all {p : UInt8 → Bool} : ∀ {l : List UInt8}, l.all p = true → (l.takeWhile p).length = l.length
  | [], _ => rfl
  | a :: l, h => by
    rw [List.all_cons] at h
    cases hp : p a
    · rw [hp] at h; simp at h
    · rw [hp] at h
      rw [List.takeWhile_cons, if_pos hp, List.length_cons, List.length_cons, tw_all (by simpa using h)]
theorem all_succ {p : UInt8 → Bool} {l : List UInt8} {k : Nat} {x : UInt8} (h : (l.take k).all p = true) (hx : l[k]? = some x) (hd : p x = true) : (l.take (k + 1)).all p = true := by
  rw [List.take_add_one, hx, List.all_append, h]
  simp [hd]
set_option maxRecDepth 100000 in
set_option maxHeartbeats 1000000 in
theorem run_any (f : FuncId) (eg : ∀ args w, (callFunc f args).run Tryz.prog w = .ok (.enter f args) w) (p : UInt8 → Bool) (hp : ∀ c W, Calls Tryz.prog f #[.int .u8 c.toNat] W fun e w' => e = .returned (.bool (p c)) ∧ w' = W) (s : ByteArray) (hs : s.size ≤ 1000) (w : World) :
    Calls Tryz.prog 88 #[.string s, .func (.func f) #[] #[]] w fun e w' => e = .returned (.int .i64 ((s.data.toList.takeWhile p).length : Int)) ∧ w' = w := by
  have HP := Lib.hid hp; clear hp
  have hsz : s.data.toList.length = s.size := rfl
  have HZ := Lib.hid hsz; clear hsz
  go_enter Tryz.func88, Tryz.ntmps88
  go_wp2_with fail
  go_loopw [5] (fun i wr => ∃ k : Nat, i = .int .i64 k ∧ k ≤ s.size ∧ Hid (wr = w) ∧ Hid ((s.data.toList.take k).all p = true)) (fun i _ => s.size - (intOf i).toNat)
  case atStart => exact ⟨0, rfl, Nat.zero_le _, Lib.hid rfl, Lib.hid (by simp)⟩
  case round =>
    obtain ⟨k, rfl, hk, hw, ha⟩ := hrel
    have hw' := hw.out
    subst hw'
    by_cases hlt : k < s.size
    · have hd : decide ((k : Int) < (s.size : Int)) = true := by rw [decide_eq_true_iff]; omega
      have hc : s.data.toList[k]? = some (s[k]) := by
        rw [List.getElem?_eq_getElem (by rw [HZ.out]; exact hlt)]; rfl
      have HC := Lib.hid hc; clear hc
      go_wp2_with fail
      refine (HP.out (s[k]) _).mono ?_
      rintro e w1 ⟨rfl, rfl⟩
      cases hq : p s[k] with
      | true =>
        have HQ := Lib.hid hq; clear hq
        go_wp2_with fail
        go_roundw
        case rel => exact ⟨k + 1, by simp, by omega, Lib.hid (by first | rfl | trivial), Lib.hid (all_succ ha.out HC.out HQ.out)⟩
        case measure => simp [intOf]; omega
      | false =>
        have HQ := Lib.hid (tw_stop ha.out HC.out hq); clear hq
        go_wp2_with fail
        go_ret
        exact ⟨by rw [HQ.out]; rfl, rfl⟩
    · have ek : k = s.size := by omega
      subst ek
      have hd : decide ((s.size : Int) < (s.size : Int)) = false := by simp
      have HQ := Lib.hid (tw_all (p := p) (l := s.data.toList) (by have := ha.out; rwa [List.take_of_length_le (by rw [HZ.out]; exact Nat.le_refl _)] at this))
      go_wp2_with fail
      go_ret
      exact ⟨by rw [HQ.out, HZ.out]; rfl, rfl⟩
set_option maxRecDepth 100000 in
theorem runD (s : ByteArray) (hs : s.size ≤ 1000) (w : World) : Calls Tryz.prog 88 #[.string s, .func (.func 48) #[] #[]] w fun e w' => e = .returned (.int .i64 ((s.data.toList.takeWhile isD).length : Int)) ∧ w' = w :=
  run_any 48 (fun _ _ => rfl) isD isDigit_any s hs w
set_option maxRecDepth 100000 in
theorem runL (s : ByteArray) (hs : s.size ≤ 1000) (w : World) : Calls Tryz.prog 88 #[.string s, .func (.func 50) #[] #[]] w fun e w' => e = .returned (.int .i64 ((s.data.toList.takeWhile isL).length : Int)) ∧ w' = w :=
  run_any 50 (fun _ _ => rfl) isL isLetter_any s hs w
theorem dot_iff (l : List UInt8) : Lib.hasPrefix l [46] = decide (l.head? = some 46) := by
  cases l with
  | nil => rfl
  | cons c l =>
    by_cases h : c = 46
    · subst h; rfl
    · have h1 : decide ((c :: l).head? = some 46) = false := by rw [decide_eq_false_iff_not]; simpa using h
      rw [h1]
      cases hp : Lib.hasPrefix (c :: l) [46] with
      | false => rfl
      | true =>
        exfalso; apply h
        have h2 : 46 = c := by simpa [Lib.hasPrefix] using hp
        exact h2.symm
set_option maxRecDepth 100000 in
set_option maxHeartbeats 1000000 in
theorem numberLength_any (s : ByteArray) (hs : s.size ≤ 1000) (w : World) : Calls Tryz.prog 49 #[.string s] w fun e w' => e = .returned (.int .i64 (numLen s.data.toList : Int)) ∧ w' = w := by
  have hsz : s.data.toList.length = s.size := rfl
  obtain ⟨W, hW⟩ : ∃ W, (s.data.toList.takeWhile isD).length = W := ⟨_, rfl⟩
  have hle : W ≤ s.size := by rw [← hW, ← hsz]; exact takeWhile_le _ _
  have HR := Lib.hid (runD s hs)
  rw [hW] at HR
  have he : (s.extract W s.size).data.toList = s.data.toList.drop W := Lib.extract_to_end s W
  have HP := Lib.hid (fun w => Tryz.strings_HasPrefix (s.extract W s.size) ⟨#[46]⟩ w)
  rw [show ((⟨#[46]⟩ : ByteArray).data.toList) = [46] from rfl, he, dot_iff] at HP
  by_cases hd : (s.data.toList.drop W).head? = some 46
  · have hlt : W < s.size := by
      rcases Nat.lt_or_ge W s.size with h | h
      · exact h
      · rw [List.drop_eq_nil_of_le (by omega)] at hd; simp at hd
    have he1 : (s.extract (W + 1) s.size).data.toList = s.data.toList.drop (W + 1) := Lib.extract_to_end s (W + 1)
    have HR2 := Lib.hid (runD (s.extract (W + 1) s.size) (by simp; omega))
    rw [he1] at HR2
    obtain ⟨V, hV⟩ : ∃ V, ((s.data.toList.drop (W + 1)).takeWhile isD).length = V := ⟨_, rfl⟩
    have hle2 : V ≤ s.size := by
      have := takeWhile_le isD (s.data.toList.drop (W + 1))
      rw [List.length_drop] at this; omega
    rw [hV] at HR2
    have HN : Hid (numLen s.data.toList = if 9 < W ∨ 9 < V then 0 else if V = 0 then W else W + 1 + V) := Lib.hid (by unfold numLen; simp only [hW, if_pos hd, hV])
    rw [decide_eq_true hd] at HP
    clear hd he he1 hV hW hsz
    rw [HN.out]
    go_enter Tryz.func49, Tryz.ntmps49
    go_wp2_with fail
    refine (HR.out _).mono ?_
    rintro e w1 ⟨rfl, rfl⟩
    go_wp2_with fail
    refine (HP.out _).mono ?_
    rintro e w1 ⟨rfl, rfl⟩
    go_wp2_with fail
    refine (HR2.out _).mono ?_
    rintro e w1 ⟨rfl, rfl⟩
    by_cases h9 : 9 < W
    · have d1 : decide ((W : Int) > 9) = true := by rw [decide_eq_true_iff]; omega
      go_wp2
      go_ret
      first | exact ⟨rfl, rfl⟩ | exact ⟨by simp, rfl⟩
    · have d1 : decide ((W : Int) > 9) = false := by rw [decide_eq_false_iff_not]; omega
      by_cases h8 : 9 < V
      · have d2 : decide ((V : Int) > 9) = true := by rw [decide_eq_true_iff]; omega
        go_wp2
        go_ret
        first | exact ⟨rfl, rfl⟩ | exact ⟨by simp, rfl⟩
      · have d2 : decide ((V : Int) > 9) = false := by rw [decide_eq_false_iff_not]; omega
        by_cases h0 : V = 0
        · subst h0
          go_wp2
          go_ret
          first | exact ⟨rfl, rfl⟩ | exact ⟨by simp, rfl⟩
        · have d3 : ((V : Int) == 0) = false := by simpa using h0
          have HZ := Lib.hid h0
          go_wp2
          go_ret
          first | exact ⟨rfl, rfl⟩ | exact ⟨by simp, rfl⟩
  · have HN : Hid (numLen s.data.toList = if 9 < W then 0 else W) := Lib.hid (by unfold numLen; simp only [hW, if_neg hd]; by_cases h9 : 9 < W <;> simp [h9])
    rw [decide_eq_false hd] at HP
    clear hd he hW hsz
    rw [HN.out]
    go_enter Tryz.func49, Tryz.ntmps49
    go_wp2_with fail
    refine (HR.out _).mono ?_
    rintro e w1 ⟨rfl, rfl⟩
    go_wp2_with fail
    refine (HP.out _).mono ?_
    rintro e w1 ⟨rfl, rfl⟩
    by_cases h9 : 9 < W
    · have d1 : decide ((W : Int) > 9) = true := by rw [decide_eq_true_iff]; omega
      go_wp2
      go_ret
      first | exact ⟨rfl, rfl⟩ | exact ⟨by simp, rfl⟩
    · have d1 : decide ((W : Int) > 9) = false := by rw [decide_eq_false_iff_not]; omega
      go_wp2
      go_ret
      first | exact ⟨rfl, rfl⟩ | exact ⟨by simp, rfl⟩
theorem ne_lit (X : ByteArray) (u : List UInt8) (h : X.data.toList ≠ u) : (X.toList == u) = false := by
  rw [ByteArray.toList_eq]; exact beq_eq_false_iff_ne.2 h
theorem bs_list (X : ByteArray) (t : Tok) (h : X.data.toList = t) : X = ⟨t.toArray⟩ := by
  apply ByteArray.ext; apply Array.ext'; simp [h]
set_option maxRecDepth 100000 in
set_option maxHeartbeats 1000000 in
theorem wordLength_any (s : ByteArray) (hs : s.size ≤ 1000) (w : World) : Calls Tryz.prog 51 #[.string s] w fun e w' => e = .returned (.int .i64 (wordLen s.data.toList : Int)) ∧ w' = w := by
  have hsz : s.data.toList.length = s.size := rfl
  have hW : wordLen s.data.toList = if s.data.toList.take (s.data.toList.takeWhile isL).length ∈ wordsL then (s.data.toList.takeWhile isL).length else 0 := rfl
  rw [hW]
  have hle : (s.data.toList.takeWhile isL).length ≤ s.size := by rw [← hsz]; exact takeWhile_le _ _
  have HR := Lib.hid (runL s hs)
  generalize (s.data.toList.takeWhile isL).length = W at hle HR ⊢
  have he : (s.extract 0 W).data.toList = s.data.toList.take W := by simp
  generalize s.data.toList.take W = t at he ⊢
  by_cases hm : t ∈ wordsL
  · rw [if_pos hm]
    have HX := Lib.hid (bs_list _ _ he)
    clear he hsz hW
    simp only [wordsL, List.mem_cons, List.not_mem_nil, or_false] at hm
    rcases hm with rfl | rfl | rfl | rfl | rfl | rfl
    all_goals
      go_enter Tryz.func51, Tryz.ntmps51
      go_wp2_with fail
      refine (HR.out _).mono ?_
      rintro e w1 ⟨rfl, rfl⟩
      have hx := HX.out
      go_wp2
      go_ret
      first | exact ⟨rfl, rfl⟩ | exact ⟨by simp, rfl⟩
  · rw [if_neg hm]
    have hn : ∀ u ∈ wordsL, ((s.extract 0 W).toList == u) = false := fun u hu => ne_lit _ _ (fun e => hm (by rw [← he, e]; exact hu))
    have n1 := hn [109, 111, 100] (by decide)
    have n2 := hn [97, 110, 100] (by decide)
    have n3 := hn [111, 114] (by decide)
    have n4 := hn [110, 111, 116] (by decide)
    have n5 := hn [114, 111, 117, 110, 100] (by decide)
    have n6 := hn [102, 108, 111, 111, 114] (by decide)
    clear he hsz hW hm hn
    go_enter Tryz.func51, Tryz.ntmps51
    go_wp2_with fail
    refine (HR.out _).mono ?_
    rintro e w1 ⟨rfl, rfl⟩
    go_wp2
    go_ret
    exact ⟨rfl, rfl⟩
end Go.Proofs.YtfocokjihbenmaaGreatDoor.Fo

namespace Go.Proofs.YtfocokjihbenmaaGreatDoor.Fo
open Go.RowKit Go.Proofs.YtfocokjihbenmaaGreatDoor.Nu
set_option linter.unusedVariables false
set_option linter.unusedSimpArgs false

set_option maxRecDepth 100000 in
set_option maxHeartbeats 1000000 in
theorem signLength_any (s : ByteArray) (h0 : 0 < s.size) (hs : s.size ≤ 1000) (w : World) : Calls Tryz.prog 52 #[.string s] w fun e w' => e = .returned (.int .i64 (signLen s.data.toList : Int)) ∧ w' = w := by
  have hsz : s.data.toList.length = s.size := rfl
  obtain ⟨M, hM⟩ : ∃ M : Nat, min 2 s.size = M := ⟨_, rfl⟩
  have hM1 : min (2 : Int) (s.size : Int) = (M : Int) := by omega
  have hM2 : M ≤ s.size := by omega
  have ht : s.data.toList.take M = s.data.toList.take 2 := by
    rcases Nat.lt_or_ge s.size 2 with h | h
    · rw [List.take_of_length_le (by omega), List.take_of_length_le (by omega)]
    · rw [show M = 2 by omega]
  have he : (s.extract 0 M).data.toList = s.data.toList.take M := by simp
  rw [ht] at he
  have hh : ∃ c r, s.data.toList = c :: r := by
    cases hq : s.data.toList with
    | nil => rw [hq] at hsz; simp at hsz; omega
    | cons c r => exact ⟨c, r, rfl⟩
  obtain ⟨c, r, hcr⟩ := hh
  have hS : signLen s.data.toList = if s.data.toList.take 2 ∈ twos then 2 else (if c ∈ ones then 1 else 0) := by rw [hcr]; rfl
  rw [hS]
  have h1 : s.extract 0 1 = ⟨#[c]⟩ := by
    apply ByteArray.ext; apply Array.ext'
    rw [show (s.extract 0 1).data.toList = s.data.toList.take 1 by simp, hcr]; rfl
  have HC := Lib.hid (fun w => Tryz.strings_Contains_one ⟨ones.toArray⟩ c w)
  rw [show ((⟨ones.toArray⟩ : ByteArray).data.toList) = ones from by simp, ← Lib.contains_iff_indexByte] at HC
  generalize s.data.toList.take 2 = t at he ⊢
  by_cases hm : t ∈ twos
  · rw [if_pos hm]
    have HX := Lib.hid (bs_list _ _ he)
    clear he hsz hS ht hM hcr
    simp only [twos, List.mem_cons, List.not_mem_nil, or_false] at hm
    rcases hm with rfl | rfl | rfl
    all_goals
      have hx := HX.out
      go_enter Tryz.func52, Tryz.ntmps52
      go_wp2
      go_ret
      first | exact ⟨rfl, rfl⟩ | exact ⟨by simp, rfl⟩
  · rw [if_neg hm]
    have hn : ∀ u ∈ twos, ((s.extract 0 M).toList == u) = false := fun u hu => ne_lit _ _ (fun e => hm (by rw [← he, e]; exact hu))
    have n1 := hn [60, 61] (by decide)
    have n2 := hn [62, 61] (by decide)
    have n3 := hn [60, 62] (by decide)
    have h01 : (1 : Int) ≤ (s.size : Int) := by omega
    clear he hsz hS ht hM hn hcr hm
    unfold ones at HC
    by_cases hc : c ∈ ones
    · have hk : ones.contains c = true := by simpa using hc
      have HK := Lib.hid hk
      rw [if_pos hc]
      clear hc hk
      go_enter Tryz.func52, Tryz.ntmps52
      go_wp2_with fail
      refine (HC.out _).mono ?_
      rintro e w1 ⟨rfl, rfl⟩
      have hk2 := HK.out
      unfold ones at hk2
      rw [hk2]
      clear hk2
      go_wp2
      go_ret
      first | exact ⟨rfl, rfl⟩ | exact ⟨by simp, rfl⟩
    · have hk : ones.contains c = false := by simpa using hc
      have HK := Lib.hid hk
      rw [if_neg hc]
      clear hc hk
      go_enter Tryz.func52, Tryz.ntmps52
      go_wp2_with fail
      refine (HC.out _).mono ?_
      rintro e w1 ⟨rfl, rfl⟩
      have hk2 := HK.out
      unfold ones at hk2
      rw [hk2]
      clear hk2
      go_wp2
      go_ret
      first | exact ⟨rfl, rfl⟩ | exact ⟨by simp, rfl⟩
set_option maxRecDepth 100000 in
set_option maxHeartbeats 1000000 in
theorem tokenLength_any (s : ByteArray) (h0 : 0 < s.size) (hs : s.size ≤ 1000) (w : World) : Calls Tryz.prog 32 #[.string s] w fun e w' => e = .returned (.int .i64 (tokLen s.data.toList : Int)) ∧ w' = w := by
  have hsz : s.data.toList.length = s.size := rfl
  obtain ⟨c, r, hcr⟩ : ∃ c r, s.data.toList = c :: r := by
    cases hq : s.data.toList with
    | nil => rw [hq] at hsz; simp at hsz; omega
    | cons c r => exact ⟨c, r, rfl⟩
  have h00 : (s[0]'h0) = c := by
    have : s.data.toList[0]? = some (s[0]'h0) := by rw [List.getElem?_eq_getElem (by rw [hsz]; exact h0)]; rfl
    rw [hcr] at this; simpa using this.symm
  have hT : tokLen s.data.toList = if isD c then numLen s.data.toList else if isL c then wordLen s.data.toList else signLen s.data.toList := by rw [hcr]; rfl
  have HT := Lib.hid hT
  have H1 := Lib.hid (numberLength_any s hs)
  have H2 := Lib.hid (wordLength_any s hs)
  have H3 := Lib.hid (signLength_any s h0 hs)
  clear hcr hT hsz
  cases hd : isD c with
  | true =>
    have HD := Lib.hid hd
    have e1 : tokLen s.data.toList = numLen s.data.toList := by rw [HT.out, hd]; rfl
    rw [e1]
    clear hd e1
    go_enter Tryz.func32, Tryz.ntmps32
    go_wp2_with fail
    refine (isDigit_any c _).mono ?_
    rintro e w1 ⟨rfl, rfl⟩
    rw [HD.out]
    go_wp2_with fail
    refine (H1.out _).mono ?_
    rintro e w1 ⟨rfl, rfl⟩
    go_wp2
    go_ret
    exact ⟨rfl, rfl⟩
  | false =>
    have HD := Lib.hid hd
    cases hl : isL c with
    | true =>
      have HL := Lib.hid hl
      have e1 : tokLen s.data.toList = wordLen s.data.toList := by rw [HT.out, hd, hl]; rfl
      rw [e1]
      clear hd hl e1
      go_enter Tryz.func32, Tryz.ntmps32
      go_wp2_with fail
      refine (isDigit_any c _).mono ?_
      rintro e w1 ⟨rfl, rfl⟩
      rw [HD.out]
      go_wp2_with fail
      refine (isLetter_any c _).mono ?_
      rintro e w1 ⟨rfl, rfl⟩
      rw [HL.out]
      go_wp2_with fail
      refine (H2.out _).mono ?_
      rintro e w1 ⟨rfl, rfl⟩
      go_wp2
      go_ret
      exact ⟨rfl, rfl⟩
    | false =>
      have HL := Lib.hid hl
      have e1 : tokLen s.data.toList = signLen s.data.toList := by rw [HT.out, hd, hl]; rfl
      rw [e1]
      clear hd hl e1
      go_enter Tryz.func32, Tryz.ntmps32
      go_wp2_with fail
      refine (isDigit_any c _).mono ?_
      rintro e w1 ⟨rfl, rfl⟩
      rw [HD.out]
      go_wp2_with fail
      refine (isLetter_any c _).mono ?_
      rintro e w1 ⟨rfl, rfl⟩
      rw [HL.out]
      go_wp2_with fail
      refine (H3.out _).mono ?_
      rintro e w1 ⟨rfl, rfl⟩
      go_wp2
      go_ret
      exact ⟨rfl, rfl⟩
end Go.Proofs.YtfocokjihbenmaaGreatDoor.Fo

namespace Go.Proofs.YtfocokjihbenmaaGreatDoor.Fo
open Go.RowKit Go.Shelf Go.Proofs.YtfocokjihbenmaaGreatDoor.Nu
set_option linter.unusedVariables false
set_option linter.unusedSimpArgs false

theorem trim_any (s : ByteArray) (w : World) : Calls Tryz.prog 31 #[.string s, .string ⟨#[9, 10, 32]⟩] w fun e w' => e = .returned (.string ⟨(trimB s.data.toList).toArray⟩) ∧ Below w.heap.size w w' := by
  have h := Any.strings_TrimLeft_laid Tryz.lays161 (by kernel_rfl) s ⟨#[9, 10, 32]⟩ w (by decide) (ascii_of_all (by decide))
  exact h
theorem infoString : (Tryz.prog.info? 9).map (fun i => (i.zero, i.size, i.bytes)) = some (some (.string ⟨#[]⟩), 1, 16) := by kernel_rfl
theorem info_parts {x : Option TypeInfo} {z : Option Value} {s b : Nat} (h : x.map (fun i => (i.zero, i.size, i.bytes)) = some (z, s, b)) : ∃ i, x = some i ∧ i.zero = z ∧ i.size = s ∧ i.bytes = b := by
  cases x with
  | none => cases h
  | some i => simp at h; exact ⟨i, rfl, h.1, h.2.1, h.2.2⟩
def strs (l : List Tok) : List Value := l.map sv
theorem one_new (w : World) (u : Value) (t : TypeId) : ∀ j x, [u][j]? = some x → (w.alloc (.cells #[u] t)).cell? ((⟨w.heap.size, 0, none⟩ : Addr).add j) = some x := fun j x hj => by
  cases j with
  | zero =>
    simp at hj; subst hj
    simp [Addr.add]
  | succ j => simp at hj
theorem own_form {w : World} {base : Nat} {t : TypeId} {size : Nat} {v : Value} {n : Nat} {xs : List Value} (h : w.ownsRow base t size v n xs) : ∃ A c, v = .slice A n c := by
  rcases h.2 with ⟨rfl, rfl⟩ | ⟨g, cap, cur, rfl, _⟩
  · exact ⟨_, _, rfl⟩
  · exact ⟨_, _, rfl⟩
/-- The tokens of a row that the call owns, as the parser reads them. -/
theorem own_TS {w : World} {base : Nat} {t : TypeId} {v : Value} {l : List Tok} (h : w.ownsRow base t 1 v l.length (strs l)) (hb : 0 < w.heap.size) : ∃ bt, bt < w.heap.size ∧ TS bt w v l := by
  obtain ⟨h1, h2⟩ := h
  rcases h2 with ⟨rfl, h0⟩ | ⟨g, cap, cur, rfl, h3, h4, h5, h6, h7, h8⟩
  · exact ⟨0, hb, none, 0, by rw [h0], by omega, by omega, fun h => absurd h (by omega)⟩
  · refine ⟨g, (Array.getElem?_eq_some_iff.1 h4).1, some ⟨g, 0, none⟩, cap, rfl, h5, by simpa [maxLen] using h6, fun _ => ⟨0, rfl, fun j u hj => ?_⟩⟩
    unfold World.cell?
    rw [show (⟨g, 0 + j, none⟩ : Addr).block = g from rfl, h4]
    have hlt := (List.getElem?_eq_some_iff.1 hj).1
    have : (cur.toList.take (l.length * 1))[j]? = (strs l)[j]? := by rw [h8]
    rw [List.getElem?_take, if_pos (by omega)] at this
    simp only [strs, List.getElem?_map, hj, Option.map_some] at this
    simpa using this
theorem own_below {w w' : World} {base : Nat} {e : TypeId} {size : Nat} {v : Value} {n : Nat} {xs : List Value} (h : w.ownsRow base e size v n xs) (hb : Below w.heap.size w w') : w'.ownsRow base e size v n xs := by
  obtain ⟨h1, h2⟩ := h
  refine ⟨h1, ?_⟩
  rcases h2 with h | ⟨g, cap, cur, hv, h3, h4, h5⟩
  · exact .inl h
  · exact .inr ⟨g, cap, cur, hv, h3, (hb.block g (Array.getElem?_eq_some_iff.1 h4).1).trans h4, h5⟩
/-- What split leaves. -/
def Sp (w : World) (s : List UInt8) (e : Ending) (w' : World) : Prop := Below w.heap.size w w' ∧ match splitL s with
  | none => e = .returned (.tuple #[.slice none 0 0, .bool false])
  | some l => ∃ v, e = .returned (.tuple #[v, .bool true]) ∧ w'.ownsRow w.heap.size 9 1 v l.length (strs l)
set_option maxRecDepth 100000 in
set_option maxHeartbeats 4000000 in
theorem split_any (s : ByteArray) (hs : s.size ≤ 400) (w : World) : Calls Tryz.prog 19 #[.string s] w (Sp w s.data.toList) := by
  obtain ⟨i0, hi, hz0, hz1, hz2⟩ := info_parts infoString
  have hbk : ∀ n : Nat, n ≤ 4294967282 → n * 16 ≤ 140737488355328 := fun n h => by omega
  have HBK := Lib.hid hbk; clear hbk
  have hsz : s.data.toList.length = s.size := rfl
  have h1 := trimB_le s.data.toList
  have HT := Lib.hid (trim_any s)
  have HL : Hid (splitL s.data.toList = toks (trimB s.data.toList)) := Lib.hid rfl
  generalize trimB s.data.toList = L0 at h1 HT HL
  have HS : Hid (L0.length ≤ 400) := Lib.hid (by omega)
  clear h1 hsz
  go_enter Tryz.func19, Tryz.ntmps19
  go_wp2_with fail
  refine (HT.out _).mono ?_
  rintro e w1 ⟨rfl, hb⟩
  have HB := Lib.hid hb
  clear hb
  go_wp2_with fail
  go_loopw [0, 4] (fun x v wr => ∃ (X : ByteArray) (acc : List Tok), x = .string X ∧ Hid (acc.length + X.data.toList.length ≤ L0.length) ∧ Hid (wr.ownsRow w.heap.size 9 1 v acc.length (strs acc)) ∧ Hid (Below w.heap.size w wr) ∧ Hid (splitL s.data.toList = (toks X.data.toList).map (acc ++ ·)))
    (fun x _ _ => match x with | .string X => X.data.toList.length | _ => 0)
  case atStart => exact ⟨⟨L0.toArray⟩, [], rfl, Lib.hid (by simp), Lib.hid (World.ownsRow_nil _ _ _ _), HB, Lib.hid (by rw [HL.out]; simp)⟩
  case round =>
    obtain ⟨X, acc, rfl, hle, hown, hbel, heq⟩ := hrel
    have hXs : X.data.toList.length = X.size := rfl
    have hX4 : acc.length + X.size ≤ 400 := by have := hle.out; have := HS.out; omega
    obtain ⟨VA, VC, hv⟩ := own_form hown.out
    subst hv
    by_cases h0 : X.size = 0
    · have e0 : X = ⟨#[]⟩ := bs_list X [] (List.length_eq_zero_iff.1 (by omega))
      subst e0
      have HF : Hid (splitL s.data.toList = some acc) := Lib.hid (by rw [heq.out]; simp [toks_nil])
      go_wp2_with fail
      go_ret2
      unfold Sp
      rw [HF.out]
      exact ⟨hbel.out, _, rfl, hown.out⟩
    · have hne : X.data.toList ≠ [] := fun e => h0 (by rw [← hXs, e]; rfl)
      have q1 : X.toList.isEmpty = false := by
        rw [ByteArray.toList_eq]
        cases hq : X.data.toList with
        | nil => exact absurd hq hne
        | cons c r => rfl
      have q2 : (X.toList == []) = false := ne_lit _ _ hne
      have HK := Lib.hid (tokenLength_any X (by omega) (by omega))
      have hnl := (tokLen_le X.data.toList).1
      have HNE := Lib.hid hne
      by_cases hn0 : tokLen X.data.toList = 0
      · rw [hn0] at HK
        have HF : Hid (splitL s.data.toList = none) := Lib.hid (by rw [heq.out, toks_none hne hn0]; rfl)
        clear hne hnl hn0 heq
        go_wp2_with fail
        refine (HK.out _).mono ?_
        rintro e w2 ⟨rfl, rfl⟩
        go_wp2_with fail
        go_ret2
        unfold Sp
        rw [HF.out]
        exact ⟨hbel.out, rfl⟩
      · have HF : Hid (splitL s.data.toList = (toks (trimB (X.data.toList.drop (tokLen X.data.toList)))).map ((acc ++ [X.data.toList.take (tokLen X.data.toList)]) ++ ·)) := Lib.hid (by
          rw [heq.out, toks_cons hne hn0]
          simp [Option.map_map, Function.comp_def])
        have hle2 : Hid ((acc ++ [X.data.toList.take (tokLen X.data.toList)]).length + (trimB (X.data.toList.drop (tokLen X.data.toList))).length ≤ L0.length) := Lib.hid (by
          have h1 := trimB_le (X.data.toList.drop (tokLen X.data.toList))
          have h2 := hle.out
          rw [List.length_drop] at h1
          simp only [List.length_append, List.length_cons, List.length_nil]
          omega)
        have e1 : (X.extract 0 (tokLen X.data.toList)).data.toList = X.data.toList.take (tokLen X.data.toList) := by simp
        have e2 : (X.extract (tokLen X.data.toList) X.size).data.toList = X.data.toList.drop (tokLen X.data.toList) := Lib.extract_to_end X _
        have HX1 : Hid (X.extract 0 (tokLen X.data.toList) = bs (X.data.toList.take (tokLen X.data.toList))) := Lib.hid (bs_list _ _ e1)
        have HT2 := Lib.hid (trim_any (X.extract (tokLen X.data.toList) X.size))
        rw [e2] at HT2
        have hm : Hid ((trimB (X.data.toList.drop (tokLen X.data.toList))).length < X.data.toList.length) := Lib.hid (by
          have h1 := trimB_le (X.data.toList.drop (tokLen X.data.toList))
          rw [List.length_drop] at h1; omega)
        generalize trimB (X.data.toList.drop (tokLen X.data.toList)) = R at HF hle2 HT2 hm
        generalize X.data.toList.take (tokLen X.data.toList) = tk at HF hle2 HX1
        generalize tokLen X.data.toList = n at HK hnl hn0 HX1 HT2
        have hn1 : n ≤ X.size := by omega
        have hn2 : ((n : Int) == 0) = false := by simpa using hn0
        clear hne hnl heq e1 e2
        go_wp2_with fail
        refine (HK.out _).mono ?_
        rintro e w2 ⟨rfl, rfl⟩
        have hbs := hbel.out.size
        go_wp2_with (at_builtin; refine wpList_append_own _ rfl _ _ 35 rfl w.heap.size 9 i0 (.string ⟨#[]⟩) 1 16 Tryz.underlying35 hi hz0 hz1 hz2 rfl (by decide) _ _ _ rfl (hown.out.alloc _) ⟨w2.heap.size, 0, none⟩ 1 1 [.string (X.extract 0 n)] rfl rfl (one_new _ _ _) (by simp [Value.oneCell']) (by unfold maxLen; omega) (HBK.out _ (by omega)) (by simp; omega) ?_)
        intro v' w3 hown' hgrow _
        have hb3 : Below w.heap.size w w3 := (hbel.out.alloc (by omega) _).grown hgrow (by simp; omega) (fun k e => (hown.out.lt k e).1)
        have HO : Hid (w3.ownsRow w.heap.size 9 1 v' (acc ++ [tk]).length (strs (acc ++ [tk]))) := Lib.hid (by
          have h := hown'
          rw [HX1.out] at h
          simpa [strs, sv, bs] using h)
        have HB3 := Lib.hid hb3
        obtain ⟨VA2, VC2, hv2⟩ := own_form hown'
        subst hv2
        clear hown' hgrow hb3
        go_wp2_with fail
        refine (HT2.out _).mono ?_
        rintro e w4 ⟨rfl, hb4⟩
        have HO4 := Lib.hid (own_below HO.out hb4)
        have HB4 := Lib.hid (HB3.out.trans (hb4.mono HB3.out.size))
        clear hb4
        go_wp2_with fail
        go_roundw
        case rel => exact ⟨⟨R.toArray⟩, acc ++ [tk], rfl, Lib.hid (by have := hle2.out; simpa using this), HO4, HB4, Lib.hid (by rw [HF.out])⟩
        case measure =>
          have := hm.out
          simpa using this
end Go.Proofs.YtfocokjihbenmaaGreatDoor.Fo

namespace Go.Proofs.YtfocokjihbenmaaGreatDoor.Fo
open Go.RowKit Go.Proofs.YtfocokjihbenmaaGreatDoor.Nu
set_option linter.unusedVariables false
set_option linter.unusedSimpArgs false

theorem split_all {s : List UInt8} {l : List Tok} (h : splitL s = some l) : l.length ≤ s.length ∧ ∀ x ∈ l, 0 < x.length ∧ x.length ≤ 19 := by
  have h1 := toks_all (trimB s).length (trimB s) (Nat.le_refl _) l h
  have h2 := trimB_le s
  exact ⟨by omega, h1.2⟩
theorem top_wf {l : List Tok} (h : ∀ x ∈ l, 0 < x.length ∧ x.length ≤ 19) (hb : (top l).b = false) : (top l).t.wf :=
  (G_wf (fuel l) 0 .bad l false (by decide) (fun t ht => (h t ht).2) (fun h => absurd h (by decide))).2 hb
theorem topB_iff (l : List Tok) : topB l = decide ((top l).b = false ∧ (top l).r = []) := by
  unfold topB
  cases (top l).b <;> cases (top l).r <;> simp
theorem top_lv (l : List Tok) : (top l).t.lv ≤ l.length := by
  have h1 := G_sz (fuel l) 0 .bad l false
  have h2 := T.lv_sz (top l).t
  unfold top at *
  simp only [T.sz] at h1
  omega
theorem eval_fin {w W : World} (h : Below w.heap.size w W) (u v : Value) : Below w.heap.size w ((W.setCell ⟨w.heap.size, 0, none⟩ u).setCell ⟨w.heap.size, 1, none⟩ v) := (h.setCell (Nat.le_refl _) _).setCell (Nat.le_refl _) _
set_option maxRecDepth 100000 in
set_option maxHeartbeats 4000000 in
theorem Eval_any (s : ByteArray) (w : World) (ht : Tb w) : Calls Tryz.prog 7 #[.string s] w fun e w' => e = .returned (res (ev s.data.toList)) ∧ Below w.heap.size w w' := by
  have hsz : s.data.toList.length = s.size := rfl
  by_cases h4 : 400 < s.size
  · have e1 : ev s.data.toList = ⟨0, 0, 3⟩ := by unfold ev; rw [if_pos (by omega)]
    rw [e1]
    have hd : decide ((s.size : Int) > 400) = true := by rw [decide_eq_true_iff]; omega
    clear e1 hsz
    go_enter Tryz.func7, Tryz.ntmps7
    go_wp2
    exact bodyPost_ret (v := res ⟨0, 0, 3⟩) (by simp [results, Tryz.results7, go_sem, res]) rfl ⟨rfl, (Below.refl _ w).alloc (Nat.le_refl _) _⟩
  · have hd : decide ((s.size : Int) > 400) = false := by rw [decide_eq_false_iff_not]; omega
    have HS := Lib.hid (fun w => split_any s (by omega) w)
    cases hq : splitL s.data.toList with
    | none =>
      have e1 : ev s.data.toList = ⟨0, 0, 1⟩ := by unfold ev; rw [if_neg (by omega), hq]
      rw [e1]
      have HQ := Lib.hid hq
      clear e1 hsz hq
      go_enter Tryz.func7, Tryz.ntmps7
      go_wp2_with fail
      refine (HS.out _).mono ?_
      rintro e w1 ⟨hb, hp⟩
      rw [HQ.out] at hp
      obtain rfl := hp
      obtain ⟨hc, hf⟩ := bcell hb
      have hz1 : w.heap.size < w1.heap.size := by have := hb.size; simp at this; omega
      have HB := Lib.hid (below1 hb)
      go_wp2
      exact bodyPost_ret (v := res ⟨0, 0, 1⟩) (by simp [results, Tryz.results7, go_sem, hc, res]) rfl ⟨rfl, eval_fin HB.out _ _⟩
    | some l =>
      obtain ⟨hl1, hl2⟩ := split_all hq
      have e1 : ev s.data.toList = evT l := by unfold ev; rw [if_neg (by omega), hq]
      rw [e1]
      have HQ := Lib.hid hq
      have HP : Hid (∀ (W : World) (v : Value), W.ownsRow (w.heap.size + 1) 9 1 v l.length (strs l) → 0 < W.heap.size → Calls Tryz.prog 20 #[v] W fun e w' => ∃ x, e = .returned (.tuple #[x, .bool (topB l)]) ∧ Nd (W.heap.size ≤ ·) w' (top l).t x ∧ Below W.heap.size W w') := Lib.hid fun W v hW hlt => by
        obtain ⟨bt, hbt, hts⟩ := own_TS hW hlt
        exact parse_tok W bt v l hts hbt hl2 (by omega)
      cases hB : topB l with
      | false =>
        have e2 : evT l = ⟨0, 0, 1⟩ := by unfold evT; rw [topB_iff] at hB; rw [if_neg (by simpa using hB)]
        rw [e2]
        clear e1 e2 hsz hq hl1 hl2
        go_enter Tryz.func7, Tryz.ntmps7
        go_wp2_with fail
        refine (HS.out _).mono ?_
        rintro e w1 ⟨hb, hp⟩
        rw [HQ.out] at hp
        obtain ⟨v, rfl, hown⟩ := hp
        obtain ⟨VA, VC, hv⟩ := own_form hown
        subst hv
        have hz1 := hb.size
        simp only [World.size_alloc] at hz1 hown
        rw [hB] at HP
        have HOW := Lib.hid hown
        have hr1 : w1.heap[w.heap.size]? = some (nb 0 0) := (hb.block _ (by simp)).trans (nh _ _)
        have HB1 := Lib.hid (below1 hb)
        have HR1 := Lib.hid hr1
        clear hown hb hr1
        go_wp2_with fail
        refine (HP.out _ _ HOW.out (by omega)).mono ?_
        rintro e w2 ⟨x, rfl, hx, hb2⟩
        obtain ⟨o2, A2, k2, c2', rfl⟩ := hx.form
        have hr2 : w2.heap[w.heap.size]? = some (nb 0 0) := (hb2.block _ (by omega)).trans HR1.out
        have hz2 := hb2.size
        have hlt2 : w.heap.size < w2.heap.size := by omega
        obtain ⟨r0, r1, rf0, rf1⟩ := c2 hr2
        have HB2 := Lib.hid (HB1.out.trans (hb2.mono HB1.out.size))
        have HR2 := Lib.hid hr2
        have HX := Lib.hid hx
        clear hb2 hr2 hx
        go_wp2_with fail
        exact bodyPost_ret (v := res ⟨0, 0, 1⟩) (by simp [results, Tryz.results7, go_sem, hlt2, r0, r1, res]) rfl ⟨rfl, (eval_fin HB2.out _ _).alloc (by simp [World.setCell]; omega) _⟩
      | true =>
        have hB2 : (top l).b = false ∧ (top l).r = [] := by rw [topB_iff] at hB; simpa using hB
        have hlvv := top_lv l
        by_cases h20 : 20 < (top l).t.lv
        · have e2 : evT l = ⟨0, 0, 17⟩ := by unfold evT; rw [if_pos hB2, if_pos h20]
          rw [e2]
          have hd2 : decide (((top l).t.lv : Int) > 20) = true := by rw [decide_eq_true_iff]; omega
          clear e1 e2 hsz hq hl1 hl2 hB2
          go_enter Tryz.func7, Tryz.ntmps7
          go_wp2_with fail
          refine (HS.out _).mono ?_
          rintro e w1 ⟨hb, hp⟩
          rw [HQ.out] at hp
          obtain ⟨v, rfl, hown⟩ := hp
          obtain ⟨VA, VC, hv⟩ := own_form hown
          subst hv
          have hz1 := hb.size
          simp only [World.size_alloc] at hz1 hown
          rw [hB] at HP
          have HOW := Lib.hid hown
          have hr1 : w1.heap[w.heap.size]? = some (nb 0 0) := (hb.block _ (by simp)).trans (nh _ _)
          have HB1 := Lib.hid (below1 hb)
          have HR1 := Lib.hid hr1
          clear hown hb hr1
          go_wp2_with fail
          refine (HP.out _ _ HOW.out (by omega)).mono ?_
          rintro e w2 ⟨x, rfl, hx, hb2⟩
          obtain ⟨o2, A2, k2, c2', rfl⟩ := hx.form
          have hr2 : w2.heap[w.heap.size]? = some (nb 0 0) := (hb2.block _ (by omega)).trans HR1.out
          have hz2 := hb2.size
          have hlt2 : w.heap.size < w2.heap.size := by omega
          obtain ⟨r0, r1, rf0, rf1⟩ := c2 hr2
          have HB2 := Lib.hid (HB1.out.trans (hb2.mono HB1.out.size))
          have HR2 := Lib.hid hr2
          have HX := Lib.hid hx
          clear hb2 hr2 hx
          go_wp2_with fail
          exact bodyPost_ret (v := res ⟨0, 0, 17⟩) (by simp [results, Tryz.results7, go_sem, hlt2, r0, r1, res]) rfl ⟨rfl, (eval_fin HB2.out _ _).alloc (by simp [World.setCell]; omega) _⟩
        · have e2 : evT l = val (top l).t := by unfold evT; rw [if_pos hB2, if_neg h20]
          rw [e2]
          have hd2 : decide (((top l).t.lv : Int) > 20) = false := by rw [decide_eq_false_iff_not]; omega
          have hwf := top_wf hl2 hB2.1
          have HV : Hid (∀ (X : Nat → Prop) (W : World) (v : Value), Nd X W (top l).t v → Below w.heap.size w W → Calls Tryz.prog 21 #[v] W fun e w' => e = .returned (res (val (top l).t)) ∧ Below W.heap.size W w') := Lib.hid fun X W v hN hW => value_any (top l).t hwf X W v hN (ht.below hW)
          generalize val (top l).t = R at HV ⊢
          unfold res at HV
          clear e1 e2 hsz hq hl1 hl2 hB2 hwf
          go_enter Tryz.func7, Tryz.ntmps7
          go_wp2_with fail
          refine (HS.out _).mono ?_
          rintro e w1 ⟨hb, hp⟩
          rw [HQ.out] at hp
          obtain ⟨v, rfl, hown⟩ := hp
          obtain ⟨VA, VC, hv⟩ := own_form hown
          subst hv
          have hz1 := hb.size
          simp only [World.size_alloc] at hz1 hown
          rw [hB] at HP
          have HOW := Lib.hid hown
          have hr1 : w1.heap[w.heap.size]? = some (nb 0 0) := (hb.block _ (by simp)).trans (nh _ _)
          have HB1 := Lib.hid (below1 hb)
          have HR1 := Lib.hid hr1
          clear hown hb hr1
          go_wp2_with fail
          refine (HP.out _ _ HOW.out (by omega)).mono ?_
          rintro e w2 ⟨x, rfl, hx, hb2⟩
          obtain ⟨o2, A2, k2, c2', rfl⟩ := hx.form
          have hr2 : w2.heap[w.heap.size]? = some (nb 0 0) := (hb2.block _ (by omega)).trans HR1.out
          have hz2 := hb2.size
          have hlt2 : w.heap.size < w2.heap.size := by omega
          obtain ⟨r0, r1, rf0, rf1⟩ := c2 hr2
          have HB2 := Lib.hid (HB1.out.trans (hb2.mono HB1.out.size))
          have HR2 := Lib.hid hr2
          have HX := Lib.hid hx
          clear hb2 hr2 hx
          go_wp2_with fail
          refine (HV.out (w1.heap.size ≤ ·) _ _ (HX.out.below ((Below.refl _ w2).alloc (Nat.le_refl _) _)) (HB2.out.alloc HB2.out.size _)).mono ?_
          rintro e w3 ⟨rfl, hb3⟩
          have hz3 := hb3.size
          simp only [World.size_alloc] at hz3
          have hlt3 : w.heap.size < w3.heap.size := by omega
          have hr3 : w3.heap[w.heap.size]? = some (nb 0 0) := (hb3.block _ (by simp; omega)).trans ((Below.heap_alloc _ _ _ hlt2).trans HR2.out)
          obtain ⟨p0, p1, pf0, pf1⟩ := c2 hr3
          have HB3 := Lib.hid ((HB2.out.alloc HB2.out.size _).trans (hb3.mono (by simp; omega)))
          clear hb3 hr3
          go_wp2_with fail
          exact bodyPost_ret (v := res R) (by simp [results, Tryz.results7, go_sem, hlt3, p0, p1, res]) rfl ⟨rfl, eval_fin HB3.out _ _⟩
end Go.Proofs.YtfocokjihbenmaaGreatDoor.Fo

namespace Go.Proofs.YtfocokjihbenmaaGreatDoor.Fo
open Go.RowKit Go.Proofs.YtfocokjihbenmaaGreatDoor.Nu
set_option linter.unusedVariables false
set_option linter.unusedSimpArgs false

theorem ev_known : ev [50, 32, 43, 32, 51, 32, 42, 32, 52, 32, 61, 32, 49, 52] = ⟨1, 1, 0⟩ := by kernel_rfl
/-- The text of a small integer. -/
def dg (i : Int) : List UInt8 := if i < 0 then [40] ++ Lib.itoa i ++ [41] else Lib.itoa i
def e1 (x y : List UInt8) : List UInt8 := [110, 111, 116, 32, 40] ++ x ++ [32, 97, 110, 100, 32] ++ y ++ [41, 32, 61, 32, 40, 110, 111, 116, 32] ++ x ++ [32, 111, 114, 32, 110, 111, 116, 32] ++ y ++ [41]
def e2 (x y : List UInt8) : List UInt8 := [40] ++ x ++ [32, 60, 32] ++ y ++ [41, 32, 43, 32, 40] ++ x ++ [32, 61, 32] ++ y ++ [41, 32, 43, 32, 40] ++ x ++ [32, 62, 32] ++ y ++ [41]
def e3 (x y : List UInt8) : List UInt8 := [40] ++ x ++ [32, 60, 61, 32] ++ y ++ [41, 32, 60, 62, 32, 40] ++ x ++ [32, 62, 32] ++ y ++ [41]
def sm : List Int := [-2, -1, 0, 1, 2]
def isOne (r : R3) : Bool := decide (r.n = 1 ∧ r.d = 1 ∧ r.e = 0)
def allOk : Bool := sm.all fun i => sm.all fun j => isOne (ev (e1 (dg i) (dg j))) && isOne (ev (e2 (dg i) (dg j))) && isOne (ev (e3 (dg i) (dg j)))
theorem all_ok : allOk = true := by kernel_rfl
end Go.Proofs.YtfocokjihbenmaaGreatDoor.Fo

namespace Go.Proofs.YtfocokjihbenmaaGreatDoor.Fo
open Go.RowKit Go.Proofs.YtfocokjihbenmaaGreatDoor.Nu
set_option linter.unusedVariables false
set_option linter.unusedSimpArgs false

def eqN (a p b q : Int) : Bool := decide (a = b ∧ p = q)
theorem eq_run (a p b q : Int) (w : World) : (Op.equalIn 10000 24 (.agg #[.int .i64 a, .int .i64 p]) (.agg #[.int .i64 b, .int .i64 q])).run Tryz.prog w = .ok (eqN a p b q) w := by
  rw [show (10000 : Nat) = 9998 + 1 + 1 from rfl, run_equalIn_agg _ _ _ _ _ (by kernel_rfl) (by kernel_rfl)]
  go_simp
  unfold eqN
  by_cases h1 : a = b
  · by_cases h2 : p = q
    · simp [h1, h2]
    · simp [h1, h2]
  · simp [h1]
theorem eq_num (a p b q : Int) (w : World) : (binOp .eql 24 (.agg #[.int .i64 a, .int .i64 p]) (.agg #[.int .i64 b, .int .i64 q])).run Tryz.prog w = .ok (.bool (eqN a p b q)) w := by
  rw [run_eql_struct, eq_run]
  simp
set_option maxRecDepth 100000 in
theorem known_any (w : World) (ht : Tb w) : Calls Tryz.prog 6 #[] w fun e w' => e = .returned (.bool true) ∧ Below w.heap.size w w' := by
  have HE : Hid (Calls Tryz.prog 7 #[.string ⟨#[50, 32, 43, 32, 51, 32, 42, 32, 52, 32, 61, 32, 49, 52]⟩] w fun e w' => e = .returned (.tuple #[.agg #[.int .i64 1, .int .i64 1], .int .i64 0]) ∧ Below w.heap.size w w') := Lib.hid (by
    have h := Eval_any ⟨#[50, 32, 43, 32, 51, 32, 42, 32, 52, 32, 61, 32, 49, 52]⟩ w ht
    rw [show ((⟨#[50, 32, 43, 32, 51, 32, 42, 32, 52, 32, 61, 32, 49, 52]⟩ : ByteArray).data.toList) = [50, 32, 43, 32, 51, 32, 42, 32, 52, 32, 61, 32, 49, 52] from rfl, ev_known] at h
    exact h)
  go_enter Tryz.func6, Tryz.ntmps6
  go_wp2_with fail
  refine HE.out.mono ?_
  rintro e w1 ⟨rfl, hb⟩
  go_wp2
  go_ret
  exact ⟨rfl, hb.alloc hb.size _⟩
theorem itoa_len (n : Int) (h : n.natAbs ≤ 9999) : (Lib.itoa n).length ≤ 20 := by
  have h1 := dec_len19 (u := n.natAbs) (by omega)
  unfold Lib.itoa
  split
  · simp; omega
  · have e : n.toNat = n.natAbs := by omega
    first | (rw [e]; omega) | omega
theorem dg_len (i : Int) (h : i.natAbs ≤ 9999) : (dg i).length ≤ 22 := by
  have h1 := itoa_len i h
  unfold dg
  split
  · simp; omega
  · omega
theorem tmod_small (n : Int) (m : Nat) (h : n.natAbs < m) : n.tmod (m : Int) = n := by
  rcases Int.natAbs_eq n with e | e
  · rw [e]; exact Int.tmod_eq_of_lt (by omega) (by omega)
  · rw [e, Int.neg_tmod, Int.tmod_eq_of_lt (by omega) (by omega)]
theorem tmod_bd (n : Int) : (n.tmod 3).natAbs ≤ 2 := by
  have := Int.natAbs_tmod n 3
  rw [this]
  have h2 : n.natAbs % (Int.natAbs 3) < Int.natAbs 3 := Nat.mod_lt _ (by decide)
  have h3 : Int.natAbs 3 = 3 := rfl
  omega
set_option maxRecDepth 100000 in
theorem digits_any (n : Int) (h : n.natAbs ≤ 9999) (w : World) : Calls Tryz.prog 11 #[.int .i64 n] w fun e w' => e = .returned (.string ⟨(dg n).toArray⟩) ∧ Below w.heap.size w w' := by
  have hm : n.tmod 10000 = n := tmod_small n 10000 (by omega)
  have HD := Lib.hid (RItoa_any n w (by omega))
  have hl := itoa_len n h
  by_cases h0 : n < 0
  · have hd : decide (n < 0) = true := decide_eq_true h0
    have HG : Hid (dg n = [40] ++ Lib.itoa n ++ [41]) := Lib.hid (if_pos h0)
    clear h0
    go_enter Tryz.func11, Tryz.ntmps11
    go_wp2_with fail
    refine HD.out.mono ?_
    rintro e w1 ⟨rfl, hb⟩
    go_wp2
    go_ret
    refine ⟨?_, hb⟩
    rw [HG.out]
    show Ending.returned (Value.string ((⟨#[40]⟩ : ByteArray) ++ ⟨(Lib.itoa n).toArray⟩ ++ ⟨#[41]⟩)) = _
    congr 2
  · have hd : decide (n < 0) = false := decide_eq_false h0
    have HG : Hid (dg n = Lib.itoa n) := Lib.hid (if_neg h0)
    clear h0
    go_enter Tryz.func11, Tryz.ntmps11
    go_wp2_with fail
    refine HD.out.mono ?_
    rintro e w1 ⟨rfl, hb⟩
    go_wp2
    go_ret
    exact ⟨by rw [HG.out]; rfl, hb⟩
theorem EvOne (s : ByteArray) (L : List UInt8) (h : s.data.toList = L) (hv : ev L = ⟨1, 1, 0⟩) (w : World) (ht : Tb w) : Calls Tryz.prog 7 #[.string s] w fun e w' => e = .returned (.tuple #[.agg #[.int .i64 1, .int .i64 1], .int .i64 0]) ∧ Below w.heap.size w w' := by
  have h2 := Eval_any s w ht
  rw [h, hv] at h2
  exact h2
theorem one_iff {r : R3} (h : isOne r = true) : r = ⟨1, 1, 0⟩ := by
  obtain ⟨n, d, e⟩ := r
  unfold isOne at h
  simp at h
  obtain ⟨rfl, rfl, rfl⟩ := h
  rfl
theorem sm_mem {i : Int} (h : i.natAbs ≤ 2) : i ∈ sm := by
  unfold sm
  have : i = -2 ∨ i = -1 ∨ i = 0 ∨ i = 1 ∨ i = 2 := by omega
  rcases this with rfl | rfl | rfl | rfl | rfl <;> decide
theorem logic_ev {i j : Int} (hi : i.natAbs ≤ 2) (hj : j.natAbs ≤ 2) : ev (e1 (dg i) (dg j)) = ⟨1, 1, 0⟩ ∧ ev (e2 (dg i) (dg j)) = ⟨1, 1, 0⟩ ∧ ev (e3 (dg i) (dg j)) = ⟨1, 1, 0⟩ := by
  have h := all_ok
  unfold allOk at h
  have h1 := List.all_eq_true.1 (List.all_eq_true.1 h i (sm_mem hi)) j (sm_mem hj)
  simp only [Bool.and_eq_true] at h1
  exact ⟨one_iff h1.1.1, one_iff h1.1.2, one_iff h1.2⟩
def nb1 (n d : Int) : Obj := .cells #[.int .i64 n, .int .i64 d] 24
theorem nhh (w : World) (o : Obj) : (w.alloc o).heap[w.heap.size]? = some o := by
  show (w.heap.push o)[w.heap.size]? = _
  rw [Array.getElem?_push, if_pos rfl]
theorem lth {W : World} {g : Nat} {o : Obj} (h : W.heap[g]? = some o) : g < W.heap.size := (Array.getElem?_eq_some_iff.1 h).1
theorem cc2 {W : World} {c : Nat} {n d : Int} (h : W.heap[c]? = some (nb1 n d)) : W.cell? ⟨c, 0, none⟩ = some (.int .i64 n) ∧ W.cell? ⟨c, 1, none⟩ = some (.int .i64 d) := by
  refine ⟨?_, ?_⟩
  · unfold World.cell?; rw [h]; rfl
  · unfold World.cell?; rw [h]; rfl
end Go.Proofs.YtfocokjihbenmaaGreatDoor.Fo
