/-
  The contracts of run, isLetter, numberLength.
-/
import Derived.Test.YtfocokjihbenmaaDoorFoPrim
import Derived.Lib.Strings
namespace Go.Proofs.YtfocokjihbenmaaDoor.Fo
open Go.RowKit Go.Proofs.YtfocokjihbenmaaDoor.Nu
set_option linter.unusedVariables false
set_option linter.unusedSimpArgs false

theorem isLetter_any (c : UInt8) (w : World) : Calls Tryd.prog 43 #[.int .u8 c.toNat] w fun e w' => e = .returned (.bool (isL c)) ∧ w' = w := by
  have h1 := UInt8.toNat_lt c
  by_cases ha : 97 ≤ c.toNat
  · by_cases hb : c.toNat ≤ 122
    · have e : isL c = true := by unfold isL; rw [decide_eq_true_iff]; omega
      have HE := Lib.hid e; clear e
      have d1 : decide ((97 : Int) ≤ (c.toNat : Int)) = true := by rw [decide_eq_true_iff]; omega
      have d2 : decide ((c.toNat : Int) ≤ (122 : Int)) = true := by rw [decide_eq_true_iff]; omega
      go_enter Tryd.func43, Tryd.ntmps43
      go_wp2
      go_ret
      rw [HE.out]; simp
    · have e : isL c = false := by unfold isL; rw [decide_eq_false_iff_not]; omega
      have HE := Lib.hid e; clear e
      have d1 : decide ((97 : Int) ≤ (c.toNat : Int)) = true := by rw [decide_eq_true_iff]; omega
      have d2 : decide ((c.toNat : Int) ≤ (122 : Int)) = false := by rw [decide_eq_false_iff_not]; omega
      go_enter Tryd.func43, Tryd.ntmps43
      go_wp2
      go_ret
      rw [HE.out]; simp
  · have e : isL c = false := by unfold isL; rw [decide_eq_false_iff_not]; omega
    have HE := Lib.hid e; clear e
    have d1 : decide ((97 : Int) ≤ (c.toNat : Int)) = false := by rw [decide_eq_false_iff_not]; omega
    go_enter Tryd.func43, Tryd.ntmps43
    go_wp2
    go_ret
    rw [HE.out]; simp
theorem tw_stop {p : UInt8 → Bool} : ∀ {l : List UInt8} {k : Nat} {c : UInt8}, (l.take k).all p = true → l[k]? = some c → p c = false → (l.takeWhile p).length = k
  | [], k, c, _, h, _ => by simp at h
  | a :: l, 0, c, _, h, hp => by simp at h; subst h; simp [hp]
  | a :: l, k + 1, c, h1, h, hp => by
    simp at h1 h
    rw [List.takeWhile_cons, if_pos h1.1, List.length_cons, tw_stop (by simpa using h1.2) h hp]
theorem tw_all {p : UInt8 → Bool} : ∀ {l : List UInt8}, l.all p = true → (l.takeWhile p).length = l.length
  | [], _ => rfl
  | a :: l, h => by
    rw [List.all_cons] at h
    cases hp : p a
    · rw [hp] at h; simp at h
    · rw [hp] at h
      rw [List.takeWhile_cons, if_pos hp, List.length_cons, List.length_cons, tw_all (by simpa using h)]
theorem all_succ {p : UInt8 → Bool} {l : List UInt8} {k : Nat} {x : UInt8} (h : (l.take k).all p = true) (hx : l[k]? = some x) (hd : p x = true) : (l.take (k + 1)).all p = true := by
  rw [List.take_add_one, hx, List.all_append, h]
  simp [hd]
set_option maxRecDepth 100000 in
set_option maxHeartbeats 1000000 in
theorem run_any (f : FuncId) (eg : ∀ args w, (callFunc f args).run Tryd.prog w = .ok (.enter f args) w) (p : UInt8 → Bool) (hp : ∀ c W, Calls Tryd.prog f #[.int .u8 c.toNat] W fun e w' => e = .returned (.bool (p c)) ∧ w' = W) (s : ByteArray) (hs : s.size ≤ 1000) (w : World) :
    Calls Tryd.prog 72 #[.string s, .func (.func f) #[] #[]] w fun e w' => e = .returned (.int .i64 ((s.data.toList.takeWhile p).length : Int)) ∧ w' = w := by
  have HP := Lib.hid hp; clear hp
  have hsz : s.data.toList.length = s.size := rfl
  have HZ := Lib.hid hsz; clear hsz
  go_enter Tryd.func72, Tryd.ntmps72
  go_wp2_with fail
  go_loopw [5] (fun i wr => ∃ k : Nat, i = .int .i64 k ∧ k ≤ s.size ∧ Hid (wr = w) ∧ Hid ((s.data.toList.take k).all p = true)) (fun i _ => s.size - (intOf i).toNat)
  case atStart => exact ⟨0, rfl, Nat.zero_le _, Lib.hid rfl, Lib.hid (by simp)⟩
  case round =>
    obtain ⟨k, rfl, hk, hw, ha⟩ := hrel
    have hw' := hw.out
    subst hw'
    by_cases hlt : k < s.size
    · have hd : decide ((k : Int) < (s.size : Int)) = true := by rw [decide_eq_true_iff]; omega
      have hc : s.data.toList[k]? = some (s[k]) := by
        rw [List.getElem?_eq_getElem (by rw [HZ.out]; exact hlt)]; rfl
      have HC := Lib.hid hc; clear hc
      go_wp2_with fail
      refine (HP.out (s[k]) _).mono ?_
      rintro e w1 ⟨rfl, rfl⟩
      cases hq : p s[k] with
      | true =>
        have HQ := Lib.hid hq; clear hq
        go_wp2_with fail
        go_roundw
        case rel => exact ⟨k + 1, by simp, by omega, Lib.hid (by first | rfl | trivial), Lib.hid (all_succ ha.out HC.out HQ.out)⟩
        case measure => simp [intOf]; omega
      | false =>
        have HQ := Lib.hid (tw_stop ha.out HC.out hq); clear hq
        go_wp2_with fail
        go_ret
        exact ⟨by rw [HQ.out]; rfl, rfl⟩
    · have ek : k = s.size := by omega
      subst ek
      have hd : decide ((s.size : Int) < (s.size : Int)) = false := by simp
      have HQ := Lib.hid (tw_all (p := p) (l := s.data.toList) (by have := ha.out; rwa [List.take_of_length_le (by rw [HZ.out]; exact Nat.le_refl _)] at this))
      go_wp2_with fail
      go_ret
      exact ⟨by rw [HQ.out, HZ.out]; rfl, rfl⟩
set_option maxRecDepth 100000 in
theorem runD (s : ByteArray) (hs : s.size ≤ 1000) (w : World) : Calls Tryd.prog 72 #[.string s, .func (.func 41) #[] #[]] w fun e w' => e = .returned (.int .i64 ((s.data.toList.takeWhile isD).length : Int)) ∧ w' = w :=
  run_any 41 (fun _ _ => rfl) isD isDigit_any s hs w
set_option maxRecDepth 100000 in
theorem runL (s : ByteArray) (hs : s.size ≤ 1000) (w : World) : Calls Tryd.prog 72 #[.string s, .func (.func 43) #[] #[]] w fun e w' => e = .returned (.int .i64 ((s.data.toList.takeWhile isL).length : Int)) ∧ w' = w :=
  run_any 43 (fun _ _ => rfl) isL isLetter_any s hs w
theorem dot_iff (l : List UInt8) : Lib.hasPrefix l [46] = decide (l.head? = some 46) := by
  cases l with
  | nil => rfl
  | cons c l =>
    by_cases h : c = 46
    · subst h; rfl
    · have h1 : decide ((c :: l).head? = some 46) = false := by rw [decide_eq_false_iff_not]; simpa using h
      rw [h1]
      cases hp : Lib.hasPrefix (c :: l) [46] with
      | false => rfl
      | true =>
        exfalso; apply h
        have h2 : 46 = c := by simpa [Lib.hasPrefix] using hp
        exact h2.symm
set_option maxRecDepth 100000 in
set_option maxHeartbeats 1000000 in
theorem numberLength_any (s : ByteArray) (hs : s.size ≤ 1000) (w : World) : Calls Tryd.prog 42 #[.string s] w fun e w' => e = .returned (.int .i64 (numLen s.data.toList : Int)) ∧ w' = w := by
  have hsz : s.data.toList.length = s.size := rfl
  obtain ⟨W, hW⟩ : ∃ W, (s.data.toList.takeWhile isD).length = W := ⟨_, rfl⟩
  have hle : W ≤ s.size := by rw [← hW, ← hsz]; exact takeWhile_le _ _
  have HR := Lib.hid (runD s hs)
  rw [hW] at HR
  have he : (s.extract W s.size).data.toList = s.data.toList.drop W := Lib.extract_to_end s W
  have HP := Lib.hid (fun w => Tryd.strings_HasPrefix (s.extract W s.size) ⟨#[46]⟩ w)
  rw [show ((⟨#[46]⟩ : ByteArray).data.toList) = [46] from rfl, he, dot_iff] at HP
  by_cases hd : (s.data.toList.drop W).head? = some 46
  · have hlt : W < s.size := by
      rcases Nat.lt_or_ge W s.size with h | h
      · exact h
      · rw [List.drop_eq_nil_of_le (by omega)] at hd; simp at hd
    have he1 : (s.extract (W + 1) s.size).data.toList = s.data.toList.drop (W + 1) := Lib.extract_to_end s (W + 1)
    have HR2 := Lib.hid (runD (s.extract (W + 1) s.size) (by simp; omega))
    rw [he1] at HR2
    obtain ⟨V, hV⟩ : ∃ V, ((s.data.toList.drop (W + 1)).takeWhile isD).length = V := ⟨_, rfl⟩
    have hle2 : V ≤ s.size := by
      have := takeWhile_le isD (s.data.toList.drop (W + 1))
      rw [List.length_drop] at this; omega
    rw [hV] at HR2
    have HN : Hid (numLen s.data.toList = if 9 < W ∨ 9 < V then 0 else if V = 0 then W else W + 1 + V) := Lib.hid (by unfold numLen; simp only [hW, if_pos hd, hV])
    rw [decide_eq_true hd] at HP
    clear hd he he1 hV hW hsz
    rw [HN.out]
    go_enter Tryd.func42, Tryd.ntmps42
    go_wp2_with fail
    refine (HR.out _).mono ?_
    rintro e w1 ⟨rfl, rfl⟩
    go_wp2_with fail
    refine (HP.out _).mono ?_
    rintro e w1 ⟨rfl, rfl⟩
    go_wp2_with fail
    refine (HR2.out _).mono ?_
    rintro e w1 ⟨rfl, rfl⟩
    by_cases h9 : 9 < W
    · have d1 : decide ((W : Int) > 9) = true := by rw [decide_eq_true_iff]; omega
      go_wp2
      go_ret
      first | exact ⟨rfl, rfl⟩ | exact ⟨by simp, rfl⟩
    · have d1 : decide ((W : Int) > 9) = false := by rw [decide_eq_false_iff_not]; omega
      by_cases h8 : 9 < V
      · have d2 : decide ((V : Int) > 9) = true := by rw [decide_eq_true_iff]; omega
        go_wp2
        go_ret
        first | exact ⟨rfl, rfl⟩ | exact ⟨by simp, rfl⟩
      · have d2 : decide ((V : Int) > 9) = false := by rw [decide_eq_false_iff_not]; omega
        by_cases h0 : V = 0
        · subst h0
          go_wp2
          go_ret
          first | exact ⟨rfl, rfl⟩ | exact ⟨by simp, rfl⟩
        · have d3 : ((V : Int) == 0) = false := by simpa using h0
          have HZ := Lib.hid h0
          go_wp2
          go_ret
          first | exact ⟨rfl, rfl⟩ | exact ⟨by simp, rfl⟩
  · have HN : Hid (numLen s.data.toList = if 9 < W then 0 else W) := Lib.hid (by unfold numLen; simp only [hW, if_neg hd]; by_cases h9 : 9 < W <;> simp [h9])
    rw [decide_eq_false hd] at HP
    clear hd he hW hsz
    rw [HN.out]
    go_enter Tryd.func42, Tryd.ntmps42
    go_wp2_with fail
    refine (HR.out _).mono ?_
    rintro e w1 ⟨rfl, rfl⟩
    go_wp2_with fail
    refine (HP.out _).mono ?_
    rintro e w1 ⟨rfl, rfl⟩
    by_cases h9 : 9 < W
    · have d1 : decide ((W : Int) > 9) = true := by rw [decide_eq_true_iff]; omega
      go_wp2
      go_ret
      first | exact ⟨rfl, rfl⟩ | exact ⟨by simp, rfl⟩
    · have d1 : decide ((W : Int) > 9) = false := by rw [decide_eq_false_iff_not]; omega
      go_wp2
      go_ret
      first | exact ⟨rfl, rfl⟩ | exact ⟨by simp, rfl⟩
theorem ne_lit (X : ByteArray) (u : List UInt8) (h : X.data.toList ≠ u) : (X.toList == u) = false := by
  rw [ByteArray.toList_eq]; exact beq_eq_false_iff_ne.2 h
theorem bs_list (X : ByteArray) (t : Tok) (h : X.data.toList = t) : X = ⟨t.toArray⟩ := by
  apply ByteArray.ext; apply Array.ext'; simp [h]
set_option maxRecDepth 100000 in
set_option maxHeartbeats 1000000 in
theorem wordLength_any (s : ByteArray) (hs : s.size ≤ 1000) (w : World) : Calls Tryd.prog 44 #[.string s] w fun e w' => e = .returned (.int .i64 (wordLen s.data.toList : Int)) ∧ w' = w := by
  have hsz : s.data.toList.length = s.size := rfl
  have hW : wordLen s.data.toList = if s.data.toList.take (s.data.toList.takeWhile isL).length ∈ wordsL then (s.data.toList.takeWhile isL).length else 0 := rfl
  rw [hW]
  have hle : (s.data.toList.takeWhile isL).length ≤ s.size := by rw [← hsz]; exact takeWhile_le _ _
  have HR := Lib.hid (runL s hs)
  generalize (s.data.toList.takeWhile isL).length = W at hle HR ⊢
  have he : (s.extract 0 W).data.toList = s.data.toList.take W := by simp
  generalize s.data.toList.take W = t at he ⊢
  by_cases hm : t ∈ wordsL
  · rw [if_pos hm]
    have HX := Lib.hid (bs_list _ _ he)
    clear he hsz hW
    simp only [wordsL, List.mem_cons, List.not_mem_nil, or_false] at hm
    rcases hm with rfl | rfl | rfl | rfl | rfl | rfl
    all_goals
      go_enter Tryd.func44, Tryd.ntmps44
      go_wp2_with fail
      refine (HR.out _).mono ?_
      rintro e w1 ⟨rfl, rfl⟩
      have hx := HX.out
      go_wp2
      go_ret
      first | exact ⟨rfl, rfl⟩ | exact ⟨by simp, rfl⟩
  · rw [if_neg hm]
    have hn : ∀ u ∈ wordsL, ((s.extract 0 W).toList == u) = false := fun u hu => ne_lit _ _ (fun e => hm (by rw [← he, e]; exact hu))
    have n1 := hn [109, 111, 100] (by decide)
    have n2 := hn [97, 110, 100] (by decide)
    have n3 := hn [111, 114] (by decide)
    have n4 := hn [110, 111, 116] (by decide)
    have n5 := hn [114, 111, 117, 110, 100] (by decide)
    have n6 := hn [102, 108, 111, 111, 114] (by decide)
    clear he hsz hW hm hn
    go_enter Tryd.func44, Tryd.ntmps44
    go_wp2_with fail
    refine (HR.out _).mono ?_
    rintro e w1 ⟨rfl, rfl⟩
    go_wp2
    go_ret
    exact ⟨rfl, rfl⟩
end Go.Proofs.YtfocokjihbenmaaDoor.Fo
