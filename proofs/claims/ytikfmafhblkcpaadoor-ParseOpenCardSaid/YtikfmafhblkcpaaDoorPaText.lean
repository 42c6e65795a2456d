/-
  The law ParseText, for every text.
-/
import Derived.Test.YtikfmafhblkcpaaDoorPaF
import Derived.Test.YtikfmafhblkcpaaDoorPaTexts
import Derived.Test.YtikfmafhblkcpaaDoorPaAny2
namespace Go.Proofs.YtikfmafhblkcpaaDoor.Pa
open Go.RowKit Go.Proofs.YtikfmafhblkcpaaDoor.Tr
set_option linter.unusedVariables false

theorem any_none {c : List UInt8} : ∀ {l : List UInt8}, Lib.indexAny l c < 0 → ∀ x ∈ l, ¬ x ∈ c
  | [], _, x, hx => by cases hx
  | a :: l, h, x, hx => by
    have hg := Lib.indexAny_ge c l
    rw [Lib.indexAny] at h
    by_cases ha : c.contains a = true
    · rw [if_pos ha] at h; omega
    · rw [if_neg ha] at h
      have hl : Lib.indexAny l c < 0 := by
        by_cases h1 : Lib.indexAny l c = -1
        · omega
        · rw [if_neg (fun e => h1 (beq_iff_eq.1 e))] at h; omega
      rcases List.mem_cons.1 hx with rfl | hx
      · exact fun hm => ha (List.contains_iff_mem.2 hm)
      · exact any_none hl x hx
theorem mild_no {l c : List UInt8} (h : Lib.containsAny l c = false) (hc : ∀ x ∈ [(60 : UInt8), 123, 125, 91, 93], x ∈ c) : ∀ x ∈ l, Mild x := by
  have h1 : Lib.indexAny l c < 0 := by have := of_decide_eq_false h; omega
  intro x hx
  have h2 := any_none h1 x hx
  refine ⟨?_, ?_, ?_, ?_, ?_⟩ <;> (rintro rfl; exact h2 (hc _ (by decide)))
theorem asc_all {s : ByteArray} (h : ∀ b ∈ s.data.toList, b.toNat < 128) : Asc s := fun j b hj => h b (List.mem_of_getElem? hj)
theorem asc_text : Asc ⟨#[123, 125, 91, 93, 60, 124, 61]⟩ := asc_all (by decide)
set_option maxRecDepth 100000 in
set_option maxHeartbeats 4000000 in
theorem ParseText_any (s : ByteArray) (w : World) (ht : Tk.Tb w) : Calls Tryd.prog 6 #[.string s] w fun e w' => e = .returned (.bool true) ∧ Below w.heap.size w w' := by
  have HT := Lib.hid ht
  clear ht
  by_cases h : 1500 < s.size
  · have h1 : (1500 : Int) < (s.size : Int) := by omega
    go_enter Tryd.func6, Tryd.ntmps6
    go_wp2_with fail
    refine (known_any w HT.out).mono ?_
    rintro e w1 ⟨rfl, hb⟩
    go_wp2_with fail
    go_ret
    exact ⟨rfl, hb⟩
  · have h1 : ¬ (1500 : Int) < (s.size : Int) := by omega
    have HC := Lib.hid (ContainsAny_any s ⟨#[123, 125, 91, 93, 60, 124, 61]⟩ w asc_text (by decide) (by decide) (by omega))
    cases hin : Lib.containsAny s.data.toList (⟨#[123, 125, 91, 93, 60, 124, 61]⟩ : ByteArray).data.toList
    · have HM := Lib.hid (tree_mild (mild_no hin (by decide)))
      rw [hin] at HC
      clear hin
      go_enter Tryd.func6, Tryd.ntmps6
      go_wp2_with fail
      refine HC.out.mono ?_
      rintro e w1 ⟨rfl, hb1⟩
      have B1 := Lib.hid hb1
      have HP := Lib.hid (Parse_any s w1 (HT.out.below hb1) (by omega))
      clear hb1 HC
      go_wp2_with fail
      refine HP.out.mono ?_
      rintro e w2 ⟨v, d, rfl, l2, b2⟩
      clear HP
      rw [HM.out] at l2
      obtain ⟨A, c, hv⟩ := l2.form
      subst hv
      have B2 := Lib.hid (B1.out.trans (b2.mono B1.out.size))
      by_cases he : s = ⟨#[]⟩
      · subst he
        have l3 : LRx d w2 (In w1.heap.size w2) (.slice A 0 c) [] := l2
        clear l2 b2 HM
        go_wp2_with fail
        refine (known_any w2 (HT.out.below B2.out)).mono ?_
        rintro e w3 ⟨rfl, b3⟩
        have B3 := Lib.hid (B2.out.trans (b3.mono B2.out.size))
        clear b3
        go_wp2_with fail
        go_ret
        exact ⟨rfl, B3.out⟩
      · have hne : ¬ s.data.toList = [] := fun hh => he (by rw [← str_list s, hh])
        rw [if_neg hne] at l2
        have L2 := Lib.hid (LRx.lx l2)
        have hemp : s.toList.isEmpty = false := by
          rw [Lib.toList_data]
          cases h' : s.data.toList with
          | nil => exact absurd h' hne
          | cons _ _ => rfl
        clear l2 b2 HM
        go_wp2_with fail
        refine (word_any s w2).mono ?_
        rintro e w3 ⟨rfl, e3⟩
        have b3 : Below w2.heap.size w2 w3 := by rw [← e3]; exact (Below.refl _ _).alloc (Nat.le_refl _) _
        have LA : LX w3 (fun g => g < w3.heap.size) (.slice (some ⟨w2.heap.size, 0, none⟩) 1 1) [.mk 1 0 s [] []] := by rw [← e3]; exact LX.word w2 _ (by omega)
        have L3 := Lib.hid (And.intro (L2.out.on b3) LA)
        have B3 := Lib.hid (B2.out.trans (b3.mono B2.out.size))
        clear e3 b3 LA L2
        go_wp2_with fail
        refine (equal_same L3.out.1 L3.out.2).mono ?_
        rintro e w4 ⟨rfl, b4⟩
        have B4 := Lib.hid (B3.out.trans (b4.mono B3.out.size))
        clear b4 L3
        go_wp2_with fail
        refine (known_any w4 (HT.out.below B4.out)).mono ?_
        rintro e w5 ⟨rfl, b5⟩
        have B5 := Lib.hid (B4.out.trans (b5.mono B4.out.size))
        clear b5
        go_wp2_with fail
        go_ret
        exact ⟨rfl, B5.out⟩
    · rw [hin] at HC
      clear hin
      go_enter Tryd.func6, Tryd.ntmps6
      go_wp2_with fail
      refine HC.out.mono ?_
      rintro e w1 ⟨rfl, hb1⟩
      have B1 := Lib.hid hb1
      clear hb1 HC
      go_wp2_with fail
      refine (known_any w1 (HT.out.below B1.out)).mono ?_
      rintro e w2 ⟨rfl, hb⟩
      have B2 := Lib.hid (B1.out.trans (hb.mono B1.out.size))
      clear hb
      go_wp2_with fail
      go_ret
      exact ⟨rfl, B2.out⟩
end Go.Proofs.YtikfmafhblkcpaaDoor.Pa
