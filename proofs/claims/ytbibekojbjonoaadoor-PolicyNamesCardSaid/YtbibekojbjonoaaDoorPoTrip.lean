/-
  Policies as plain values: a valid policy is read again from its text; comments between the lines do not matter.
-/
import Derived.Test.YtbibekojbjonoaaDoorPoErr
namespace Go.Proofs.YtbibekojbjonoaaDoor.Po
set_option linter.unusedVariables false
set_option linter.unusedSimpArgs false
open Rf

/-! ### Lines -/
theorem parts_app (c : UInt8) (r : By) : ∀ a : By, c ∉ a → parts c (a ++ c :: r) = a :: parts c r
  | [], _ => by rw [List.nil_append, parts, if_pos rfl]
  | x :: a, h => by
    rw [List.cons_append, parts, if_neg (fun e => h (by simp [e])), parts_app c r a (fun e => h (by simp [e]))]
theorem parts_one (c : UInt8) : ∀ a : By, c ∉ a → parts c a = [a]
  | [], _ => rfl
  | x :: a, h => by rw [parts, if_neg (fun e => h (by simp [e])), parts_one c a (fun e => h (by simp [e]))]
theorem parts_lines {α : Type} (f : α → By) (c : UInt8) (r : By) : ∀ l : List α, (∀ x ∈ l, c ∉ f x) → parts c ((l.flatMap fun x => f x ++ [c]) ++ r) = l.map f ++ parts c r
  | [], _ => by simp
  | x :: l, h => by
    have ih := parts_lines f c r l (fun y hy => h y (by simp [hy]))
    rw [List.flatMap_cons, List.append_assoc, List.append_assoc, List.singleton_append, parts_app c _ _ (h x (by simp)), ih, List.map_cons, List.cons_append]
theorem readL_app (r : List By) : ∀ (l : List By) (n : Nat) (P : Pol), (∀ x ∈ l, stmt x ≠ .bad) → readL (l ++ r) n P = readL r (n + l.length) (l.foldl (fun P x => P.add (stmt x)) P)
  | [], n, P, _ => by simp
  | x :: l, n, P, h => by
    rw [List.cons_append, readL, if_neg (h x (by simp)), readL_app r l _ _ (fun y hy => h y (by simp [hy])), List.foldl_cons, List.length_cons]
    congr 1; omega
/-! ### Words in front -/
theorem trR_word {a : By} (ha : a ≠ []) (h : ∀ c ∈ a, spc c = false) : trR a = a := by
  obtain ⟨b, c, rfl⟩ : ∃ b c, a = b ++ [c] := ⟨a.dropLast, a.getLast ha, (List.dropLast_concat_getLast ha).symm⟩
  rw [trR_snoc, if_neg (by rw [h c (by simp)]; exact Bool.false_ne_true)]
theorem trR_app : ∀ (a r : By), trR r ≠ [] → trR (a ++ r) = a ++ trR r
  | [], r, _ => rfl
  | c :: a, r, h => by
    have ih := trR_app a r h
    rw [List.cons_append, trR_cons, ih, if_neg (fun hh => by have := List.append_eq_nil_iff.1 hh.1; exact h this.2), List.cons_append]
theorem trR_app_nil (a r : By) (h : trR r = []) (ha : trR a = a) : trR (a ++ r) = a := by
  have h2 : ∀ (r : By), trR r = [] → ∀ a, trR a = a → trR (a ++ r) = a := by
    intro r
    refine trR_rec r (fun r => trR r = [] → ∀ a, trR a = a → trR (a ++ r) = a) ?_ ?_
    · intro h a ha
      rw [trR_idem] at h
      rw [h, List.append_nil, ha]
    · intro l c hc ih h a ha
      rw [trR_snoc, if_pos hc] at h
      rw [← List.append_assoc, trR_snoc, if_pos hc]
      exact ih h a ha
  exact h2 r h a ha
theorem trL_word {a r : By} (ha : a ≠ []) (h : ∀ c ∈ a, spc c = false) : trL (a ++ r) = a ++ r := by
  cases a with
  | nil => exact absurd rfl ha
  | cons c a => rw [List.cons_append, trL_no (h c (by simp))]
theorem tw_word {p : UInt8 → Bool} : ∀ (a r : By), (∀ c ∈ a, p c = true) → (r = [] ∨ ∃ c q, r = c :: q ∧ p c = false) → (a ++ r).takeWhile p = a ∧ (a ++ r).dropWhile p = r
  | [], r, _, h => by
    rcases h with rfl | ⟨c, q, rfl, h⟩
    · exact ⟨rfl, rfl⟩
    · simp [h]
  | c :: a, r, h, h2 => by
    have ih := tw_word a r (fun d hd => h d (by simp [hd])) h2
    rw [List.cons_append, List.takeWhile_cons, List.dropWhile_cons, if_pos (h c (by simp)), if_pos (h c (by simp)), ih.1, ih.2]
    exact ⟨rfl, rfl⟩
theorem nsp_of {a : By} (h : ∀ c ∈ a, spc c = false) : ∀ c ∈ a, nsp c = true := fun c hc => by unfold nsp; rw [h c hc]; rfl
theorem cw_tr (l : By) : cw (tr l) = cw l := by unfold cw; rw [tr_idem]
/-- A word, and a blank and something behind it. -/
theorem cw_app {a : By} (r : By) (ha : a ≠ []) (h : ∀ c ∈ a, spc c = false) {b : UInt8} (hb : spc b = true) : cw (a ++ b :: r) = (a, tr r) := by
  have hbn : nsp b = false := by unfold nsp; rw [hb]; rfl
  have hbr : tr (b :: trR r) = tr r := by rw [tr_eq, tr_swap, trL_yes hb, ← tr_swap, trR_idem, ← tr_eq]
  by_cases h0 : trR r = []
  · have h1 : trR (b :: r) = [] := by rw [trR_cons, if_pos ⟨h0, hb⟩]
    have h2 : tr (a ++ b :: r) = a := by
      have := trL_word (r := []) ha h
      rw [List.append_nil] at this
      rw [tr_eq, trR_app_nil a _ h1 (trR_word ha h), this]
    have h3 : tr r = [] := by rw [tr_eq, h0]; rfl
    have h4 := tw_word a [] (nsp_of h) (.inl rfl)
    rw [List.append_nil] at h4
    unfold cw
    rw [h2, h4.1, h4.2, h3]; rfl
  · have h1 : trR (b :: r) = b :: trR r := by rw [trR_cons, if_neg (fun hh => h0 hh.1)]
    have h2 : tr (a ++ b :: r) = a ++ b :: trR r := by
      rw [tr_eq, trR_app a _ (by rw [h1]; simp), h1, trL_word ha h]
    have h4 := tw_word a (b :: trR r) (nsp_of h) (.inr ⟨b, trR r, rfl, hbn⟩)
    unfold cw
    rw [h2, h4.1, h4.2, hbr]
theorem cw_word {a : By} (ha : a ≠ []) (h : ∀ c ∈ a, spc c = false) : cw a = (a, []) := by
  have h1 := trL_word (r := []) ha h
  rw [List.append_nil] at h1
  have h2 : tr a = a := by rw [tr_eq, trR_word ha h, h1]
  have h4 := tw_word a [] (nsp_of h) (.inl rfl)
  rw [List.append_nil] at h4
  unfold cw
  rw [h2, h4.1, h4.2]; rfl
theorem words_list : ∀ ms : List By, (∀ m ∈ ms, m ≠ [] ∧ ∀ c ∈ m, spc c = false) → words (ms.flatMap fun m => 32 :: m) = ms
  | [], _ => rfl
  | m :: ms, h => by
    have ih := words_list ms (fun x hx => h x (by simp [hx]))
    obtain ⟨h1, h2⟩ := h m (by simp)
    have e : words ((m :: ms).flatMap fun m => 32 :: m) = words (m ++ ms.flatMap fun m => 32 :: m) := by
      rw [List.flatMap_cons]; unfold words; rw [List.cons_append, flds_blank 32 (by decide)]
    rw [e]
    cases ms with
    | nil =>
      rw [List.flatMap_nil, List.append_nil, words_cons (by rw [cw_word h1 h2]; exact h1), cw_word h1 h2]
      rfl
    | cons x xs =>
      have hc : cw (m ++ (x :: xs).flatMap fun m => 32 :: m) = (m, tr (x ++ xs.flatMap fun m => 32 :: m)) := by
        rw [List.flatMap_cons, List.cons_append, cw_app _ h1 h2 (by decide)]
      rw [words_cons (by rw [hc]; exact h1), hc, words_tr]
      have e2 : words ((x :: xs).flatMap fun m => 32 :: m) = words (x ++ xs.flatMap fun m => 32 :: m) := by
        rw [List.flatMap_cons]; unfold words; rw [List.cons_append, flds_blank 32 (by decide)]
      rw [← e2, ih]
/-! ### Names and titles hold no blanks at their ends, and no line feeds -/
theorem isName_iff {l : By} (h : isName l = true) : l ≠ [] ∧ l.length ≤ 30 ∧ (∀ c r, l = c :: r → sml c = true) ∧ ∀ c ∈ l, nby c = true := by
  unfold isName at h
  simp only [Bool.and_eq_true, decide_eq_true_eq, beq_iff_eq, List.all_eq_true] at h
  refine ⟨fun e => by rw [e] at h; simp at h, h.1.2, fun c r e => ?_, h.2.2⟩
  have := h.2.1
  rw [e] at this
  simpa using this
theorem u8_all {p : UInt8 → Bool} (h : ∀ n : Fin 256, p (UInt8.ofNat n.val) = true) (c : UInt8) : p c = true := by
  have := h ⟨c.toNat, c.toNat_lt⟩
  rwa [UInt8.ofNat_toNat] at this
set_option maxRecDepth 20000 in
theorem nby_not {c : UInt8} (h : nby c = true) : spc c = false ∧ c ≠ 10 ∧ c ≠ 35 ∧ c ≠ 64 ∧ c ≠ 124 := by
  have := u8_all (p := fun c => !nby c || decide (spc c = false ∧ c ≠ 10 ∧ c ≠ 35 ∧ c ≠ 64 ∧ c ≠ 124)) (by decide) c
  rw [h] at this
  simpa using this
theorem name_word {l : By} (h : isName l = true) : l ≠ [] ∧ (∀ c ∈ l, spc c = false) ∧ (∀ c ∈ l, c ≠ 10) :=
  ⟨(isName_iff h).1, fun c hc => (nby_not ((isName_iff h).2.2.2 c hc)).1, fun c hc => (nby_not ((isName_iff h).2.2.2 c hc)).2.1⟩
theorem mem_word {gs : List Grp} {m : By} (h : memErr gs m = 0) : m ≠ [] ∧ (∀ c ∈ m, spc c = false) ∧ (∀ c ∈ m, c ≠ 10) := by
  unfold memErr at h
  by_cases h1 : m.head? = some 64
  · rw [if_pos h1] at h
    by_cases h2 : isName (m.drop 1) = true
    · obtain ⟨_, h4, h5⟩ := name_word h2
      cases m with
      | nil => cases h1
      | cons c m =>
        have hc : c = 64 := by simpa using h1
        subst hc
        simp only [List.drop_succ_cons, List.drop_zero] at h4 h5
        exact ⟨by simp, fun d hd => by
          rcases List.mem_cons.1 hd with rfl | hd
          · decide
          · exact h4 d hd, fun d hd => by
          rcases List.mem_cons.1 hd with rfl | hd
          · decide
          · exact h5 d hd⟩
    · rw [if_neg h2] at h; cases h
  · rw [if_neg h1] at h
    by_cases h2 : isName m = true
    · exact name_word h2
    · rw [if_neg h2] at h; cases h
theorem built_word {n : By} (h : built n = true) : n ≠ [] ∧ (∀ c ∈ n, spc c = false) ∧ (∀ c ∈ n, c ≠ 10) := by
  unfold built at h
  simp only [Bool.or_eq_true, decide_eq_true_eq] at h
  rcases h with rfl | rfl <;> refine ⟨by decide, by decide, by decide⟩
def Word (n : By) : Prop := n ≠ [] ∧ (∀ c ∈ n, spc c = false) ∧ (∀ c ∈ n, c ≠ 10)
theorem has_word {gs : List Grp} (h : ∀ g ∈ gs, isName g.nm = true) {n : By} (hn : has gs n = true) : Word n := by
  unfold has at hn
  rw [Bool.or_eq_true] at hn
  rcases hn with hn | hn
  · exact built_word hn
  · rw [List.any_eq_true] at hn
    obtain ⟨g, hg, e⟩ := hn
    have e : g.nm = n := by simpa using e
    rw [← e]
    exact name_word (h g hg)
set_option maxRecDepth 20000 in
theorem bad_not {c : UInt8} (h : Ti.bad c = false) : c ≠ 9 ∧ c ≠ 10 ∧ c ≠ 60 ∧ c ≠ 124 := by
  have := u8_all (p := fun c => Ti.bad c || decide (c ≠ 9 ∧ c ≠ 10 ∧ c ≠ 60 ∧ c ≠ 124)) (by decide) c
  rw [h] at this
  simpa using this
theorem js_last : ∀ l : By, Ti.Js l → l.getLast? ≠ some 32
  | [], _ => by simp
  | [c], h => by
    intro e
    have : c = 32 := by simpa using e
    obtain ⟨d, r, hh, _⟩ := h.2.1 this
    cases hh
  | c :: d :: r, h => by
    rw [List.getLast?_cons_cons]
    exact js_last (d :: r) h.2.2
/-- The text of a title: no tab, no line feed, no bar, no angle bracket; no blank at its ends; not empty. -/
def Clean (l : By) : Prop := l ≠ [] ∧ (∀ c ∈ l, c ≠ 9 ∧ c ≠ 10 ∧ c ≠ 60 ∧ c ≠ 124) ∧ l.head? ≠ some 32 ∧ l.getLast? ≠ some 32
theorem name_clean {k : Nat} (h : k < 6) (h0 : k ≠ 0) : Ti.name k ≠ [] ∧ (∀ c ∈ Ti.name k, c ≠ 9 ∧ c ≠ 10 ∧ c ≠ 60 ∧ c ≠ 124) ∧ (Ti.name k).head? ≠ some 32 := by
  match k, h with
  | 0, _ => exact absurd rfl h0
  | 1, _ => exact ⟨by decide, by decide, by decide⟩
  | 2, _ => exact ⟨by decide, by decide, by decide⟩
  | 3, _ => exact ⟨by decide, by decide, by decide⟩
  | 4, _ => exact ⟨by decide, by decide, by decide⟩
  | 5, _ => exact ⟨by decide, by decide, by decide⟩
  | n + 6, h => omega
theorem format_clean {sp : Int} {l : By} (h : Ti.valid sp l = true) : Clean (Ti.format sp l) := by
  obtain ⟨⟨h0, h6⟩, _, _, _, hb, _⟩ := Ti.valid_parts h
  obtain ⟨hj, _, c, r, e, hc, _⟩ := Ti.valid_shape h
  have hl : l ≠ [] := by rw [e]; simp
  have hlast := js_last l hj
  have hm : ∀ c ∈ l, c ≠ 9 ∧ c ≠ 10 ∧ c ≠ 60 ∧ c ≠ 124 := by
    unfold Ti.vbytes at hb
    rw [Bool.and_eq_true, List.all_eq_true] at hb
    exact fun c hc => bad_not (by simpa using hb.1 c hc)
  unfold Ti.format
  rw [if_pos h]
  by_cases hs : sp = 0
  · rw [if_pos hs]
    exact ⟨hl, hm, by rw [e]; simpa using hc, hlast⟩
  · rw [if_neg hs]
    obtain ⟨n1, n2, n3⟩ := name_clean (k := sp.toNat) (by omega) (by omega)
    refine ⟨by simp, fun c hc => ?_, ?_, ?_⟩
    · simp only [List.append_assoc, List.mem_append, List.mem_singleton] at hc
      rcases hc with hc | rfl | hc
      · exact n2 c hc
      · decide
      · exact hm c hc
    · cases hn : Ti.name sp.toNat with
      | nil => exact absurd hn n1
      | cons d q => rw [hn] at n3; simpa using n3
    · rw [List.getLast?_append]; cases hq : l.getLast? with
      | none => exact absurd (List.getLast?_eq_none_iff.1 hq) hl
      | some d => rw [hq] at hlast; simpa using hlast
theorem clean_tr {l : By} (h : Clean l) : trR l = l ∧ trL l = l ∧ tr l = l := by
  obtain ⟨h1, h2, h3, h4⟩ := h
  have hs : ∀ c ∈ l, c ≠ 32 → spc c = false := fun c hc h => by
    have h9 := (h2 c hc).1
    unfold spc bl; simp [h9, h]
  have a : trR l = l := by
    obtain ⟨b, c, rfl⟩ : ∃ b c, l = b ++ [c] := ⟨l.dropLast, l.getLast h1, (List.dropLast_concat_getLast h1).symm⟩
    rw [trR_snoc, if_neg]
    rw [hs c (by simp) (fun e => h4 (by simp [e]))]; exact Bool.false_ne_true
  have b : trL l = l := by
    cases l with
    | nil => exact absurd rfl h1
    | cons c r => exact trL_no (hs c (by simp) (fun e => h3 (by simp [e]))) r
  exact ⟨a, b, by rw [tr_eq, a, b]⟩
end Go.Proofs.YtbibekojbjonoaaDoor.Po
