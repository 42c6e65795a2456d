/-
  The sections of a text: plain.
-/
set_option linter.unusedVariables false
namespace Go.Proofs.YtdojbnngdlmbgaaGreatDoor.Se

structure Hd where
  lv : Nat
  ti : List UInt8
  fr : Nat
  bo : Nat
structure Sc where
  lv : Nat
  ti : List UInt8
  fr : Nat
  bo : Nat
  to : Nat
def lines : List UInt8 → List (List UInt8)
  | [] => [[]]
  | c :: s => if c = 10 then [] :: lines s else match lines s with
    | [] => [[c]]
    | x :: r => (c :: x) :: r
/-- The headings of the lines from a byte on, where head tells which lines have the form and pl which bytes are plain. -/
def hds (head : List UInt8 → Option (Nat × List UInt8)) (pl : List Bool) (size : Nat) : Nat → List (List UInt8) → List Hd
  | _, [] => []
  | a, x :: r => (match head x with
    | some (v, t) => if ((pl.drop a).take x.length).contains false then [] else [⟨v, t, a, min (a + x.length + 1) size⟩]
    | none => []) ++ hds head pl size (a + x.length + 1) r
def endOf (size lv : Nat) (l : List Hd) : Nat := match l.find? (fun x => decide (x.lv ≤ lv)) with
  | some x => x.fr
  | none => size
def secs (size : Nat) : List Hd → List Sc
  | [] => []
  | x :: r => ⟨x.lv, x.ti, x.fr, x.bo, endOf size x.lv r⟩ :: secs size r
/-- Headings in order, each within the text. -/
def Fine (size : Nat) : Nat → List Hd → Prop
  | _, [] => True
  | a, x :: r => a ≤ x.fr ∧ x.fr < size ∧ x.fr ≤ x.bo ∧ x.bo ≤ size ∧ Fine size (max x.bo (x.fr + 1)) r
theorem lines_ne (s : List UInt8) : lines s ≠ [] := by
  cases s with
  | nil => simp [lines]
  | cons c s =>
    unfold lines
    split
    · simp
    · split <;> simp
theorem lines_of {t x : List UInt8} {r : List (List UInt8)} (h : lines t = x :: r) : (r = [] ∧ t = x) ∨ ∃ u, t = x ++ 10 :: u ∧ lines u = r := by
  induction t generalizing x r with
  | nil => simp [lines] at h; exact .inl ⟨h.2.symm ▸ rfl, h.1 ▸ rfl⟩
  | cons c t ih =>
    unfold lines at h
    by_cases hc : c = 10
    · rw [if_pos hc] at h
      simp at h
      exact .inr ⟨t, by rw [h.1, hc]; rfl, h.2⟩
    · rw [if_neg hc] at h
      cases hl : lines t with
      | nil => exact absurd hl (lines_ne t)
      | cons y q =>
        rw [hl] at h
        simp at h
        obtain ⟨h1, h2⟩ := h
        subst h1; subst h2
        rcases ih hl with ⟨h3, h4⟩ | ⟨u, h3, h4⟩
        · exact .inl ⟨h3, by rw [h4]⟩
        · exact .inr ⟨u, by rw [h3]; rfl, h4⟩
theorem Fine.mono {size a b : Nat} {l : List Hd} (h : Fine size b l) (hab : a ≤ b) : Fine size a l := by
  cases l with
  | nil => trivial
  | cons x r => exact ⟨Nat.le_trans hab h.1, h.2⟩
theorem hds_fine (head : List UInt8 → Option (Nat × List UInt8)) (hd : head [] = none) (pl : List Bool) (size : Nat) : ∀ (ls : List (List UInt8)) (t : List UInt8) (a : Nat), lines t = ls → a + t.length = size → Fine size a (hds head pl size a ls)
  | [], t, a, h, _ => absurd h (lines_ne t)
  | x :: r, t, a, h, hs => by
    have hR : Fine size (a + x.length + 1) (hds head pl size (a + x.length + 1) r) := by
      rcases lines_of h with ⟨h1, h2⟩ | ⟨u, h1, h2⟩
      · subst h1; trivial
      · refine hds_fine head hd pl size r u _ h2 ?_
        rw [h1] at hs; simp at hs; omega
    have hx : a + x.length ≤ size := by
      rcases lines_of h with ⟨h1, h2⟩ | ⟨u, h1, h2⟩
      · rw [← h2]; omega
      · rw [h1] at hs; simp at hs; omega
    unfold hds
    cases hh : head x with
    | none => exact Fine.mono hR (by omega)
    | some vt =>
      obtain ⟨v, ti⟩ := vt
      have hne : 0 < x.length := by
        cases x with
        | nil => rw [hd] at hh; cases hh
        | cons c x => simp
      simp only
      split
      · exact Fine.mono hR (by omega)
      · refine ⟨Nat.le_refl _, by show a < size; omega, by show a ≤ min (a + x.length + 1) size; omega, by show min (a + x.length + 1) size ≤ size; omega, ?_⟩
        exact Fine.mono hR (by show max (min (a + x.length + 1) size) (a + 1) ≤ _; omega)
theorem endOf_le {size a : Nat} (lv : Nat) {l : List Hd} (h : Fine size a l) : endOf size lv l ≤ size ∧ min a size ≤ endOf size lv l := by
  induction l generalizing a with
  | nil => unfold endOf; simp; omega
  | cons x r ih =>
    obtain ⟨h1, h2, h3, h4, h5⟩ := h
    unfold endOf
    by_cases hx : x.lv ≤ lv
    · rw [List.find?_cons_of_pos (by simpa using hx)]; simp only; omega
    · rw [List.find?_cons_of_neg (by simpa using hx)]
      have := ih h5
      unfold endOf at this
      omega
/-- A section reaches from its heading to the end of its body's text, within the text. -/
theorem secs_in {size a : Nat} {l : List Hd} (h : Fine size a l) : ∀ x ∈ secs size l, a ≤ x.fr ∧ x.fr < size ∧ x.fr ≤ x.bo ∧ x.bo ≤ x.to ∧ x.to ≤ size := by
  induction l generalizing a with
  | nil => intro x hx; simp [secs] at hx
  | cons y r ih =>
    obtain ⟨h1, h2, h3, h4, h5⟩ := h
    intro x hx
    rw [secs] at hx
    rcases List.mem_cons.1 hx with rfl | hx
    · have := endOf_le y.lv h5
      exact ⟨h1, h2, h3, by show y.bo ≤ endOf size y.lv r; omega, this.1⟩
    · have := ih h5 x hx
      exact ⟨by omega, this.2⟩
/-- The section at an index, and the headings that follow. -/
theorem secs_get {size : Nat} : ∀ {l : List Hd} {i : Nat} {x : Sc}, (secs size l)[i]? = some x → ∃ y, l[i]? = some y ∧ x = ⟨y.lv, y.ti, y.fr, y.bo, endOf size y.lv (l.drop (i + 1))⟩
  | [], i, x, h => by simp [secs] at h
  | y :: r, 0, x, h => ⟨y, rfl, by simpa [secs] using h.symm⟩
  | y :: r, i + 1, x, h => by
    rw [secs, List.getElem?_cons_succ] at h
    obtain ⟨z, h1, h2⟩ := secs_get h
    exact ⟨z, by simpa using h1, by simpa using h2⟩
theorem Fine.drop {size a : Nat} {l : List Hd} (h : Fine size a l) (i : Nat) : ∃ b, a ≤ b ∧ Fine size b (l.drop i) := by
  induction i generalizing a l with
  | zero => exact ⟨a, Nat.le_refl _, by simpa using h⟩
  | succ i ih =>
    cases l with
    | nil => exact ⟨a, Nat.le_refl _, by simp; trivial⟩
    | cons x r =>
      obtain ⟨h1, h2, h3, h4, h5⟩ := h
      obtain ⟨b, hb, hf⟩ := ih h5
      exact ⟨b, by omega, by simpa using hf⟩
/-- Where one heading's section ends lies at or behind every heading within it that is found before. -/
theorem end_nest {size lv a : Nat} : ∀ {r : List Hd} {k : Nat} {z : Hd}, Fine size a r → r[k]? = some z → z.fr < endOf size lv r → lv < z.lv ∧ endOf size z.lv (r.drop (k + 1)) ≤ endOf size lv r
  | [], k, z, _, h, _ => by simp at h
  | x :: r, k, z, hF, h, hl => by
    obtain ⟨h1, h2, h3, h4, h5⟩ := hF
    unfold endOf at hl ⊢
    by_cases hx : x.lv ≤ lv
    · rw [List.find?_cons_of_pos (by simpa using hx)] at hl
      simp only at hl
      cases k with
      | zero => simp at h; subst h; omega
      | succ k =>
        have hm : z ∈ r := List.mem_of_getElem? (by simpa using h)
        have : max x.bo (x.fr + 1) ≤ z.fr := by
          clear hl h
          generalize max x.bo (x.fr + 1) = m at h5
          induction r generalizing m with
          | nil => simp at hm
          | cons y q ih =>
            obtain ⟨g1, g2, g3, g4, g5⟩ := h5
            rcases List.mem_cons.1 hm with rfl | hm
            · exact g1
            · have := ih hm _ g5; omega
        omega
    · rw [List.find?_cons_of_neg (by simpa using hx)] at hl ⊢
      cases k with
      | zero =>
        simp at h; subst h
        refine ⟨by omega, ?_⟩
        simp only [Nat.zero_add, List.drop_succ_cons, List.drop_zero]
        -- the first heading at level ≤ lv is one at level ≤ x.lv
        clear hl h1 h2 h3 h4
        generalize max x.bo (x.fr + 1) = m at h5
        induction r generalizing m with
        | nil => simp
        | cons y q ih =>
          by_cases hy : y.lv ≤ x.lv
          · rw [List.find?_cons_of_pos (by simpa using hy)]
            by_cases hy2 : y.lv ≤ lv
            · rw [List.find?_cons_of_pos (by simpa using hy2)]; simp
            · rw [List.find?_cons_of_neg (by simpa using hy2)]
              have := endOf_le lv h5.2.2.2.2
              have h6 := h5.2.1
              unfold endOf at this
              simp only
              omega
          · rw [List.find?_cons_of_neg (by simpa using hy), List.find?_cons_of_neg (by simp; omega)]
            exact ih _ h5.2.2.2.2
      | succ k =>
        have := end_nest (lv := lv) h5 (by simpa using h) (by unfold endOf; exact hl)
        unfold endOf at this
        simpa using this
/-- A section lies within an earlier one, at a greater level, or behind it. -/
theorem secs_nest {size a : Nat} {l : List Hd} (h : Fine size a l) {i k : Nat} {x z : Sc} (hi : (secs size l)[i]? = some x) (hk : (secs size l)[k]? = some z) (hik : i < k) (hl : z.fr < x.to) : x.lv < z.lv ∧ z.to ≤ x.to := by
  obtain ⟨y, h1, rfl⟩ := secs_get hi
  obtain ⟨q, h2, rfl⟩ := secs_get hk
  obtain ⟨b, _, hF⟩ := h.drop (i + 1)
  have h3 : (l.drop (i + 1))[k - (i + 1)]? = some q := by rw [List.getElem?_drop, show i + 1 + (k - (i + 1)) = k by omega]; exact h2
  have := end_nest (lv := y.lv) hF h3 hl
  rwa [List.drop_drop, show i + 1 + (k - (i + 1) + 1) = k + 1 by omega] at this
/-- Where a section ends, another heading begins or the text ends. -/
def At (size : Nat) (l : List Hd) (e : Nat) : Prop := e = size ∨ ∃ x ∈ l, x.fr = e
theorem endOf_at (size lv : Nat) (l : List Hd) : At size l (endOf size lv l) := by
  unfold endOf
  cases h : l.find? (fun x => decide (x.lv ≤ lv)) with
  | none => exact .inl rfl
  | some x => exact .inr ⟨x, List.mem_of_find?_eq_some h, rfl⟩
/-- Every heading begins the text or stands behind a line feed. -/
theorem hds_lf (head : List UInt8 → Option (Nat × List UInt8)) (pl : List Bool) (size : Nat) : ∀ (ls : List (List UInt8)) (p t : List UInt8), lines t = ls → (p.length = 0 ∨ p[p.length - 1]? = some 10) → ∀ x ∈ hds head pl size p.length ls, x.fr = 0 ∨ (p ++ t)[x.fr - 1]? = some 10
  | [], p, t, h, _, _, _ => absurd h (lines_ne t)
  | x :: r, p, t, h, hp, y, hy => by
    unfold hds at hy
    rcases List.mem_append.1 hy with hy | hy
    · have e : y.fr = p.length := by
        cases hh : head x with
        | none => rw [hh] at hy; simp at hy
        | some vt =>
          obtain ⟨v, ti⟩ := vt
          rw [hh] at hy
          simp only at hy
          split at hy
          · simp at hy
          · simp at hy; rw [hy]
      rw [e]
      rcases hp with hp | hp
      · exact .inl hp
      · refine .inr ?_
        have hlt : p.length - 1 < p.length := (List.getElem?_eq_some_iff.1 hp).1
        rw [List.getElem?_append_left hlt]; exact hp
    · rcases lines_of h with ⟨h1, h2⟩ | ⟨u, h1, h2⟩
      · subst h1; simp [hds] at hy
      · have hl : (p ++ x ++ [10]).length = p.length + x.length + 1 := by simp; omega
        have := hds_lf head pl size r (p ++ x ++ [10]) u h2 (.inr (by rw [hl]; simp)) y (by rw [hl]; exact hy)
        rw [h1]
        simpa using this
/-- Where the sections that lie in no other end, one round after another. -/
theorem step_at {size a : Nat} {x : Hd} {r : List Hd} (h : Fine size a (x :: r)) {e : Nat} (he : At size (x :: r) e) : At size r (if x.fr = e then endOf size x.lv r else e) := by
  by_cases hx : x.fr = e
  · rw [if_pos hx]; exact endOf_at size x.lv r
  · rw [if_neg hx]
    rcases he with he | ⟨y, hy, he⟩
    · exact .inl he
    · rcases List.mem_cons.1 hy with rfl | hy
      · exact absurd he hx
      · exact .inr ⟨y, hy, he⟩
theorem at_nil {size e : Nat} (h : At size [] e) : e = size := by
  rcases h with h | ⟨x, hx, _⟩
  · exact h
  · simp at hx
/-- The lead reaches to the first heading. -/
def leadLen (size : Nat) : List Hd → Nat
  | [] => size
  | x :: _ => x.fr
theorem lead_at (size : Nat) (l : List Hd) : At size l (leadLen size l) := by
  cases l with
  | nil => exact .inl rfl
  | cons x r => exact .inr ⟨x, List.mem_cons_self .., rfl⟩
/-- A text that a section's own text takes the place of stays as it is. -/
theorem same_text (s : List UInt8) (f t : Nat) (h1 : f ≤ t) (h2 : t ≤ s.length) : s.take f ++ (s.drop f).take (t - f) ++ s.drop t = s := by
  have e : s.take f ++ (s.drop f).take (t - f) = s.take t := by
    rw [← List.drop_take]
    have := List.take_append_drop f (s.take t)
    rw [List.take_take, Nat.min_eq_left h1] at this
    exact this
  rw [e, List.take_append_drop]
/-- A section's text ends with a line feed, or with the text. -/
theorem text_lf {s : List UInt8} {f t : Nat} (h1 : f < t) (h2 : t ≤ s.length) (h : t = s.length ∨ s[t - 1]? = some 10) : t = s.length ∨ ((s.drop f).take (t - f)).getLast? = some 10 := by
  rcases h with h | h
  · exact .inl h
  · refine .inr ?_
    rw [List.getLast?_eq_getElem?, List.length_take, List.length_drop, Nat.min_eq_left (by omega), List.getElem?_take_of_lt (by omega), List.getElem?_drop, show f + (t - f - 1) = t - 1 by omega]
    exact h
/-- No heading where no byte is plain. -/
theorem hds_none (head : List UInt8 → Option (Nat × List UInt8)) (hd : head [] = none) (pl : List Bool) (size : Nat) (hp : ∀ b ∈ pl, b = false) : ∀ (ls : List (List UInt8)) (t : List UInt8) (a : Nat), lines t = ls → a + t.length ≤ pl.length → hds head pl size a ls = []
  | [], t, a, h, _ => absurd h (lines_ne t)
  | x :: r, t, a, h, hs => by
    have hx : a + x.length ≤ pl.length := by
      rcases lines_of h with ⟨h1, h2⟩ | ⟨u, h1, h2⟩
      · rw [← h2]; omega
      · rw [h1] at hs; simp at hs; omega
    have hR : hds head pl size (a + x.length + 1) r = [] := by
      rcases lines_of h with ⟨h1, h2⟩ | ⟨u, h1, h2⟩
      · subst h1; rfl
      · refine hds_none head hd pl size hp r u _ h2 ?_
        rw [h1] at hs; simp at hs; omega
    unfold hds
    rw [hR, List.append_nil]
    cases hh : head x with
    | none => rfl
    | some vt =>
      obtain ⟨v, ti⟩ := vt
      have hne : 0 < x.length := by
        cases x with
        | nil => rw [hd] at hh; cases hh
        | cons c x => simp
      have hm : false ∈ (pl.drop a).take x.length := by
        have h0 : 0 < ((pl.drop a).take x.length).length := by simp; omega
        obtain ⟨b, q, hq⟩ := List.exists_cons_of_length_pos h0
        have hb : b ∈ pl := List.mem_of_mem_drop (List.mem_of_mem_take (by rw [hq]; exact List.mem_cons_self ..))
        rw [hq, hp b hb]; exact List.mem_cons_self ..
      simp only
      rw [if_pos (by simpa using hm)]
end Go.Proofs.YtdojbnngdlmbgaaGreatDoor.Se
