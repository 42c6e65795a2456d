/-
  Texts put together of tokens and blanks are divided into these tokens; the reading does not ask for its fuel; blanks around a text, and parentheses around balanced tokens, do not change the value.
  The formulas that the tape makes: pieces whose tokens are the tokens of the text, balanced, few and short.
  The reading does not ask which numbers there are: trees of formulas of small numbers, and their values.
-/
import Derived.Test.YtfocokjihbenmaaGreatDoorFoPl
import Derived.Test.YtfocokjihbenmaaGreatDoorFoMm
namespace Go.Proofs.YtfocokjihbenmaaGreatDoor.Fo
open Go.Proofs.YtfocokjihbenmaaGreatDoor.Nu

def isBl (c : UInt8) : Bool := decide (c ∈ bls)
def stops (p : UInt8 → Bool) : Option UInt8 → Bool
  | none => true
  | some x => !p x
/-- A token that is followed by this byte ends there. -/
def endOk : Tok → Option UInt8 → Bool
  | [], _ => false
  | c :: t, h => if isD c then stops isD h && stops (· == 46) h else if isL c then stops isL h else if t = [] then stops (fun x => decide ([c, x] ∈ twos)) h else true
def tokB (t : Tok) : Bool := decide (tokLen t = t.length) && !t.isEmpty
theorem stops_tw {p : UInt8 → Bool} : ∀ (l s : List UInt8), stops p s.head? = true → ((l ++ s).takeWhile p).length = (l.takeWhile p).length
  | [], [], _ => rfl
  | [], c :: s, h => by
    have : p c = false := by simpa [stops] using h
    simp [this]
  | a :: l, s, h => by
    rw [List.cons_append, List.takeWhile_cons, List.takeWhile_cons]
    cases p a
    · rfl
    · simp only [if_true, List.length_cons, stops_tw l s h]
theorem tw_lt {p : UInt8 → Bool} : ∀ (l s : List UInt8), (l.takeWhile p).length < l.length → ((l ++ s).takeWhile p).length = (l.takeWhile p).length
  | [], _, h => absurd h (by simp)
  | a :: l, s, h => by
    rw [List.takeWhile_cons] at h
    rw [List.cons_append, List.takeWhile_cons, List.takeWhile_cons]
    cases hp : p a
    · rfl
    · rw [hp] at h
      simp only [if_true, List.length_cons] at h ⊢
      rw [tw_lt l s (by omega)]
theorem head_drop_append (t s : List UInt8) (w : Nat) (h : w < t.length) : ((t ++ s).drop w).head? = (t.drop w).head? := by
  rw [List.head?_drop, List.head?_drop, List.getElem?_append_left h]
theorem numLen_app (t s : List UInt8) (h : numLen t = t.length) (h0 : t ≠ []) (h1 : stops isD s.head? = true) (h2 : stops (· == 46) s.head? = true) : numLen (t ++ s) = t.length := by
  have hp := List.length_pos_iff.2 h0
  have hle := takeWhile_le isD t
  unfold numLen at h ⊢
  by_cases hd : (t.drop (t.takeWhile isD).length).head? = some 46
  · have hlt : (t.takeWhile isD).length < t.length := by
      rcases Nat.lt_or_ge (t.takeWhile isD).length t.length with h | h
      · exact h
      · rw [List.drop_eq_nil_of_le h] at hd; simp at hd
    rw [tw_lt t s hlt]
    simp only [head_drop_append t s _ hlt, hd, if_true] at h ⊢
    rw [List.drop_append_of_le_length (by omega), stops_tw _ s h1]
    exact h
  · simp only [if_neg hd, if_true] at h
    have hw : (t.takeWhile isD).length = t.length := by
      by_cases h9 : 9 < (t.takeWhile isD).length ∨ 9 < 0
      · rw [if_pos h9] at h; omega
      · rw [if_neg h9] at h; exact h
    have hw9 : ¬ 9 < t.length := fun hc => by rw [if_pos (by omega)] at h; omega
    rw [stops_tw t s h1, hw]
    have e : (t ++ s).drop t.length = s := by simp
    have hs : s.head? ≠ some 46 := fun hc => by rw [hc] at h2; simp [stops] at h2
    simp only [e, if_neg hs, if_true]
    rw [if_neg (by omega)]
theorem wordLen_app (t s : List UInt8) (h : wordLen t = t.length) (h0 : t ≠ []) (h1 : stops isL s.head? = true) : wordLen (t ++ s) = t.length := by
  have hp := List.length_pos_iff.2 h0
  have hw : (t.takeWhile isL).length = t.length := by
    unfold wordLen at h; simp only at h
    split at h
    · exact h
    · omega
  unfold wordLen at h ⊢
  simp only [stops_tw t s h1, hw] at h ⊢
  rw [List.take_append_of_le_length (Nat.le_refl _)]
  exact h
theorem tokLen_cons (c : UInt8) (l : List UInt8) : tokLen (c :: l) = if isD c then numLen (c :: l) else if isL c then wordLen (c :: l) else signLen (c :: l) := rfl
theorem endOk_cons (c : UInt8) (t : Tok) (h : Option UInt8) : endOk (c :: t) h = if isD c then stops isD h && stops (· == 46) h else if isL c then stops isL h else if t = [] then stops (fun x => decide ([c, x] ∈ twos)) h else true := rfl
theorem stops_none {p : UInt8 → Bool} (hp : ∀ x, p x = false) (h : Option UInt8) : stops p h = true := by
  cases h with
  | none => rfl
  | some x => simp [stops, hp]
theorem end_sym {c : UInt8} (h1 : isD c = false) (h2 : isL c = false) (h3 : c ≠ 60) (h4 : c ≠ 62) (h : Option UInt8) : endOk [c] h = true := by
  rw [endOk_cons, h1, h2]
  exact stops_none (fun x => by simp [twos, h3, h4]) h
theorem tok_app (t s : List UInt8) (h : tokB t = true) (h2 : endOk t s.head? = true) : tokLen (t ++ s) = t.length := by
  unfold tokB at h
  rw [Bool.and_eq_true, decide_eq_true_iff] at h
  obtain ⟨h, _⟩ := h
  cases t with
  | nil => cases h2
  | cons c t =>
    rw [endOk_cons] at h2
    rw [tokLen_cons] at h
    rw [List.cons_append, tokLen_cons]
    by_cases hd : isD c = true
    · rw [if_pos hd] at h h2 ⊢
      rw [Bool.and_eq_true] at h2
      exact numLen_app (c :: t) s h (by simp) h2.1 h2.2
    · rw [if_neg hd] at h h2 ⊢
      by_cases hl : isL c = true
      · rw [if_pos hl] at h h2 ⊢
        exact wordLen_app (c :: t) s h (by simp) h2
      · rw [if_neg hl] at h h2 ⊢
        cases t with
        | nil =>
          have h3 : c ∈ ones := by
            unfold signLen at h
            by_cases hc : c ∈ ones
            · exact hc
            · rw [if_neg (by unfold twos; simp)] at h
              simp only [if_neg hc] at h; cases h
          unfold signLen
          have h4 : ¬ (List.take 2 (c :: ([] ++ s)) ∈ twos) := by
            cases s with
            | nil => unfold twos; simp
            | cons x s =>
              simp only [if_true, List.head?_cons, stops] at h2
              simpa using h2
          rw [if_neg h4]
          show (if c ∈ ones then 1 else 0) = _
          rw [if_pos h3]; rfl
        | cons d t =>
          have hle := (signLen_le (c :: d :: t)).1
          unfold signLen at h ⊢
          have e : List.take 2 (c :: ((d :: t) ++ s)) = List.take 2 (c :: d :: t) := by simp
          rw [e]
          by_cases ht : List.take 2 (c :: d :: t) ∈ twos
          · rw [if_pos ht] at h ⊢; exact h
          · rw [if_neg ht] at h
            exfalso
            simp only [List.length_cons] at h
            split at h <;> omega
/-- What pieces of a text are blank. -/
def blB (p : List UInt8) : Bool := p.all isBl
def sep : List (List UInt8) → List UInt8 → Bool
  | [], _ => true
  | p :: l, e => (blB p || (tokB p && endOk p (l.flatten ++ e).head?)) && sep l e
def toksOf (l : List (List UInt8)) : List Tok := l.filter fun p => !blB p
theorem trimB_bl : ∀ (b l : List UInt8), blB b = true → trimB (b ++ l) = trimB l
  | [], _, _ => rfl
  | c :: b, l, h => by
    unfold blB at h
    rw [List.all_cons, Bool.and_eq_true] at h
    have := trimB_bl b l h.2
    have hc : c ∈ bls := by simpa [isBl] using h.1
    unfold trimB Lib.trimLeftS at this ⊢
    rw [List.cons_append, List.dropWhile_cons]
    have : bls.contains c = true := by simpa using hc
    simp_all
theorem bl_no (c : UInt8) (h : isBl c = true) : tokLen [c] = 0 ∧ ∀ s, tokLen (c :: s) = 0 := by
  have : c = 9 ∨ c = 10 ∨ c = 32 := by simpa [isBl, bls] using h
  have h2 : ∀ s, tokLen (c :: s) = 0 := by
    intro s
    have h1 : isD c = false ∧ isL c = false ∧ c ∉ ones ∧ c ≠ 60 ∧ c ≠ 62 := by
      rcases this with rfl | rfl | rfl <;> decide
    rw [tokLen_cons, if_neg (by simp [h1.1]), if_neg (by simp [h1.2.1])]
    unfold signLen
    rw [if_neg]
    · show (if c ∈ ones then 1 else 0) = _
      rw [if_neg h1.2.2.1]
    cases s with
    | nil => unfold twos; simp
    | cons x s => unfold twos; simp [h1.2.2.2.1, h1.2.2.2.2]
  exact ⟨h2 [], h2⟩
theorem tok_ne {t : Tok} (h : tokB t = true) : t ≠ [] ∧ tokLen t = t.length := by
  unfold tokB at h
  rw [Bool.and_eq_true, decide_eq_true_iff] at h
  exact ⟨fun e => by rw [e] at h; simp at h, h.1⟩
theorem trimB_tok (t s : List UInt8) (h : tokB t = true) : trimB (t ++ s) = t ++ s := by
  obtain ⟨h1, h2⟩ := tok_ne h
  cases t with
  | nil => exact absurd rfl h1
  | cons c t =>
    have hc : isBl c = false := by
      cases hc : isBl c
      · rfl
      · have := (bl_no c hc).2 t; rw [this] at h2; cases h2
    unfold trimB Lib.trimLeftS
    rw [List.cons_append, List.dropWhile_cons]
    have : bls.contains c = false := by
      cases hq : bls.contains c
      · rfl
      · unfold isBl at hc; simp at hq; simp [hq] at hc
    rw [this]; rfl
theorem toks_sep : ∀ (l : List (List UInt8)) (e : List UInt8), sep l e = true → blB e = true → splitL (l.flatten ++ e) = some (toksOf l)
  | [], e, _, he => by
    have := trimB_bl e [] he
    rw [List.append_nil] at this
    show toks (trimB e) = _
    rw [this]; rfl
  | p :: l, e, h, he => by
    unfold sep at h
    rw [Bool.and_eq_true, Bool.or_eq_true, Bool.and_eq_true] at h
    have ih := toks_sep l e h.2 he
    rw [List.flatten_cons, List.append_assoc]
    cases hb : blB p
    · rcases h.1 with h1 | ⟨h1, h2⟩
      · rw [hb] at h1; cases h1
      · unfold splitL at ih ⊢
        rw [trimB_tok _ _ h1]
        have h3 := tok_app p (l.flatten ++ e) h1 h2
        have h4 := (tok_ne h1).1
        have hp := List.length_pos_iff.2 h4
        rw [toks_cons (by simp [h4]) (by omega), h3, List.drop_left, List.take_left, ih]
        unfold toksOf
        rw [List.filter_cons, hb]; rfl
    · unfold splitL at ih ⊢
      rw [trimB_bl _ _ hb, ih]
      unfold toksOf
      rw [List.filter_cons, hb]; rfl
theorem sep_append : ∀ (l m : List (List UInt8)) (e : List UInt8), sep (l ++ m) e = (sep l (m.flatten ++ e) && sep m e)
  | [], m, e => by simp [sep]
  | p :: l, m, e => by
    rw [List.cons_append, sep, sep, sep_append l m e, List.flatten_append, List.append_assoc, Bool.and_assoc]
theorem sep_head : ∀ (l : List (List UInt8)) (e f : List UInt8), e.head? = f.head? → sep l e = sep l f
  | [], _, _, _ => rfl
  | p :: l, e, f, h => by
    rw [sep, sep, sep_head l e f h, List.head?_append, List.head?_append, h]
theorem tw_self {p : UInt8 → Bool} : ∀ {l : List UInt8}, l.all p = true → l.takeWhile p = l
  | [], _ => rfl
  | a :: l, h => by
    rw [List.all_cons, Bool.and_eq_true] at h
    rw [List.takeWhile_cons, if_pos h.1, tw_self h.2]
/-- A number of digits is a token. -/
theorem numTok {t : Tok} (h0 : t ≠ []) (h : t.all isD = true) (h9 : t.length ≤ 9) : tokB t = true := by
  have hp := List.length_pos_iff.2 h0
  have h1 : t.takeWhile isD = t := tw_self h
  cases t with
  | nil => exact absurd rfl h0
  | cons c t =>
    unfold tokB
    rw [Bool.and_eq_true, decide_eq_true_iff]
    refine ⟨?_, rfl⟩
    rw [List.all_cons, Bool.and_eq_true] at h
    rw [tokLen_cons, if_pos h.1]
    unfold numLen
    simp only [h1, List.drop_length]
    rw [if_neg (by simp; simpa using h9)]
    simp
end Go.Proofs.YtfocokjihbenmaaGreatDoor.Fo
namespace Go.Proofs.YtfocokjihbenmaaGreatDoor.Fo

theorem next_len {s : List Tok} {l : List Tok} {o : Tok} {r : List Tok} (h : next s l = some (o, r)) : l.length = r.length + 1 := by rw [(next_le h).1]; rfl
theorem G_rl : ∀ (n k : Nat) (x : T) (l : List Tok) (b : Bool), (G n k x l b).r.length ≤ l.length
  | 0, _, _, _, _ => Nat.le_refl _
  | n + 1, k, x, l, b => by
    by_cases h2 : k = 2
    · subst h2; rw [G_2]
      have h1 := G_rl n 3 .bad l b
      split
      · rename_i o r h
        have h3 := G_rl n 3 .bad r (G n 3 .bad l b).b
        have h4 := next_len h
        simp only; omega
      · exact h1
    by_cases h6 : k = 6
    · subst h6; rw [G_6]
      split
      · rename_i o r h
        have h3 := G_rl n 6 .bad r b
        have h4 := next_len h
        simp only; omega
      · exact G_rl n 7 .bad l b
    by_cases h7 : k = 7
    · subst h7; rw [G_7]
      have h1 := G_rl n 8 .bad l b
      split
      · rename_i o r h
        have h3 := G_rl n 6 .bad r (G n 8 .bad l b).b
        have h4 := next_len h
        simp only; omega
      · exact h1
    by_cases h8 : k = 8
    · subst h8
      cases l with
      | nil => exact Nat.le_refl _
      | cons t l =>
        cases ht : isNum t
        · by_cases hp : t = [40]
          · subst hp; rw [G_8p]
            have h1 := G_rl n 0 .bad l b
            split
            · rename_i o r h
              have h4 := next_len h
              simp only [List.length_cons]; omega
            · simp only [List.length_cons]; omega
          · rw [G_8x _ _ _ _ _ ht hp]; exact Nat.le_refl _
        · rw [G_8d _ _ _ _ _ ht]; simp
    by_cases h : k < 10
    · rw [G_lv n k x l b h h2 h6 h7 h8]
      have h1 := G_rl n (k + 1) .bad l b
      have h3 := G_rl n (10 + k) (G n (k + 1) .bad l b).t (G n (k + 1) .bad l b).r (G n (k + 1) .bad l b).b
      omega
    · obtain ⟨j, rfl⟩ : ∃ j, k = 10 + j := ⟨k - 10, by omega⟩
      rw [G_lp]
      split
      · rename_i o r h
        have h4 := next_len h
        have h1 := G_rl n (j + 1) .bad r b
        have h3 := G_rl n (10 + j) (.bin o x (G n (j + 1) .bad r b).t) (G n (j + 1) .bad r b).r (G n (j + 1) .bad r b).b
        omega
      · exact Nat.le_refl _
/-- What is enough for a rule. -/
def need (k : Nat) (l : List Tok) : Nat := 20 * l.length + (if k < 10 then 10 - k else 1)
theorem G_fuel : ∀ (n m k : Nat) (x : T) (l : List Tok) (b : Bool), k ≠ 9 → need k l ≤ n → need k l ≤ m → G n k x l b = G m k x l b
  | 0, m, k, x, l, b, h9, h, _ => by
    unfold need at h; split at h <;> omega
  | n + 1, 0, k, x, l, b, h9, _, h => by
    unfold need at h; split at h <;> omega
  | n + 1, m + 1, k, x, l, b, h9, hn, hm => by
    unfold need at hn hm
    by_cases h2 : k = 2
    · subst h2; rw [G_2, G_2]
      simp only [show (2 : Nat) < 10 by decide, if_true] at hn hm
      rw [G_fuel n m 3 .bad l b (by decide) (by unfold need; simp; omega) (by unfold need; simp; omega)]
      have h1 := G_rl m 3 .bad l b
      split
      · rename_i o r h
        have h4 := next_len h
        rw [G_fuel n m 3 .bad r _ (by decide) (by unfold need; simp; omega) (by unfold need; simp; omega)]
      · rfl
    by_cases h6 : k = 6
    · subst h6; rw [G_6, G_6]
      simp only [show (6 : Nat) < 10 by decide, if_true] at hn hm
      split
      · rename_i o r h
        have h4 := next_len h
        rw [G_fuel n m 6 .bad r _ (by decide) (by unfold need; simp; omega) (by unfold need; simp; omega)]
      · exact G_fuel n m 7 .bad l b (by decide) (by unfold need; simp; omega) (by unfold need; simp; omega)
    by_cases h7 : k = 7
    · subst h7; rw [G_7, G_7]
      simp only [show (7 : Nat) < 10 by decide, if_true] at hn hm
      rw [G_fuel n m 8 .bad l b (by decide) (by unfold need; simp; omega) (by unfold need; simp; omega)]
      have h1 := G_rl m 8 .bad l b
      split
      · rename_i o r h
        have h4 := next_len h
        rw [G_fuel n m 6 .bad r _ (by decide) (by unfold need; simp; omega) (by unfold need; simp; omega)]
      · rfl
    by_cases h8 : k = 8
    · subst h8
      simp only [show (8 : Nat) < 10 by decide, if_true] at hn hm
      cases l with
      | nil => rfl
      | cons t l =>
        cases ht : isNum t
        · by_cases hp : t = [40]
          · subst hp; rw [G_8p, G_8p]
            simp only [List.length_cons] at hn hm
            rw [G_fuel n m 0 .bad l b (by decide) (by unfold need; simp; omega) (by unfold need; simp; omega)]
          · rw [G_8x _ _ _ _ _ ht hp, G_8x _ _ _ _ _ ht hp]
        · rw [G_8d _ _ _ _ _ ht, G_8d _ _ _ _ _ ht]
    by_cases h : k < 10
    · rw [G_lv n k x l b h h2 h6 h7 h8, G_lv m k x l b h h2 h6 h7 h8]
      rw [if_pos h] at hn hm
      have hk : k + 1 < 10 := by omega
      rw [G_fuel n m (k + 1) .bad l b (by omega) (by unfold need; rw [if_pos hk]; omega) (by unfold need; rw [if_pos hk]; omega)]
      have h1 := G_rl m (k + 1) .bad l b
      have hk2 : ¬ 10 + k < 10 := by omega
      exact G_fuel n m (10 + k) _ _ _ (by omega) (by unfold need; rw [if_neg hk2]; omega) (by unfold need; rw [if_neg hk2]; omega)
    · obtain ⟨j, rfl⟩ : ∃ j, k = 10 + j := ⟨k - 10, by omega⟩
      rw [G_lp, G_lp]
      rw [if_neg h] at hn hm
      split
      · rename_i o r hq
        have h4 := next_len hq
        by_cases hj : j = 8
        · exfalso; subst hj; exact absurd (next_le hq).2 (by unfold ops; simp)
        have hnd : need (j + 1) r ≤ 20 * r.length + 10 := by unfold need; split <;> omega
        rw [G_fuel n m (j + 1) .bad r b (by omega) (by omega) (by omega)]
        have h1 := G_rl m (j + 1) .bad r b
        exact G_fuel n m (10 + j) _ _ _ (by omega) (by unfold need; rw [if_neg h]; omega) (by unfold need; rw [if_neg h]; omega)
      · rfl
/-- So many parentheses are open ahead of these tokens, and all are closed behind them. -/
def bal : Nat → List Tok → Bool
  | d, [] => d == 0
  | d, t :: l => if t = [40] then bal (d + 1) l else if t = [41] then (match d with
    | 0 => false
    | d + 1 => bal d l) else bal d l
theorem bal_p (d : Nat) (l : List Tok) : bal d ([40] :: l) = bal (d + 1) l := rfl
theorem bal_q (d : Nat) (l : List Tok) : bal (d + 1) ([41] :: l) = bal d l := rfl
theorem bal_q0 (l : List Tok) : bal 0 ([41] :: l) = false := rfl
theorem bal_o {t : Tok} (h1 : t ≠ [40]) (h2 : t ≠ [41]) (d : Nat) (l : List Tok) : bal d (t :: l) = bal d l := by
  cases d <;> simp [bal, h1, h2]
theorem bal_app : ∀ (l m : List Tok) (c d : Nat), bal c l = true → bal d m = true → bal (c + d) (l ++ m) = true
  | [], m, c, d, h, h2 => by
    have : c = 0 := by simpa [bal] using h
    subst this; rw [Nat.zero_add]; exact h2
  | t :: l, m, c, d, h, h2 => by
    rw [List.cons_append]
    by_cases hp : t = [40]
    · subst hp; rw [bal_p] at h ⊢
      have := bal_app l m (c + 1) d h h2
      rwa [show c + 1 + d = c + d + 1 by omega] at this
    · by_cases hq : t = [41]
      · subst hq
        cases c with
        | zero => cases h
        | succ c =>
          rw [bal_q] at h
          rw [show c + 1 + d = c + d + 1 by omega, bal_q]
          exact bal_app l m c d h h2
      · rw [bal_o hp hq] at h ⊢
        exact bal_app l m c d h h2
theorem next_end {s : List Tok} (h : [41] ∉ s) (l : List Tok) : next s (l ++ [[41]]) = (next s l).map fun y => (y.1, y.2 ++ [[41]]) := by
  cases l with
  | nil =>
    show (if ([41] : Tok) ∈ s then _ else _) = _
    rw [if_neg h]; rfl
  | cons t l =>
    show (if t ∈ s then _ else _) = Option.map _ (if t ∈ s then _ else _)
    by_cases ht : t ∈ s
    · rw [if_pos ht, if_pos ht]; rfl
    · rw [if_neg ht, if_neg ht]; rfl
theorem next_bal {s : List Tok} (h0 : [40] ∉ s) (h : [41] ∉ s) {d : Nat} {l : List Tok} {o : Tok} {r : List Tok} (hn : next s l = some (o, r)) (hb : bal d l = true) : bal d r = true := by
  obtain ⟨rfl, ho⟩ := next_le hn
  rwa [bal_o (fun e => h0 (e ▸ ho)) (fun e => h (e ▸ ho))] at hb
/-- With one more closing parenthesis behind: the same reading, or a fault in both. -/
def Sm (d : Nat) (g q : Res) : Prop := (g.b = false ∧ q = ⟨g.t, g.r ++ [[41]], false⟩ ∧ bal d g.r = true) ∨ (g.b = true ∧ q.b = true)
theorem G_end : ∀ (n k d : Nat) (x : T) (l : List Tok), bal d l = true → Sm d (G n k x l false) (G n k x (l ++ [[41]]) false)
  | 0, k, d, x, l, _ => .inr ⟨rfl, rfl⟩
  | n + 1, k, d, x, l, hb => by
    by_cases h2 : k = 2
    · subst h2; rw [G_2, G_2]
      rcases G_end n 3 d .bad l hb with ⟨h1, h3, h4⟩ | ⟨h1, h3⟩
      · rw [h3, h1]; simp only
        rw [next_end (by decide)]
        cases hq : next cmps (G n 3 .bad l false).r with
        | none => exact .inl ⟨h1, rfl, h4⟩
        | some y =>
          obtain ⟨o, r⟩ := y
          have h5 := next_bal (by decide) (by decide) hq h4
          rcases G_end n 3 d .bad r h5 with ⟨h6, h7, h8⟩ | ⟨h6, h7⟩
          · exact .inl ⟨h6, by simp only [Option.map_some, h7], h8⟩
          · exact .inr ⟨h6, h7⟩
      · rw [h1, h3]
        refine .inr ⟨?_, ?_⟩
        · split
          · exact G_bad _ _ _ _
          · exact h1
        · split
          · exact G_bad _ _ _ _
          · exact h3
    by_cases h6 : k = 6
    · subst h6; rw [G_6, G_6, next_end (by decide)]
      cases hq : next uns l with
      | none => exact G_end n 7 d .bad l hb
      | some y =>
        obtain ⟨o, r⟩ := y
        have h5 := next_bal (by decide) (by decide) hq hb
        rcases G_end n 6 d .bad r h5 with ⟨h6, h7, h8⟩ | ⟨h6, h7⟩
        · exact .inl ⟨h6, by simp only [Option.map_some, h7], h8⟩
        · exact .inr ⟨h6, h7⟩
    by_cases h7 : k = 7
    · subst h7; rw [G_7, G_7]
      rcases G_end n 8 d .bad l hb with ⟨h1, h3, h4⟩ | ⟨h1, h3⟩
      · rw [h3, h1]; simp only
        rw [next_end (by decide)]
        cases hq : next [[94]] (G n 8 .bad l false).r with
        | none => exact .inl ⟨h1, rfl, h4⟩
        | some y =>
          obtain ⟨o, r⟩ := y
          have h5 := next_bal (by decide) (by decide) hq h4
          rcases G_end n 6 d .bad r h5 with ⟨h6, h7, h8⟩ | ⟨h6, h7⟩
          · exact .inl ⟨h6, by simp only [Option.map_some, h7], h8⟩
          · exact .inr ⟨h6, h7⟩
      · rw [h1, h3]
        refine .inr ⟨?_, ?_⟩
        · split
          · exact G_bad _ _ _ _
          · exact h1
        · split
          · exact G_bad _ _ _ _
          · exact h3
    by_cases h8 : k = 8
    · subst h8
      cases l with
      | nil => exact .inr ⟨rfl, rfl⟩
      | cons t l =>
        rw [List.cons_append]
        cases ht : isNum t
        · by_cases hp : t = [40]
          · subst hp; rw [G_8p, G_8p]
            rw [bal_p] at hb
            rcases G_end n 0 (d + 1) .bad l hb with ⟨h1, h3, h4⟩ | ⟨h1, h3⟩
            · rw [h3, h1]; simp only
              cases hr : (G n 0 .bad l false).r with
              | nil => rw [hr] at h4; cases h4
              | cons u r =>
                rw [hr] at h4
                rw [List.cons_append]
                by_cases hu : u = [41]
                · subst hu
                  rw [bal_q] at h4
                  exact .inl ⟨rfl, rfl, h4⟩
                · have e : ∀ m, next [[41]] (u :: m) = none := fun m => by
                    show (if u ∈ [[41]] then _ else _) = _
                    rw [if_neg (by simpa using hu)]
                  rw [e, e]
                  exact .inr ⟨rfl, rfl⟩
            · rw [h1, h3]
              refine .inr ⟨?_, ?_⟩
              · split <;> rfl
              · split <;> rfl
          · rw [G_8x _ _ _ _ _ ht hp, G_8x _ _ _ _ _ ht hp]; exact .inr ⟨rfl, rfl⟩
        · rw [G_8d _ _ _ _ _ ht, G_8d _ _ _ _ _ ht]
          refine .inl ⟨rfl, rfl, ?_⟩
          rwa [bal_o (by rintro rfl; simp [isNum, Nu.isD] at ht) (by rintro rfl; simp [isNum, Nu.isD] at ht)] at hb
    by_cases h : k < 10
    · rw [G_lv n k x l false h h2 h6 h7 h8, G_lv n k x _ false h h2 h6 h7 h8]
      rcases G_end n (k + 1) d .bad l hb with ⟨h1, h3, h4⟩ | ⟨h1, h3⟩
      · rw [h3, h1]; exact G_end n (10 + k) d _ _ h4
      · rw [h1, h3]; exact .inr ⟨G_bad _ _ _ _, G_bad _ _ _ _⟩
    · obtain ⟨j, rfl⟩ : ∃ j, k = 10 + j := ⟨k - 10, by omega⟩
      have o1 : [41] ∉ ops j := by unfold ops; split <;> decide
      have o2 : [40] ∉ ops j := by unfold ops; split <;> decide
      rw [G_lp, G_lp, next_end o1]
      cases hq : next (ops j) l with
      | none => exact .inl ⟨rfl, rfl, hb⟩
      | some y =>
        obtain ⟨o, r⟩ := y
        have h5 := next_bal o2 o1 hq hb
        rcases G_end n (j + 1) d .bad r h5 with ⟨h6, h7, h8⟩ | ⟨h6, h7⟩
        · simp only [Option.map_some, h6, h7]
          exact G_end n (10 + j) d _ _ h8
        · simp only [Option.map_some, h6, h7]
          exact .inr ⟨G_bad _ _ _ _, G_bad _ _ _ _⟩
end Go.Proofs.YtfocokjihbenmaaGreatDoor.Fo
namespace Go.Proofs.YtfocokjihbenmaaGreatDoor.Fo
open Go.Proofs.YtfocokjihbenmaaGreatDoor.Nu

/-- A result is either a number, or an error alone. -/
def cln (r : R3) : Prop := r.e = 0 ∨ r = ⟨0, 0, r.e⟩
theorem fit_cln (n d : Int) : cln (fit n d) := by unfold fit; split; exact .inl rfl; exact .inr rfl
theorem ite_cln {c : Prop} [Decidable c] {a b : R3} (ha : cln a) (hb : cln b) : cln (if c then a else b) := by split; exact ha; exact hb
theorem err_cln (e : Int) : cln ⟨0, 0, e⟩ := .inr rfl
theorem tr_cln (b : Bool) : cln (tr b) := by cases b; exact .inl rfl; exact .inl rfl
theorem add_cln (a p b q : Int) : cln (add a p b q) := ite_cln (fit_cln _ _) (err_cln _)
theorem sub_cln (a p b q : Int) : cln (sub a p b q) := ite_cln (fit_cln _ _) (err_cln _)
theorem mul_cln (a p b q : Int) : cln (mul a p b q) := ite_cln (fit_cln _ _) (err_cln _)
theorem div_cln (a p b q : Int) : cln (div a p b q) := ite_cln (ite_cln (err_cln _) (fit_cln _ _)) (err_cln _)
theorem mod_cln (a p b q : Int) : cln (mod a p b q) := ite_cln (ite_cln (err_cln _) (fit_cln _ _)) (err_cln _)
theorem rnd_cln (n d k : Int) : cln (rnd n d k) := ite_cln (ite_cln (fit_cln _ _) (err_cln _)) (err_cln _)
theorem pwr_cln (a : R3) : ∀ k, cln (pwr a k)
  | 0 => .inl rfl
  | k + 1 => by
    unfold pwr
    have := pwr_cln a k
    by_cases h : (pwr a k).e = 0
    · simp only [if_pos h]; exact mul_cln _ _ _ _
    · simp only [if_neg h]; exact this
theorem ap1_cln (o : Tok) {a : R3} (h : cln a) : cln (ap1 o a) := ite_cln (sub_cln _ _ _ _) (ite_cln (tr_cln _) (ite_cln (.inl rfl) h))
theorem ap2_cln (o : Tok) (a c : R3) : cln (ap2 o a c) :=
  ite_cln (add_cln _ _ _ _) (ite_cln (sub_cln _ _ _ _) (ite_cln (mul_cln _ _ _ _) (ite_cln (div_cln _ _ _ _) (ite_cln (mod_cln _ _ _ _) (ite_cln (ite_cln (rnd_cln _ _ _) (err_cln _))
    (ite_cln (ite_cln (pwr_cln _ _) (err_cln _)) (ite_cln (tr_cln _) (ite_cln (tr_cln _) (tr_cln _)))))))))
theorem pbody_cln (g : Bool) (l : List UInt8) : cln (pbody g l) := by
  unfold pbody; exact ite_cln (fit_cln _ _) (err_cln _)
theorem parse_cln (l : List UInt8) : cln (parse l) := ite_cln (pbody_cln _ _) (ite_cln (pbody_cln _ _) (pbody_cln _ _))
theorem val_cln : ∀ x : T, cln (val x)
  | .bad => err_cln _
  | .num s => parse_cln s
  | .un o x => ite_cln (ap1_cln o (val_cln x)) (err_cln _)
  | .bin o _ _ => ite_cln (ite_cln (ap2_cln o _ _) (err_cln _)) (err_cln _)
theorem val_par (x : T) : val (.un [40] x) = val x := by
  show (if (val x).e = 0 then ap1 [40] (val x) else _) = _
  by_cases h : (val x).e = 0
  · rw [if_pos h]; rfl
  · rw [if_neg h]
    rcases val_cln x with h2 | h2
    · exact absurd h2 h
    · exact h2.symm
theorem up_ok {n k : Nat} {u : T} {L : List Tok} (hk : k < 10) (h2 : k ≠ 2) (h6 : k ≠ 6) (h7 : k ≠ 7) (h8 : k ≠ 8) (h : G (n + 1) (k + 1) .bad L false = ⟨u, [], false⟩) : G (n + 1 + 1) k .bad L false = ⟨u, [], false⟩ := by
  rw [G_lv _ _ _ _ _ hk h2 h6 h7 h8, h]
  simp only
  rw [G_lp]; rfl
theorem up_bad {n k : Nat} {L : List Tok} (hk : k < 10) (h2 : k ≠ 2) (h6 : k ≠ 6) (h7 : k ≠ 7) (h8 : k ≠ 8) (h : (G n (k + 1) .bad L false).b = true) : (G (n + 1) k .bad L false).b = true := by
  rw [G_lv _ _ _ _ _ hk h2 h6 h7 h8, h]
  exact G_bad _ _ _ _
theorem uns_par (l : List Tok) : next uns ([40] :: l) = none := rfl
theorem par_ok {n : Nat} {u : T} {l : List Tok} (h : G (n + 1) 8 .bad ([40] :: l) false = ⟨u, [], false⟩) : G (n + 9) 0 .bad ([40] :: l) false = ⟨u, [], false⟩ := by
  have a7 : G (n + 2) 7 .bad ([40] :: l) false = ⟨u, [], false⟩ := by rw [G_7, h]; rfl
  have a6 : G (n + 3) 6 .bad ([40] :: l) false = ⟨u, [], false⟩ := by rw [G_6, uns_par]; exact a7
  have a5 := up_ok (k := 5) (by decide) (by decide) (by decide) (by decide) (by decide) a6
  have a4 := up_ok (k := 4) (by decide) (by decide) (by decide) (by decide) (by decide) a5
  have a3 := up_ok (k := 3) (by decide) (by decide) (by decide) (by decide) (by decide) a4
  have a2 : G (n + 7) 2 .bad ([40] :: l) false = ⟨u, [], false⟩ := by rw [G_2, a3]; rfl
  have a1 := up_ok (k := 1) (by decide) (by decide) (by decide) (by decide) (by decide) a2
  exact up_ok (k := 0) (by decide) (by decide) (by decide) (by decide) (by decide) a1
theorem par_bad {n : Nat} {l : List Tok} (h : (G (n + 1) 8 .bad ([40] :: l) false).b = true) : (G (n + 9) 0 .bad ([40] :: l) false).b = true := by
  have a7 : (G (n + 2) 7 .bad ([40] :: l) false).b = true := by
    rw [G_7]; split
    · rw [h]; exact G_bad _ _ _ _
    · exact h
  have a6 : (G (n + 3) 6 .bad ([40] :: l) false).b = true := by rw [G_6, uns_par]; exact a7
  have a5 := up_bad (k := 5) (by decide) (by decide) (by decide) (by decide) (by decide) a6
  have a4 := up_bad (k := 4) (by decide) (by decide) (by decide) (by decide) (by decide) a5
  have a3 := up_bad (k := 3) (by decide) (by decide) (by decide) (by decide) (by decide) a4
  have a2 : (G (n + 7) 2 .bad ([40] :: l) false).b = true := by
    rw [G_2]; split
    · rw [a3]; exact G_bad _ _ _ _
    · exact a3
  have a1 := up_bad (k := 1) (by decide) (by decide) (by decide) (by decide) (by decide) a2
  exact up_bad (k := 0) (by decide) (by decide) (by decide) (by decide) (by decide) a1
theorem top_par (l : List Tok) (hb : bal 0 l = true) :
    ((top l).b = false ∧ (top l).r = [] ∧ top ([40] :: (l ++ [[41]])) = ⟨.un [40] (top l).t, [], false⟩) ∨ (¬((top l).b = false ∧ (top l).r = []) ∧ (top ([40] :: (l ++ [[41]]))).b = true) := by
  have hf : fuel ([40] :: (l ++ [[41]])) = 20 * l.length + 51 + 9 := by unfold fuel; simp; omega
  have hn : G (20 * l.length + 51) 0 .bad l false = top l := G_fuel _ _ _ _ _ _ (by decide) (by unfold need; simp) (by unfold need fuel; simp)
  have he := G_end (20 * l.length + 51) 0 0 .bad l hb
  rw [hn] at he
  unfold top at *
  rw [hf]
  generalize 20 * l.length + 51 = N at *
  rcases he with ⟨h1, h3, h4⟩ | ⟨h1, h3⟩
  · cases hr : (G (fuel l) 0 .bad l false).r with
    | nil =>
      refine .inl ⟨h1, rfl, ?_⟩
      refine par_ok ?_
      rw [G_8p, h3, hr]; rfl
    | cons u r =>
      refine .inr ⟨fun h => List.cons_ne_nil _ _ h.2, ?_⟩
      refine par_bad ?_
      rw [G_8p, h3, hr]
      rw [hr] at h4
      have hu : u ≠ [41] := by rintro rfl; cases h4
      have e : next [[41]] ((u :: r) ++ [[41]]) = none := by
        show (if u ∈ [[41]] then _ else _) = _
        rw [if_neg (by simpa using hu)]
      simp only [e]
  · refine .inr ⟨fun h => Bool.noConfusion (h1.symm.trans h.1), ?_⟩
    refine par_bad ?_
    rw [G_8p, h3]
    split <;> rfl
theorem T_lv_top (l : List Tok) : (top l).t.lv ≤ l.length := by
  have h1 := G_sz (fuel l) 0 .bad l false
  have h2 := T.lv_sz (top l).t
  unfold top at *
  simp only [T.sz] at h1
  omega
theorem evT_par (l : List Tok) (hb : bal 0 l = true) (hl : l.length ≤ 19) : evT ([40] :: (l ++ [[41]])) = evT l := by
  have hv := T_lv_top l
  unfold evT
  rcases top_par l hb with ⟨h1, h2, h3⟩ | ⟨h1, h2⟩
  · rw [h3, if_pos ⟨rfl, rfl⟩]
    have hv2 : ¬ 20 < (T.un [40] (top l).t).lv := by show ¬ 20 < (top l).t.lv + 1; omega
    rw [if_neg hv2, if_pos ⟨h1, h2⟩, if_neg (by omega)]
    exact val_par _
  · rw [if_neg h1, if_neg (by rw [h2]; simp)]
theorem ev_split {s : List UInt8} {l : List Tok} (h : s.length ≤ 400) (h2 : splitL s = some l) : ev s = evT l := by
  unfold ev; rw [if_neg (by omega), h2]
/-- Pieces, and what stands around them. -/
structure Txt (l : List (List UInt8)) : Prop where
  len : l.flatten.length ≤ 390
  sp : ∀ h : List UInt8, (h.head? = none ∨ h.head? = some 41 ∨ h.head? = some 9) → sep l h = true
  bl : bal 0 (toksOf l) = true
  few : (toksOf l).length ≤ 19
theorem Txt.ev {l : List (List UInt8)} (h : Txt l) : ev l.flatten = evT (toksOf l) := by
  have h1 := toks_sep l [] (h.sp [] (.inl rfl)) rfl
  rw [List.append_nil] at h1
  exact ev_split (by have := h.len; omega) h1
theorem Txt.blanks {l : List (List UInt8)} (h : Txt l) : Fo.ev ([32, 10] ++ l.flatten ++ [9, 32]) = Fo.ev l.flatten := by
  have h1 := toks_sep ([32, 10] :: l) [9, 32] (by
    show ((blB [32, 10] || (tokB [32, 10] && endOk [32, 10] (l.flatten ++ [9, 32]).head?)) && sep l [9, 32]) = true
    rw [h.sp [9, 32] (.inr (.inr rfl))]; rfl) rfl
  rw [h.ev]
  have h2 : toksOf ([32, 10] :: l) = toksOf l := rfl
  rw [h2, List.flatten_cons] at h1
  exact ev_split (by have := h.len; simp at *; omega) h1
theorem Txt.paren {l : List (List UInt8)} (h : Txt l) : Fo.ev ([40] ++ l.flatten ++ [41]) = Fo.ev l.flatten := by
  have hs : sep ([40] :: (l ++ [[41]])) [] = true := by
    show ((blB [40] || (tokB [40] && endOk [40] ((l ++ [[41]]).flatten ++ []).head?)) && sep (l ++ [[41]]) []) = true
    rw [sep_append, h.sp _ (.inr (.inl rfl)), end_sym (by decide) (by decide) (by decide) (by decide)]; rfl
  have h1 := toks_sep _ [] hs rfl
  have h2 : toksOf ([40] :: (l ++ [[41]])) = [40] :: (toksOf l ++ [[41]]) := by
    show [40] :: toksOf (l ++ [[41]]) = _
    unfold toksOf
    rw [List.filter_append]; rfl
  rw [h2, List.append_nil] at h1
  have h3 : ([40] :: (l ++ [[41]])).flatten = [40] ++ l.flatten ++ [41] := by simp
  rw [h3] at h1
  rw [h.ev, ev_split (by have := h.len; simp at *; omega) h1]
  exact evT_par _ h.bl h.few
end Go.Proofs.YtfocokjihbenmaaGreatDoor.Fo

namespace Go.Proofs.YtfocokjihbenmaaGreatDoor.Fo
open Go.Proofs.YtfocokjihbenmaaGreatDoor.Nu

def nums : List (List UInt8) := [[49], [50], [48], [51, 46, 53], [49, 48], [48, 46, 50, 53], [55], [49, 48, 48, 48, 48, 48], [57, 57, 57, 57, 57, 57, 57, 57, 57], [49, 46, 48, 48, 48, 48, 48, 48, 48, 48, 49]]
def presP : List (List (List UInt8)) := [[[45]], [[43]], [[110, 111, 116], [32]], [[102, 108, 111, 111, 114], [32]]]
def binsP : List (List (List UInt8)) := [[[43]], [[45]], [[42]], [[47]], [[32], [109, 111, 100], [32]], [[94]], [[32], [61], [32]], [[60, 62]], [[60]], [[62], [32]], [[60, 61]], [[62, 61]],
  [[32], [97, 110, 100], [32]], [[32], [111, 114], [32]], [[32], [114, 111, 117, 110, 100], [32]]]
def pres : List (List UInt8) := presP.map List.flatten
def bins : List (List UInt8) := binsP.map List.flatten
def starts : List UInt8 := [48, 49, 50, 51, 52, 53, 54, 55, 56, 57, 40, 45, 43, 110, 102]
def ens : List UInt8 := [9, 10, 32, 41, 43, 45, 42, 47, 94, 61, 60, 62]
def endB : Option UInt8 → Bool
  | none => true
  | some x => decide (x ∈ ens)
structure Fm (c n : Nat) (ps : List (List UInt8)) : Prop where
  len : ps.flatten.length ≤ n
  few : (toksOf ps).length ≤ c
  bl : bal 0 (toksOf ps) = true
  hd : ∃ x, ps.flatten.head? = some x ∧ x ∈ starts
  sp : ∀ e, endB e.head? = true → sep ps e = true
theorem toksOf_app (l m : List (List UInt8)) : toksOf (l ++ m) = toksOf l ++ toksOf m := by unfold toksOf; rw [List.filter_append]
theorem Fm.le {c n c' n' : Nat} {ps : List (List UInt8)} (h : Fm c n ps) (h1 : c ≤ c') (h2 : n ≤ n') : Fm c' n' ps := ⟨Nat.le_trans h.len h2, Nat.le_trans h.few h1, h.bl, h.hd, h.sp⟩
theorem sep_at {ps : List (List UInt8)} {ok : UInt8 → Prop} (h0 : sep ps [] = true) (h1 : ∀ x, ok x → sep ps [x] = true) (e : List UInt8) (he : ∀ x, e.head? = some x → ok x) : sep ps e = true := by
  cases e with
  | nil => exact h0
  | cons x e => rw [sep_head ps (x :: e) [x] rfl]; exact h1 x (he x rfl)
theorem nums_tok : ∀ x ∈ nums, x.length ≤ 11 ∧ toksOf [x] = [x] ∧ bal 0 [x] = true ∧ (match x.head? with | some y => decide (y ∈ starts) | none => false) = true ∧ sep [x] [] = true ∧ ∀ y ∈ ens, sep [x] [y] = true := by decide +kernel
theorem Fm.num {x : List UInt8} (h : x ∈ nums) : Fm 1 11 [x] := by
  obtain ⟨h1, h2, h3, h4, h5, h6⟩ := nums_tok x h
  have e : [x].flatten = x := by simp
  refine ⟨by rw [e]; exact h1, by rw [h2]; exact Nat.le_refl _, by rw [h2]; exact h3, ?_, fun u hu => sep_at h5 (ok := (· ∈ ens)) h6 u fun y hy => ?_⟩
  · rw [e]
    cases hx : x.head? with
    | none => rw [hx] at h4; cases h4
    | some y => rw [hx] at h4; exact ⟨y, rfl, by simpa using h4⟩
  · rw [hy] at hu; simpa [endB] using hu
theorem head_app {l m : List UInt8} {x : UInt8} (h : l.head? = some x) : (l ++ m).head? = some x := by
  cases l with
  | nil => cases h
  | cons a l => exact h
theorem Fm.par {c n : Nat} {ps : List (List UInt8)} (h : Fm c n ps) : Fm (c + 2) (n + 2) ([[40]] ++ ps ++ [[41]]) := by
  have e : ([[40]] ++ ps ++ [[41]]).flatten = [40] ++ ps.flatten ++ [41] := by simp
  have t : toksOf ([[40]] ++ ps ++ [[41]]) = [40] :: (toksOf ps ++ [[41]]) := by
    rw [toksOf_app, toksOf_app]; rfl
  refine ⟨?_, ?_, ?_, ⟨40, by rw [e]; rfl, by decide⟩, fun u hu => ?_⟩
  · rw [e, List.length_append, List.length_append]; have := h.len; show 1 + _ + 1 ≤ _; omega
  · rw [t]; have := h.few; simp; omega
  · rw [t, bal_p]
    exact bal_app (toksOf ps) [[41]] 0 1 h.bl rfl
  · rw [sep_append, sep_append]
    have h1 : sep ps ([[41]].flatten ++ u) = true := h.sp _ rfl
    have h2 : ∀ v, sep [[40]] v = true := fun v => by
      show ((blB [40] || (tokB [40] && endOk [40] ([].flatten ++ v).head?)) && true) = true
      rw [end_sym (by decide) (by decide) (by decide) (by decide)]; rfl
    have h3 : ∀ v, sep [[41]] v = true := fun v => by
      show ((blB [41] || (tokB [41] && endOk [41] ([].flatten ++ v).head?)) && true) = true
      rw [end_sym (by decide) (by decide) (by decide) (by decide)]; rfl
    rw [h1, h2, h3]; rfl
theorem presP_tok : ∀ p ∈ presP, p.flatten.length ≤ 6 ∧ (toksOf p).length = 1 ∧ bal 0 (toksOf p) = true ∧ (match p.flatten.head? with | some y => decide (y ∈ starts) | none => false) = true ∧ ∀ y ∈ starts, sep p [y] = true := by decide +kernel
/-- An operator between two formulas, with its blanks. -/
def Opr (p : List (List UInt8)) : Prop := p.flatten.length ≤ 7 ∧ (toksOf p).length = 1 ∧ bal 0 (toksOf p) = true ∧ (match p.flatten.head? with | some y => decide (y ∈ ens) | none => false) = true ∧ ∀ y ∈ starts, sep p [y] = true
instance (p : List (List UInt8)) : Decidable (Opr p) := by unfold Opr; infer_instance
theorem binsP_tok : ∀ p ∈ binsP, Opr p := by decide +kernel
theorem Fm.pre {c n : Nat} {p ps : List (List UInt8)} (hp : p ∈ presP) (h : Fm c n ps) : Fm (c + 1) (n + 6) (p ++ ps) := by
  obtain ⟨h1, h2, h3, h4, h5⟩ := presP_tok p hp
  obtain ⟨x, hx, hs⟩ := h.hd
  refine ⟨?_, ?_, ?_, ?_, fun u hu => ?_⟩
  · rw [List.flatten_append, List.length_append]; have := h.len; omega
  · rw [toksOf_app, List.length_append]; have := h.few; omega
  · rw [toksOf_app]; exact bal_app _ _ 0 0 h3 h.bl
  · cases hq : p.flatten.head? with
    | none => rw [hq] at h4; cases h4
    | some y => rw [hq] at h4; exact ⟨y, by rw [List.flatten_append]; exact head_app hq, by simpa using h4⟩
  · rw [sep_append, h.sp u hu, sep_head p _ [x] (head_app hx), h5 x hs]; rfl
theorem Fm.opr {c n d m : Nat} {p ps qs : List (List UInt8)} (h : Fm c n ps) (hp : Opr p) (k : Fm d m qs) : Fm (c + d + 1) (n + m + 7) (ps ++ p ++ qs) := by
  obtain ⟨h1, h2, h3, h4, h5⟩ := hp
  obtain ⟨x, hx, hs⟩ := k.hd
  obtain ⟨z, hz, hzs⟩ := h.hd
  refine ⟨?_, ?_, ?_, ⟨z, by rw [List.flatten_append, List.flatten_append]; exact head_app (head_app hz), hzs⟩, fun u hu => ?_⟩
  · rw [List.flatten_append, List.flatten_append, List.length_append, List.length_append]; have := h.len; have := k.len; omega
  · rw [toksOf_app, toksOf_app, List.length_append, List.length_append]; have := h.few; have := k.few; omega
  · rw [toksOf_app, toksOf_app]; exact bal_app _ _ 0 0 (bal_app _ _ 0 0 h.bl h3) k.bl
  · rw [sep_append, sep_append, k.sp u hu, sep_head p _ [x] (head_app hx), h5 x hs]
    have h6 : sep ps (p.flatten ++ (qs.flatten ++ u)) = true := by
      refine h.sp _ ?_
      cases hq : p.flatten.head? with
      | none => rw [hq] at h4; cases h4
      | some y => rw [hq] at h4; rw [head_app hq]; exact h4
    rw [h6]; rfl
theorem Fm.bin {c n d m : Nat} {p ps qs : List (List UInt8)} (h : Fm c n ps) (hp : p ∈ binsP) (k : Fm d m qs) : Fm (c + d + 1) (n + m + 7) (ps ++ p ++ qs) := h.opr (binsP_tok p hp) k
theorem Fm.txt {c n : Nat} {ps : List (List UInt8)} (h : Fm c n ps) (hc : c ≤ 19) (hn : n ≤ 390) : Txt ps :=
  ⟨Nat.le_trans h.len hn, fun e he => h.sp e (by rcases he with h | h | h <;> rw [h] <;> decide), h.bl, Nat.le_trans h.few hc⟩
/-- How many tokens and bytes. -/
def cB : Nat → Nat
  | 0 => 1
  | d + 1 => 2 * cB d + 1
def nB : Nat → Nat
  | 0 => 11
  | d + 1 => 2 * nB d + 7
theorem cB_pos : ∀ d, 1 ≤ cB d
  | 0 => Nat.le_refl _
  | d + 1 => by unfold cB; omega
theorem nB_pos : ∀ d, 11 ≤ nB d
  | 0 => Nat.le_refl _
  | d + 1 => by unfold nB; have := nB_pos d; omega
end Go.Proofs.YtfocokjihbenmaaGreatDoor.Fo

namespace Go.Proofs.YtfocokjihbenmaaGreatDoor.Fo
open Go.Proofs.YtfocokjihbenmaaGreatDoor.Nu

def T.map (f : Tok → Tok) : T → T
  | .bad => .bad
  | .num s => .num (f s)
  | .un o x => .un o (x.map f)
  | .bin o x y => .bin o (x.map f) (y.map f)
structure NumF (f : Tok → Tok) : Prop where
  keep : ∀ t, isNum t = false → f t = t
  num : ∀ t, isNum (f t) = isNum t
theorem next_map {f : Tok → Tok} (hf : NumF f) {s : List Tok} (hs : ∀ t ∈ s, isNum t = false) (l : List Tok) : next s (l.map f) = (next s l).map fun y => (y.1, y.2.map f) := by
  cases l with
  | nil => rfl
  | cons t l =>
    show (if f t ∈ s then _ else _) = Option.map _ (if t ∈ s then _ else _)
    by_cases ht : t ∈ s
    · have e := hf.keep t (hs t ht)
      rw [if_pos ht, e, if_pos ht]; rfl
    · have : f t ∉ s := fun h => by
        have h1 := hs _ h
        rw [hf.num] at h1
        rw [hf.keep t h1] at h
        exact ht h
      rw [if_neg ht, if_neg this]; rfl
theorem ops_num (k : Nat) : ∀ t ∈ ops k, isNum t = false := by unfold ops; split <;> decide
theorem cmps_num : ∀ t ∈ cmps, isNum t = false := by decide
theorem uns_num : ∀ t ∈ uns, isNum t = false := by decide
def Res.map (f : Tok → Tok) (g : Res) : Res := ⟨g.t.map f, g.r.map f, g.b⟩
theorem G_map {f : Tok → Tok} (hf : NumF f) : ∀ (n k : Nat) (x : T) (l : List Tok) (b : Bool), G n k (x.map f) (l.map f) b = (G n k x l b).map f
  | 0, _, _, _, _ => rfl
  | n + 1, k, x, l, b => by
    by_cases h2 : k = 2
    · subst h2; rw [G_2, G_2]
      have e : G n 3 .bad (l.map f) b = _ := G_map hf n 3 .bad l b
      rw [e]
      show (match next cmps ((G n 3 .bad l b).r.map f) with | some (o, r) => _ | none => _) = _
      rw [next_map hf cmps_num]
      cases next cmps (G n 3 .bad l b).r with
      | none => rfl
      | some y =>
        obtain ⟨o, r⟩ := y
        have e2 : ∀ c, G n 3 .bad (r.map f) c = _ := fun c => G_map hf n 3 .bad r c
        simp only [Option.map_some, Res.map] at e2 ⊢
        rw [e2]; rfl
    by_cases h6 : k = 6
    · subst h6; rw [G_6, G_6, next_map hf uns_num]
      cases next uns l with
      | none => exact G_map hf n 7 .bad l b
      | some y =>
        obtain ⟨o, r⟩ := y
        have e2 : ∀ c, G n 6 .bad (r.map f) c = _ := fun c => G_map hf n 6 .bad r c
        simp only [Option.map_some, Res.map] at e2 ⊢
        rw [e2]; rfl
    by_cases h7 : k = 7
    · subst h7; rw [G_7, G_7]
      have e : G n 8 .bad (l.map f) b = _ := G_map hf n 8 .bad l b
      rw [e]
      show (match next [[94]] ((G n 8 .bad l b).r.map f) with | some (o, r) => _ | none => _) = _
      rw [next_map hf (by decide)]
      cases next [[94]] (G n 8 .bad l b).r with
      | none => rfl
      | some y =>
        obtain ⟨o, r⟩ := y
        have e2 : ∀ c, G n 6 .bad (r.map f) c = _ := fun c => G_map hf n 6 .bad r c
        simp only [Option.map_some, Res.map] at e2 ⊢
        rw [e2]; rfl
    by_cases h8 : k = 8
    · subst h8
      cases l with
      | nil => rfl
      | cons t l =>
        rw [List.map_cons]
        cases ht : isNum t
        · rw [hf.keep t ht]
          by_cases hp : t = [40]
          · subst hp; rw [G_8p, G_8p]
            have e : G n 0 .bad (l.map f) b = _ := G_map hf n 0 .bad l b
            rw [e]
            show (match next [[41]] ((G n 0 .bad l b).r.map f) with | some (o, r) => _ | none => _) = _
            rw [next_map hf (by decide)]
            cases next [[41]] (G n 0 .bad l b).r with
            | none => rfl
            | some y => rfl
          · rw [G_8x _ _ _ _ _ ht hp, G_8x _ _ _ _ _ ht hp]
            show _ = (⟨_, List.map f (t :: l), _⟩ : Res)
            rw [List.map_cons, hf.keep t ht]; rfl
        · rw [G_8d _ _ _ _ _ ht, G_8d _ _ _ _ _ (by rw [hf.num, ht])]; rfl
    by_cases h : k < 10
    · rw [G_lv n k _ _ b h h2 h6 h7 h8, G_lv n k x l b h h2 h6 h7 h8]
      have e : G n (k + 1) .bad (l.map f) b = _ := G_map hf n (k + 1) .bad l b
      rw [e]
      exact G_map hf n (10 + k) _ _ _
    · obtain ⟨j, rfl⟩ : ∃ j, k = 10 + j := ⟨k - 10, by omega⟩
      rw [G_lp, G_lp, next_map hf (ops_num j)]
      cases next (ops j) l with
      | none => rfl
      | some y =>
        obtain ⟨o, r⟩ := y
        have e2 : ∀ c, G n (j + 1) .bad (r.map f) c = _ := fun c => G_map hf n (j + 1) .bad r c
        simp only [Option.map_some, Res.map] at e2 ⊢
        rw [e2]
        exact G_map hf n (10 + j) (.bin o x (G n (j + 1) .bad r b).t) _ _
theorem top_map {f : Tok → Tok} (hf : NumF f) (l : List Tok) : top (l.map f) = (top l).map f := by
  have e : fuel (l.map f) = fuel l := by unfold fuel; rw [List.length_map]
  unfold top
  rw [e]
  exact G_map hf (fuel l) 0 .bad l false
theorem lv_map (f : Tok → Tok) : ∀ x : T, (x.map f).lv = x.lv
  | .bad => rfl
  | .num _ => rfl
  | .un _ x => by show (x.map f).lv + 1 = _; rw [lv_map f x]; rfl
  | .bin _ x y => by show max (x.map f).lv (y.map f).lv + 1 = _; rw [lv_map f x, lv_map f y]; rfl
/-- Without its parentheses. -/
def T.strip : T → T
  | .bad => .bad
  | .num s => .num s
  | .un o x => if o = [40] then x.strip else .un o x.strip
  | .bin o x y => .bin o x.strip y.strip
theorem val_strip : ∀ x : T, val x.strip = val x
  | .bad => rfl
  | .num _ => rfl
  | .un o x => by
    unfold T.strip
    by_cases h : o = [40]
    · subst h; rw [if_pos rfl, val_strip x, val_par]
    · rw [if_neg h]; unfold val; rw [val_strip x]
  | .bin o x y => by unfold T.strip; unfold val; rw [val_strip x, val_strip y]
theorem strip_map (f : Tok → Tok) : ∀ x : T, (x.map f).strip = x.strip.map f
  | .bad => rfl
  | .num _ => rfl
  | .un o x => by
    show (if o = [40] then (x.map f).strip else .un o (x.map f).strip) = (if o = [40] then x.strip else .un o x.strip).map f
    rw [strip_map f x]
    split <;> rfl
  | .bin o x y => by
    show T.bin o (x.map f).strip (y.map f).strip = _
    rw [strip_map f x, strip_map f y]; rfl
def T.eq : T → T → Bool
  | .bad, .bad => true
  | .num s, .num t => decide (s = t)
  | .un o x, .un p y => decide (o = p) && x.eq y
  | .bin o x y, .bin p u v => decide (o = p) && x.eq u && y.eq v
  | _, _ => false
theorem T.eq_iff : ∀ {x y : T}, x.eq y = true → x = y
  | .bad, .bad, _ => rfl
  | .num s, .num t, h => by have : s = t := by simpa [T.eq] using h
                            rw [this]
  | .un o x, .un p y, h => by
    have : o = p ∧ x.eq y = true := by simpa [T.eq] using h
    rw [this.1, T.eq_iff this.2]
  | .bin o x y, .bin p u v, h => by
    have : (o = p ∧ x.eq u = true) ∧ y.eq v = true := by simpa [T.eq] using h
    rw [this.1.1, T.eq_iff this.1.2, T.eq_iff this.2]
/-- What the tokens are read as, up to parentheses. -/
def treeB (l : List Tok) (t : T) : Bool := !(top l).b && (top l).r.isEmpty && decide ((top l).t.lv ≤ 20) && (top l).t.strip.eq t
theorem evT_tree {f : Tok → Tok} (hf : NumF f) {l : List Tok} {t : T} (h : treeB l t = true) : evT (l.map f) = val (t.map f) := by
  unfold treeB at h
  rw [Bool.and_eq_true, Bool.and_eq_true, Bool.and_eq_true, decide_eq_true_iff] at h
  obtain ⟨⟨⟨h1, h2⟩, h3⟩, h4⟩ := h
  have h1 : (top l).b = false := by simpa using h1
  have h2 : (top l).r = [] := by simpa using h2
  have e := top_map hf l
  unfold evT
  rw [e]
  show (if (top l).b = false ∧ (top l).r.map f = [] then (if 20 < ((top l).t.map f).lv then _ else val ((top l).t.map f)) else _) = _
  rw [if_pos ⟨h1, by rw [h2]; rfl⟩, lv_map, if_neg (by omega), ← val_strip, strip_map, T.eq_iff h4]
/-- Three numbers in the place of the digits 1, 2 and 3. -/
def put (x y z : Tok) (t : Tok) : Tok := if t = [49] then x else if t = [50] then y else if t = [51] then z else t
theorem put_ok {x y z : Tok} (hx : isNum x = true) (hy : isNum y = true) (hz : isNum z = true) : NumF (put x y z) := by
  refine ⟨fun t ht => ?_, fun t => ?_⟩
  · unfold put
    rw [if_neg (by rintro rfl; revert ht; decide), if_neg (by rintro rfl; revert ht; decide), if_neg (by rintro rfl; revert ht; decide)]
  · unfold put
    by_cases h1 : t = [49]
    · subst h1; rw [if_pos rfl, hx]; decide
    by_cases h2 : t = [50]
    · subst h2; rw [if_neg (by decide), if_pos rfl, hy]; decide
    by_cases h3 : t = [51]
    · subst h3; rw [if_neg (by decide), if_neg (by decide), if_pos rfl, hz]; decide
    rw [if_neg h1, if_neg h2, if_neg h3]
/-- A number of digits, in parentheses and with its sign if it is negative. -/
def sgP (s : Bool) (x : Tok) : List (List UInt8) := if s then [[40]] ++ ([[45]] ++ [x]) ++ [[41]] else [x]
def sgT (s : Bool) (x : Tok) : T := if s then .un [45] (.num x) else .num x
structure Dgt (x : Tok) : Prop where
  ne : x ≠ []
  all : x.all isD = true
  le : x.length ≤ 9
theorem Dgt.num {x : Tok} (h : Dgt x) : isNum x = true := by
  have h1 := h.ne; have h2 := h.all
  cases x with
  | nil => exact absurd rfl h1
  | cons c x => rw [List.all_cons, Bool.and_eq_true] at h2; exact h2.1
theorem dig_start : ∀ c : UInt8, isD c = true → c ∈ starts ∧ isBl c = false := by
  intro c h
  have h : 48 ≤ c.toNat ∧ c.toNat ≤ 57 := by simpa [isD] using h
  have : ∀ n : Nat, n < 58 → 48 ≤ n → UInt8.ofNat n ∈ starts ∧ isBl (UInt8.ofNat n) = false := by decide
  have h2 := this c.toNat (by omega) h.1
  rwa [UInt8.ofNat_toNat] at h2
theorem Fm.dig {x : Tok} (h : Dgt x) : Fm 1 9 [x] ∧ toksOf [x] = [x] := by
  have h1 := h.ne; have h2 := h.all; have h3 := h.le
  have ht := numTok h1 h2 h3
  have e : [x].flatten = x := by simp
  cases x with
  | nil => exact absurd rfl h1
  | cons c x =>
    rw [List.all_cons, Bool.and_eq_true] at h2
    obtain ⟨s1, s2⟩ := dig_start c h2.1
    have hb : blB (c :: x) = false := by unfold blB; rw [List.all_cons, s2]; rfl
    have tk : toksOf [c :: x] = [c :: x] := by unfold toksOf; rw [List.filter_cons, hb]; rfl
    have hp : (c :: x) ≠ [40] := by rintro e; rw [List.cons.injEq] at e; rw [e.1] at h2; simp [isD] at h2
    have hq : (c :: x) ≠ [41] := by rintro e; rw [List.cons.injEq] at e; rw [e.1] at h2; simp [isD] at h2
    refine ⟨⟨by rw [e]; exact h3, by rw [tk]; exact Nat.le_refl _, by rw [tk, bal_o hp hq]; rfl, ⟨c, by rw [e]; rfl, s1⟩, fun u hu => ?_⟩, tk⟩
    show ((blB (c :: x) || (tokB (c :: x) && endOk (c :: x) ([].flatten ++ u).head?)) && true) = true
    rw [hb, ht]
    have : endOk (c :: x) ([].flatten ++ u).head? = true := by
      rw [endOk_cons, if_pos h2.1]
      show (stops isD u.head? && stops (· == 46) u.head?) = true
      cases hq : u.head? with
      | none => rfl
      | some y =>
        rw [hq] at hu
        have hy : y ∈ ens := by simpa [endB] using hu
        have : ∀ y ∈ ens, (stops isD (some y) && stops (· == 46) (some y)) = true := by decide
        exact this y hy
    rw [this]; rfl
theorem Fm.sg {x : Tok} (h : Dgt x) (s : Bool) : Fm 4 17 (sgP s x) ∧ toksOf (sgP s x) = sgP s x := by
  obtain ⟨h1, h2⟩ := Fm.dig h
  cases s
  · exact ⟨h1.le (by decide) (by decide), h2⟩
  · refine ⟨((h1.pre (p := [[45]]) (by decide)).par).le (by decide) (by decide), ?_⟩
    show toksOf ([[40]] ++ ([[45]] ++ [x]) ++ [[41]]) = _
    rw [toksOf_app, toksOf_app, toksOf_app, h2]; rfl
end Go.Proofs.YtfocokjihbenmaaGreatDoor.Fo
