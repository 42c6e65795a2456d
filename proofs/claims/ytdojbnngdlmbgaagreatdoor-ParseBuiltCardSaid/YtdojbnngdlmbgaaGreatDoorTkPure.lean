/-
  Plain facts of package token over lists of bytes: the token at the beginning of a text (mark), and the tokens of a text (scanL).
-/
import Derived.Lib.IndexMore
namespace Go.Proofs.YtdojbnngdlmbgaaGreatDoor.Tk

abbrev Tok := Nat × Nat × Nat
def cO : List UInt8 := [60, 33, 45, 45]
def cE : List UInt8 := [45, 45, 62]
def nO : List UInt8 := [60, 110, 111, 119, 105, 107, 105, 62]
def nE : List UInt8 := [60, 47, 110, 111, 119, 105, 107, 105, 62]
def tO : Nat → List UInt8
  | 1 => [60, 110, 111, 105, 110, 99, 108, 117, 100, 101, 62]
  | 2 => [60, 105, 110, 99, 108, 117, 100, 101, 111, 110, 108, 121, 62]
  | 3 => [60, 111, 110, 108, 121, 105, 110, 99, 108, 117, 100, 101, 62]
  | _ => []
def tE : Nat → List UInt8
  | 1 => [60, 47, 110, 111, 105, 110, 99, 108, 117, 100, 101, 62]
  | 2 => [60, 47, 105, 110, 99, 108, 117, 100, 101, 111, 110, 108, 121, 62]
  | 3 => [60, 47, 111, 110, 108, 121, 105, 110, 99, 108, 117, 100, 101, 62]
  | _ => []

def upTo (l o e : List UInt8) : Nat := if Lib.index (l.drop o.length) e = -1 then 0 else o.length + (Lib.index (l.drop o.length) e).toNat + e.length
/-- The tag at the beginning of l, from the k-th one on. -/
def tagFrom (l : List UInt8) : Nat → Nat → Nat × Nat
  | 0, _ => (0, 0)
  | n + 1, k => if Lib.hasPrefix l (tO k) then (11, (tO k).length) else if Lib.hasPrefix l (tE k) then (12, (tE k).length) else tagFrom l n (k + 1)
def angle (l : List UInt8) : Nat × Nat :=
  if Lib.hasPrefix l cO then (9, if upTo l cO cE = 0 then l.length else upTo l cO cE)
  else if Lib.hasPrefix l nO then (10, upTo l nO nE)
  else tagFrom l 3 1
def run (c : UInt8) (l : List UInt8) : Nat := (l.takeWhile (· == c)).length
def braces (c : UInt8) (k : Nat) (l : List UInt8) : Nat × Nat := if run c l < 2 then (0, 0) else (k, run c l)
def pair (k : Nat) : List UInt8 → Nat × Nat
  | c :: d :: _ => if d = c then (k, 2) else (0, 0)
  | _ => (0, 0)
def mark : List UInt8 → Nat × Nat
  | [] => (0, 0)
  | c :: r => if c = 60 then angle (c :: r) else if c = 123 then braces 123 3 (c :: r) else if c = 125 then braces 125 4 (c :: r)
      else if c = 91 then pair 5 (c :: r) else if c = 93 then pair 6 (c :: r) else if c = 124 then (7, 1) else if c = 61 then (8, 1) else if c = 10 then (2, 1) else (0, 0)

def gap (a b : Nat) : List Tok := if a = b then [] else [(1, a, b)]
def scanL (s : List UInt8) (text i : Nat) : List Tok :=
  if _h : i < s.length then
    if (mark (s.drop i)).2 = 0 then scanL s text (i + 1)
    else gap text i ++ ((mark (s.drop i)).1, i, i + (mark (s.drop i)).2) :: scanL s (i + (mark (s.drop i)).2) (i + (mark (s.drop i)).2)
  else gap text s.length
  termination_by s.length - i
  decreasing_by all_goals omega

theorem scan_end {s : List UInt8} {text i : Nat} (h : ¬ i < s.length) : scanL s text i = gap text s.length := by rw [scanL, dif_neg h]
theorem scan_no {s : List UInt8} {text i : Nat} (h : i < s.length) (h0 : (mark (s.drop i)).2 = 0) : scanL s text i = scanL s text (i + 1) := by rw [scanL, dif_pos h, if_pos h0]
theorem scan_yes {s : List UInt8} {text i : Nat} (h : i < s.length) (h0 : ¬ (mark (s.drop i)).2 = 0) :
    scanL s text i = gap text i ++ ((mark (s.drop i)).1, i, i + (mark (s.drop i)).2) :: scanL s (i + (mark (s.drop i)).2) (i + (mark (s.drop i)).2) := by
  rw [scanL, dif_pos h, if_neg h0]

theorem hp_take {l q : List UInt8} {p : Nat} (h : Lib.hasPrefix (l.take p) q = true) : Lib.hasPrefix l q = true := by
  unfold Lib.hasPrefix at *
  rw [List.isPrefixOf_iff_prefix] at *
  exact h.trans (List.take_prefix _ _)
theorem hp_take_no {l q : List UInt8} (p : Nat) (h : Lib.hasPrefix l q = false) : Lib.hasPrefix (l.take p) q = false := by
  cases e : Lib.hasPrefix (l.take p) q
  · rfl
  · rw [hp_take e] at h; cases h
theorem hp_len {l q : List UInt8} (h : Lib.hasPrefix l q = true) : q.length ≤ l.length := by
  unfold Lib.hasPrefix at *
  rw [List.isPrefixOf_iff_prefix] at *
  exact h.length_le
theorem hp_eq {l q : List UInt8} (h : Lib.hasPrefix l q = true) : l.take q.length = q := by
  unfold Lib.hasPrefix at *
  rw [List.isPrefixOf_iff_prefix] at *
  exact (List.prefix_iff_eq_take.1 h).symm
theorem hp_app {l q : List UInt8} (h : Lib.hasPrefix l q = true) : ∃ r, l = q ++ r := by
  unfold Lib.hasPrefix at *
  rw [List.isPrefixOf_iff_prefix] at *
  obtain ⟨r, hr⟩ := h
  exact ⟨r, hr.symm⟩
theorem hp_into {l q : List UInt8} {p : Nat} (h : Lib.hasPrefix l q = true) (hp : q.length ≤ p) : Lib.hasPrefix (l.take p) q = true := by
  obtain ⟨r, rfl⟩ := hp_app h
  unfold Lib.hasPrefix
  rw [List.isPrefixOf_iff_prefix, List.take_append, List.take_of_length_le hp]
  exact List.prefix_append _ _

theorem upTo_le {l o e : List UInt8} (ho : o.length ≤ l.length) : upTo l o e ≤ l.length := by
  unfold upTo
  split
  · omega
  · have h := Lib.index_room (l.drop o.length) e (by have := Lib.index_ge (l.drop o.length) e; omega)
    have hg := Lib.index_ge (l.drop o.length) e
    rw [List.length_drop] at h; omega
theorem tagFrom_le (l : List UInt8) : ∀ n k, (tagFrom l n k).2 ≤ l.length
  | 0, _ => Nat.zero_le _
  | n + 1, k => by
    unfold tagFrom
    split
    · exact hp_len (by assumption)
    · split
      · exact hp_len (by assumption)
      · exact tagFrom_le l n (k + 1)
theorem angle_le (l : List UInt8) : (angle l).2 ≤ l.length := by
  unfold angle
  split
  · simp only
    split
    · omega
    · exact upTo_le (hp_len (by assumption))
  · split
    · exact upTo_le (hp_len (by assumption))
    · exact tagFrom_le l 3 1
theorem run_le (c : UInt8) (l : List UInt8) : run c l ≤ l.length := by
  unfold run; exact (List.takeWhile_prefix _).length_le
theorem mark_le (l : List UInt8) : (mark l).2 ≤ l.length := by
  unfold mark
  split
  · simp
  · rename_i c r
    repeat' split
    · exact angle_le _
    · unfold braces; split
      · simp
      · exact run_le _ _
    · unfold braces; split
      · simp
      · exact run_le _ _
    · unfold pair; split <;> (try split) <;> simp_all
    · unfold pair; split <;> (try split) <;> simp_all
    all_goals simp
theorem tagFrom_kind (l : List UInt8) : ∀ n k, (tagFrom l n k).2 ≠ 0 → 2 ≤ (tagFrom l n k).1 ∧ (tagFrom l n k).1 ≤ 12
  | 0, _ => fun h => absurd rfl h
  | n + 1, k => by
    unfold tagFrom
    split
    · intro _; simp
    · split
      · intro _; simp
      · exact tagFrom_kind l n (k + 1)
theorem mark_kind {l : List UInt8} (h : (mark l).2 ≠ 0) : 2 ≤ (mark l).1 ∧ (mark l).1 ≤ 12 := by
  revert h
  unfold mark
  split
  · simp
  · rename_i c r
    repeat' split
    · unfold angle
      split
      · simp
      · split
        · simp
        · exact tagFrom_kind _ 3 1
    · unfold braces; split <;> simp
    · unfold braces; split <;> simp
    · unfold pair; split <;> (try split) <;> simp
    · unfold pair; split <;> (try split) <;> simp
    all_goals simp

/-- The tokens follow one another from a on up to n, and none is empty. -/
def Chain (n : Nat) : Nat → List Tok → Prop
  | a, [] => a = n
  | a, (k, f, t) :: r => f = a ∧ a < t ∧ t ≤ n ∧ 1 ≤ k ∧ k ≤ 12 ∧ Chain n t r
theorem chain_gap {n a b : Nat} {r : List Tok} (hab : a ≤ b) (hb : b ≤ n) (h : Chain n b r) : Chain n a (gap a b ++ r) := by
  unfold gap
  split
  · subst_vars; simpa using h
  · exact ⟨rfl, by omega, hb, by omega, by omega, h⟩
theorem scan_chain (s : List UInt8) : ∀ (m text i : Nat), s.length - i ≤ m → text ≤ i → i ≤ s.length → Chain s.length text (scanL s text i) := by
  intro m
  induction m with
  | zero =>
    intro text i hm ht hi
    rw [scan_end (by omega)]
    have := chain_gap (n := s.length) (a := text) (b := s.length) (r := []) (by omega) (by omega) rfl
    simpa using this
  | succ m ih =>
    intro text i hm ht hi
    by_cases hlt : i < s.length
    · by_cases h0 : (mark (s.drop i)).2 = 0
      · rw [scan_no hlt h0]
        exact ih text (i + 1) (by omega) (by omega) (by omega)
      · have hk := mark_kind h0
        have hl := mark_le (s.drop i)
        rw [List.length_drop] at hl
        rw [scan_yes hlt h0]
        exact chain_gap ht hi ⟨rfl, by omega, by omega, by omega, by omega, ih _ _ (by omega) (Nat.le_refl _) (by omega)⟩
    · rw [scan_end hlt]
      have := chain_gap (n := s.length) (a := text) (b := s.length) (r := []) (by omega) (by omega) rfl
      simpa using this

theorem index_take {s e : List UInt8} {i p : Nat} (h : Lib.index s e = i) (hp : i + e.length ≤ p) : Lib.index (s.take p) e = i := by
  rcases Lib.index_spec s e with ⟨h1, _⟩ | ⟨j, h1, h2, h3, h4⟩
  · omega
  · obtain rfl : i = j := by omega
    have hocc : ∀ j, Lib.occAt (s.take p) e j = true → Lib.occAt s e j = true := fun j hj => by
      unfold Lib.occAt at hj ⊢
      rw [List.drop_take] at hj
      exact hp_take (l := s.drop j) hj
    apply Lib.index_first
    · rw [List.length_take]; omega
    · unfold Lib.occAt at h3 ⊢
      rw [List.drop_take]
      exact hp_into (l := s.drop i) h3 (by omega)
    · intro j hj
      cases e' : Lib.occAt (s.take p) e j
      · rfl
      · have := h4 j hj; rw [hocc j e'] at this; cases this
theorem index_take_none {s e : List UInt8} (p : Nat) (h : Lib.index s e = -1) : Lib.index (s.take p) e = -1 := by
  rcases Lib.index_spec s e with ⟨_, h2⟩ | ⟨j, h1, _⟩
  · apply Lib.index_none
    intro j hj
    cases e' : Lib.occAt (s.take p) e j
    · rfl
    · have h3 := h2 j (by rw [List.length_take] at hj; omega)
      unfold Lib.occAt at e' h3
      rw [List.drop_take] at e'
      have := hp_take (l := s.drop j) e'
      unfold Lib.hasPrefix at this
      rw [this] at h3; cases h3
  · omega
theorem upTo_take {l o e : List UInt8} (h : upTo l o e ≠ 0) : upTo (l.take (upTo l o e)) o e = upTo l o e := by
  have hi : Lib.index (l.drop o.length) e ≠ -1 := by
    intro h'; apply h; unfold upTo; rw [if_pos h']
  have hg := Lib.index_ge (l.drop o.length) e
  obtain ⟨i, hi'⟩ : ∃ i : Nat, Lib.index (l.drop o.length) e = i := ⟨(Lib.index (l.drop o.length) e).toNat, by omega⟩
  have hu : upTo l o e = o.length + i + e.length := by unfold upTo; rw [if_neg hi, hi']; simp
  rw [hu]
  unfold upTo
  rw [List.drop_take, index_take hi' (by omega), if_neg (by omega)]
  simp
theorem run_take (c : UInt8) (l : List UInt8) : run c (l.take (run c l)) = run c l := by
  have h : l.take (run c l) = l.takeWhile (· == c) := (List.prefix_iff_eq_take.1 (List.takeWhile_prefix _)).symm
  rw [h]
  unfold run
  have h2 : ∀ l : List UInt8, (l.takeWhile (· == c)).takeWhile (· == c) = l.takeWhile (· == c) := fun l => by
    induction l with
    | nil => rfl
    | cons a r ih => by_cases ha : (a == c) = true <;> simp_all
  rw [h2]

theorem no_of_pre {l q q' : List UInt8} (h : Lib.hasPrefix l q = true) (hq : ∀ r, Lib.hasPrefix (q ++ r) q' = false) : Lib.hasPrefix l q' = false := by
  obtain ⟨r, rfl⟩ := hp_app h
  exact hq r
theorem nowiki_no_comment (r : List UInt8) : Lib.hasPrefix (nO ++ r) cO = false := by rfl
theorem nowiki_no_open (r : List UInt8) : ∀ k, 1 ≤ k → k ≤ 3 → Lib.hasPrefix (nO ++ r) (tO k) = false := by
  intro k h1 h2
  have : k = 1 ∨ k = 2 ∨ k = 3 := by omega
  rcases this with rfl | rfl | rfl <;> rfl
theorem nowiki_no_close (r : List UInt8) : ∀ k, 1 ≤ k → k ≤ 3 → Lib.hasPrefix (nO ++ r) (tE k) = false := by
  intro k h1 h2
  have : k = 1 ∨ k = 2 ∨ k = 3 := by omega
  rcases this with rfl | rfl | rfl <;> rfl
theorem tagFrom_none {l : List UInt8} : ∀ n k, (∀ j, k ≤ j → j < k + n → Lib.hasPrefix l (tO j) = false ∧ Lib.hasPrefix l (tE j) = false) → tagFrom l n k = (0, 0)
  | 0, _ => fun _ => rfl
  | n + 1, k => fun h => by
    unfold tagFrom
    obtain ⟨h1, h2⟩ := h k (by omega) (by omega)
    rw [h1, h2]
    simpa using tagFrom_none n (k + 1) fun j a b => h j (by omega) (by omega)
theorem tO_pos {k : Nat} (h1 : 1 ≤ k) (h3 : k ≤ 3) : 0 < (tO k).length := by
  have : k = 1 ∨ k = 2 ∨ k = 3 := by omega
  rcases this with rfl | rfl | rfl <;> simp [tO]
theorem tE_pos {k : Nat} (h1 : 1 ≤ k) (h3 : k ≤ 3) : 0 < (tE k).length := by
  have : k = 1 ∨ k = 2 ∨ k = 3 := by omega
  rcases this with rfl | rfl | rfl <;> simp [tE]
theorem tagFrom_zero {l : List UInt8} : ∀ n k, 1 ≤ k → k + n ≤ 4 → (tagFrom l n k).2 = 0 → ∀ j, k ≤ j → j < k + n → Lib.hasPrefix l (tO j) = false ∧ Lib.hasPrefix l (tE j) = false
  | 0, _ => fun _ _ _ j a b => by omega
  | n + 1, k => fun h1 h4 h j a b => by
    unfold tagFrom at h
    split at h
    · have := tO_pos (k := k) h1 (by omega); simp only at h; omega
    · split at h
      · have := tE_pos (k := k) h1 (by omega); simp only at h; omega
      · by_cases e : j = k
        · subst e; simp_all
        · exact tagFrom_zero n (k + 1) (by omega) (by omega) h j (by omega) (by omega)
/-- A beginning of a text at which no token other than text begins has none either. -/
theorem angle_pre {l : List UInt8} (hl : 0 < l.length) (h : (angle l).2 = 0) (p : Nat) : (angle (l.take p)).2 = 0 := by
  have hc : Lib.hasPrefix l cO = false := by
    cases e : Lib.hasPrefix l cO
    · rfl
    · unfold angle at h; rw [e] at h; simp at h; split at h <;> omega
  have hcp := hp_take_no p hc
  by_cases hn : Lib.hasPrefix l nO = true
  · have hu : Lib.index (l.drop nO.length) nE = -1 := by
      unfold angle at h; rw [hc, hn] at h; simp only [Bool.false_eq_true, if_false, if_true] at h
      by_cases e : Lib.index (l.drop nO.length) nE = -1
      · exact e
      · unfold upTo at h; rw [if_neg e] at h
        have : nO.length = 8 := rfl
        omega
    unfold angle
    rw [hcp]
    simp only [Bool.false_eq_true, if_false]
    split
    · simp only [upTo, List.drop_take, index_take_none _ hu]; rfl
    · rw [tagFrom_none]
      intro j a b
      exact ⟨hp_take_no p (no_of_pre hn fun r => nowiki_no_open r j a (by omega)), hp_take_no p (no_of_pre hn fun r => nowiki_no_close r j a (by omega))⟩
  · have hn' : Lib.hasPrefix l nO = false := by simpa using hn
    have h0 := tagFrom_zero (l := l) 3 1 (by omega) (by omega) (by unfold angle at h; rw [hc, hn'] at h; simpa using h)
    unfold angle
    rw [hcp, hp_take_no p hn']
    simp only [Bool.false_eq_true, if_false]
    rw [tagFrom_none]
    intro j a b
    exact ⟨hp_take_no p (h0 j a b).1, hp_take_no p (h0 j a b).2⟩
theorem run_pre (c : UInt8) (l : List UInt8) (p : Nat) : run c (l.take p) ≤ run c l := by
  unfold run
  induction l generalizing p with
  | nil => simp
  | cons a r ih =>
    cases p with
    | zero => simp
    | succ p => by_cases ha : (a == c) = true <;> simp_all
theorem braces_zero {c : UInt8} {k : Nat} {l : List UInt8} : (braces c k l).2 = 0 ↔ run c l < 2 := by
  unfold braces
  split
  · simp_all
  · simp; omega
theorem m60 (r : List UInt8) : mark (60 :: r) = angle (60 :: r) := rfl
theorem m123 (r : List UInt8) : mark (123 :: r) = braces 123 3 (123 :: r) := rfl
theorem m125 (r : List UInt8) : mark (125 :: r) = braces 125 4 (125 :: r) := rfl
theorem m91 (r : List UInt8) : mark (91 :: r) = pair 5 (91 :: r) := rfl
theorem m93 (r : List UInt8) : mark (93 :: r) = pair 6 (93 :: r) := rfl
theorem m124 (r : List UInt8) : mark (124 :: r) = (7, 1) := rfl
theorem m61 (r : List UInt8) : mark (61 :: r) = (8, 1) := rfl
theorem m10 (r : List UInt8) : mark (10 :: r) = (2, 1) := rfl
theorem mo {c : UInt8} (r : List UInt8) (h1 : c ≠ 60) (h2 : c ≠ 123) (h3 : c ≠ 125) (h4 : c ≠ 91) (h5 : c ≠ 93) (h6 : c ≠ 124) (h7 : c ≠ 61) (h8 : c ≠ 10) : mark (c :: r) = (0, 0) := by
  simp [mark, h1, h2, h3, h4, h5, h6, h7, h8]
theorem byte_cases (c : UInt8) : c = 60 ∨ c = 123 ∨ c = 125 ∨ c = 91 ∨ c = 93 ∨ c = 124 ∨ c = 61 ∨ c = 10 ∨ (c ≠ 60 ∧ c ≠ 123 ∧ c ≠ 125 ∧ c ≠ 91 ∧ c ≠ 93 ∧ c ≠ 124 ∧ c ≠ 61 ∧ c ≠ 10) := by
  by_cases h1 : c = 60 <;> by_cases h2 : c = 123 <;> by_cases h3 : c = 125 <;> by_cases h4 : c = 91 <;> by_cases h5 : c = 93 <;> by_cases h6 : c = 124 <;> by_cases h7 : c = 61 <;> by_cases h8 : c = 10 <;> simp_all
theorem pair_pre {k : Nat} {l : List UInt8} (h : (pair k l).2 = 0) (p : Nat) : (pair k (l.take p)).2 = 0 := by
  match l, p with
  | [], _ => simp [pair]
  | _, 0 => simp [pair]
  | [a], p + 1 => simp [pair]
  | a :: b :: r, 1 => simp [pair]
  | a :: b :: r, p + 2 =>
    simp only [pair, List.take_succ_cons] at h ⊢
    split at h
    · simp at h
    · rw [if_neg (by assumption)]
theorem mark_pre {l : List UInt8} (h : (mark l).2 = 0) (p : Nat) : (mark (l.take p)).2 = 0 := by
  cases l with
  | nil => simp [mark]
  | cons c r =>
    cases p with
    | zero => simp [mark]
    | succ p =>
      have e : (c :: r).take (p + 1) = c :: r.take p := rfl
      rw [e]
      rcases byte_cases c with rfl | rfl | rfl | rfl | rfl | rfl | rfl | rfl | ⟨h1, h2, h3, h4, h5, h6, h7, h8⟩
      · rw [m60] at h ⊢; exact angle_pre (l := 60 :: r) (by simp) h (p + 1)
      · rw [m123, braces_zero] at h ⊢; have := run_pre 123 (123 :: r) (p + 1); rw [e] at this; omega
      · rw [m125, braces_zero] at h ⊢; have := run_pre 125 (125 :: r) (p + 1); rw [e] at this; omega
      · rw [m91] at h ⊢; exact pair_pre h (p + 1)
      · rw [m93] at h ⊢; exact pair_pre h (p + 1)
      · rw [m124] at h; simp at h
      · rw [m61] at h; simp at h
      · rw [m10] at h; simp at h
      · rw [mo _ h1 h2 h3 h4 h5 h6 h7 h8]
theorem tag_alone {k : Nat} (h1 : 1 ≤ k) (h3 : k ≤ 3) : angle (tO k) = (11, (tO k).length) ∧ angle (tE k) = (12, (tE k).length) := by
  have : k = 1 ∨ k = 2 ∨ k = 3 := by omega
  rcases this with rfl | rfl | rfl <;> exact ⟨by rfl, by rfl⟩
theorem tagFrom_take {l : List UInt8} : ∀ n k, 1 ≤ k → k + n ≤ 4 → (tagFrom l n k).2 ≠ 0 → angle (l.take (tagFrom l n k).2) = tagFrom l n k
  | 0, _ => fun _ _ h => absurd rfl h
  | n + 1, k => fun h1 h4 => by
    unfold tagFrom
    split
    · intro _; simp only; rw [hp_eq (by assumption)]; exact (tag_alone h1 (by omega)).1
    · split
      · intro _; simp only; rw [hp_eq (by assumption)]; exact (tag_alone h1 (by omega)).2
      · exact tagFrom_take n (k + 1) (by omega) (by omega)
/-- The bytes of a token, by themselves, begin with this token. -/
theorem angle_take {l : List UInt8} (h : (angle l).2 ≠ 0) : angle (l.take (angle l).2) = angle l := by
  cases hc : Lib.hasPrefix l cO
  · cases hn : Lib.hasPrefix l nO
    · have e : angle l = tagFrom l 3 1 := by unfold angle; rw [hc, hn]; rfl
      rw [e] at h ⊢
      exact tagFrom_take 3 1 (by omega) (by omega) h
    · have e : angle l = (10, upTo l nO nE) := by unfold angle; rw [hc, hn]; rfl
      rw [e] at h ⊢
      simp only at h ⊢
      have hge : nO.length ≤ upTo l nO nE := by unfold upTo at h ⊢; split at h <;> simp_all; omega
      unfold angle
      rw [hp_take_no _ hc, hp_into hn hge, upTo_take h]; rfl
  · by_cases h0 : upTo l cO cE = 0
    · have e : angle l = (9, l.length) := by unfold angle; rw [hc, h0]; rfl
      rw [e]; simp only [List.take_length]; exact e
    · have e : angle l = (9, upTo l cO cE) := by unfold angle; rw [hc]; simp [h0]
      rw [e]
      simp only
      have hge : cO.length ≤ upTo l cO cE := by unfold upTo at h0 ⊢; split at h0 <;> simp_all; omega
      unfold angle
      rw [hp_into hc hge, upTo_take h0]; simp [h0]
theorem cons_take {c : UInt8} {r : List UInt8} {n : Nat} (h : n ≠ 0) : ∃ r', (c :: r).take n = c :: r' := by
  cases n with
  | zero => exact absurd rfl h
  | succ n => exact ⟨_, rfl⟩
theorem braces_take {c : UInt8} {k : Nat} {l : List UInt8} (h : (braces c k l).2 ≠ 0) : braces c k (l.take (braces c k l).2) = braces c k l := by
  have hr : ¬ run c l < 2 := fun h' => h (braces_zero.2 h')
  have e : braces c k l = (k, run c l) := by unfold braces; rw [if_neg hr]
  rw [e]; simp only; unfold braces; rw [run_take, if_neg hr]
theorem pair_take {k : Nat} {l : List UInt8} (h : (pair k l).2 ≠ 0) : pair k (l.take (pair k l).2) = pair k l := by
  match l with
  | [] => exact absurd rfl h
  | [a] => exact absurd rfl h
  | a :: b :: r =>
    by_cases e : b = a
    · subst e; simp [pair]
    · simp [pair, e] at h
theorem mark_take {l : List UInt8} (h : (mark l).2 ≠ 0) : mark (l.take (mark l).2) = mark l := by
  cases l with
  | nil => exact absurd rfl h
  | cons c r =>
    obtain ⟨r', e⟩ := cons_take (c := c) (r := r) h
    rcases byte_cases c with rfl | rfl | rfl | rfl | rfl | rfl | rfl | rfl | ⟨h1, h2, h3, h4, h5, h6, h7, h8⟩
    · rw [e, m60, m60, ← e, m60]; exact angle_take h
    · rw [e, m123, m123, ← e, m123]; exact braces_take h
    · rw [e, m125, m125, ← e, m125]; exact braces_take h
    · rw [e, m91, m91, ← e, m91]; exact pair_take h
    · rw [e, m93, m93, ← e, m93]; exact pair_take h
    · rfl
    · rfl
    · rfl
    · rw [mo _ h1 h2 h3 h4 h5 h6 h7 h8] at h; exact absurd rfl h

theorem scan_text {x : List UInt8} {a : Nat} : ∀ (m i : Nat), x.length - i ≤ m → (∀ j, i ≤ j → j < x.length → (mark (x.drop j)).2 = 0) → scanL x a i = gap a x.length := by
  intro m
  induction m with
  | zero => intro i hm _; exact scan_end (by omega)
  | succ m ih =>
    intro i hm h
    by_cases hlt : i < x.length
    · rw [scan_no hlt (h i (Nat.le_refl _) hlt)]
      exact ih (i + 1) (by omega) fun j a b => h j (by omega) b
    · exact scan_end hlt
/-- The bytes of a token of s, by themselves, are this token. -/
def Alone (s : List UInt8) (x : Tok) : Prop := scanL ((s.drop x.2.1).take (x.2.2 - x.2.1)) 0 0 = [(x.1, 0, x.2.2 - x.2.1)]
theorem alone_text {s : List UInt8} {text i : Nat} (ht : text < i) (hi : i ≤ s.length) (h : ∀ j, text ≤ j → j < i → (mark (s.drop j)).2 = 0) : Alone s (1, text, i) := by
  unfold Alone
  simp only
  have hl : ((s.drop text).take (i - text)).length = i - text := by simp; omega
  rw [scan_text _ 0 (Nat.le_refl _) (fun j _ hj => ?_), hl]
  · unfold gap; rw [if_neg (by omega)]
  · rw [hl] at hj
    rw [List.drop_take, List.drop_drop]
    exact mark_pre (h (text + j) (by omega) (by omega)) _
theorem alone_mark {s : List UInt8} {i : Nat} (h : (mark (s.drop i)).2 ≠ 0) : Alone s ((mark (s.drop i)).1, i, i + (mark (s.drop i)).2) := by
  unfold Alone
  simp only [Nat.add_sub_cancel_left]
  have hm := mark_le (s.drop i)
  have hl : ((s.drop i).take (mark (s.drop i)).2).length = (mark (s.drop i)).2 := by rw [List.length_take]; omega
  have e := mark_take h
  have e' : mark (((s.drop i).take (mark (s.drop i)).2).drop 0) = mark (s.drop i) := by rw [List.drop_zero]; exact e
  rw [scan_yes (by omega) (by rw [e']; exact h), e', scan_end (by omega), hl]
  simp [gap]
theorem scan_alone (s : List UInt8) : ∀ (m text i : Nat), s.length - i ≤ m → text ≤ i → i ≤ s.length → (∀ j, text ≤ j → j < i → (mark (s.drop j)).2 = 0) → ∀ x ∈ scanL s text i, Alone s x := by
  intro m
  induction m with
  | zero =>
    intro text i hm ht hi h x hx
    obtain rfl : i = s.length := by omega
    rw [scan_end (by omega)] at hx
    unfold gap at hx
    split at hx
    · cases hx
    · rw [List.mem_singleton] at hx; subst hx; exact alone_text (by omega) (by omega) h
  | succ m ih =>
    intro text i hm ht hi h x hx
    by_cases hlt : i < s.length
    · by_cases h0 : (mark (s.drop i)).2 = 0
      · rw [scan_no hlt h0] at hx
        refine ih text (i + 1) (by omega) (by omega) (by omega) (fun j a b => ?_) x hx
        by_cases e : j = i
        · subst e; exact h0
        · exact h j a (by omega)
      · rw [scan_yes hlt h0] at hx
        have hl := mark_le (s.drop i)
        rw [List.length_drop] at hl
        rcases List.mem_append.1 hx with hx | hx
        · unfold gap at hx
          split at hx
          · cases hx
          · rw [List.mem_singleton] at hx; subst hx; exact alone_text (by omega) (by omega) h
        · rcases List.mem_cons.1 hx with rfl | hx
          · exact alone_mark h0
          · exact ih _ _ (by omega) (Nat.le_refl _) (by omega) (fun j a b => by omega) x hx
    · rw [scan_end hlt] at hx
      obtain rfl : i = s.length := by omega
      unfold gap at hx
      split at hx
      · cases hx
      · rw [List.mem_singleton] at hx; subst hx; exact alone_text (by omega) (by omega) h

/-! Lines. -/
theorem hp_nl {q : List UInt8} (hq : 10 ∉ q) (b : List UInt8) : ∀ l : List UInt8, Lib.hasPrefix (l ++ 10 :: b) q = Lib.hasPrefix l q := by
  unfold Lib.hasPrefix
  induction q with
  | nil => intro l; simp
  | cons c q ih =>
    have h1 : c ≠ 10 := fun e => hq (by simp [e])
    have h2 : 10 ∉ q := fun e => hq (by simp [e])
    intro l
    cases l with
    | nil => simp [List.isPrefixOf, h1]
    | cons a l => simp only [List.cons_append, List.isPrefixOf]; rw [ih h2 l]
theorem run_nl {c : UInt8} (hc : c ≠ 10) (b : List UInt8) : ∀ l : List UInt8, run c (l ++ 10 :: b) = run c l := by
  unfold run
  intro l
  induction l with
  | nil => simp [Ne.symm hc]
  | cons a r ih => by_cases ha : (a == c) = true <;> simp_all
theorem tagFrom_nl (b l : List UInt8) : ∀ n k, 1 ≤ k → k + n ≤ 4 → tagFrom (l ++ 10 :: b) n k = tagFrom l n k
  | 0, _ => fun _ _ => rfl
  | n + 1, k => fun h1 h4 => by
    have h : 10 ∉ tO k ∧ 10 ∉ tE k := by
      have : k = 1 ∨ k = 2 ∨ k = 3 := by omega
      rcases this with rfl | rfl | rfl <;> exact ⟨by decide, by decide⟩
    unfold tagFrom
    rw [hp_nl h.1, hp_nl h.2, tagFrom_nl b l n (k + 1) (by omega) (by omega)]
theorem mark_nl {l : List UInt8} (hc : Lib.hasPrefix l cO = false) (hn : Lib.hasPrefix l nO = false) (b : List UInt8) : mark (l ++ 10 :: b) = mark (l ++ [10]) := by
  cases l with
  | nil => rfl
  | cons c r =>
    rw [List.cons_append, List.cons_append]
    rcases byte_cases c with rfl | rfl | rfl | rfl | rfl | rfl | rfl | rfl | ⟨h1, h2, h3, h4, h5, h6, h7, h8⟩
    · rw [m60, m60, ← List.cons_append, ← List.cons_append]
      unfold angle
      rw [hp_nl (by decide), hp_nl (by decide), hp_nl (by decide), hp_nl (by decide), hc, hn, tagFrom_nl b _ 3 1 (by omega) (by omega), tagFrom_nl [] _ 3 1 (by omega) (by omega)]
      rfl
    · rw [m123, m123, ← List.cons_append, ← List.cons_append]; unfold braces; rw [run_nl (by decide), run_nl (by decide)]
    · rw [m125, m125, ← List.cons_append, ← List.cons_append]; unfold braces; rw [run_nl (by decide), run_nl (by decide)]
    · rw [m91, m91]; cases r <;> rfl
    · rw [m93, m93]; cases r <;> rfl
    · rfl
    · rfl
    · rfl
    · rw [mo _ h1 h2 h3 h4 h5 h6 h7 h8, mo _ h1 h2 h3 h4 h5 h6 h7 h8]
def shift (n : Nat) (x : Tok) : Tok := (x.1, x.2.1 + n, x.2.2 + n)
theorem gap_shift (n a b : Nat) : gap (n + a) (n + b) = (gap a b).map (shift n) := by
  unfold gap
  by_cases h : a = b
  · rw [if_pos (by omega), if_pos h]; rfl
  · rw [if_neg (by omega), if_neg h]; simp [shift]; omega
theorem scan_shift (A b : List UInt8) : ∀ (m text i : Nat), b.length - i ≤ m → scanL (A ++ b) (A.length + text) (A.length + i) = (scanL b text i).map (shift A.length) := by
  intro m
  induction m with
  | zero =>
    intro text i hm
    rw [scan_end (by simp; omega), scan_end (by omega), List.length_append, gap_shift]
  | succ m ih =>
    intro text i hm
    by_cases hlt : i < b.length
    · have ed : (A ++ b).drop (A.length + i) = b.drop i := by rw [List.drop_append]; simp
      by_cases h0 : (mark (b.drop i)).2 = 0
      · rw [scan_no (by simp; omega) (by rw [ed]; exact h0), scan_no hlt h0, Nat.add_assoc]
        exact ih text (i + 1) (by omega)
      · rw [scan_yes (by simp; omega) (by rw [ed]; exact h0), scan_yes hlt h0, ed, List.map_append, List.map_cons, gap_shift, Nat.add_assoc, ih _ _ (by omega)]
        simp [shift]; omega
    · rw [scan_end (by simp; omega), scan_end (by omega), List.length_append, gap_shift]
theorem scan_lines (a b : List UInt8) (hc : ∀ j, j ≤ a.length → Lib.hasPrefix (a.drop j) cO = false) (hn : ∀ j, j ≤ a.length → Lib.hasPrefix (a.drop j) nO = false) :
    ∀ (m text i : Nat), a.length - i ≤ m → i ≤ a.length → scanL (a ++ 10 :: b) text i = scanL (a ++ [10]) text i ++ (scanL b 0 0).map (shift (a.length + 1)) := by
  have hlast : scanL (a ++ 10 :: b) (a.length + 1) (a.length + 1) = (scanL b 0 0).map (shift (a.length + 1)) := by
    have := scan_shift (a ++ [10]) b _ 0 0 (Nat.le_refl _)
    simpa using this
  have hend : scanL (a ++ [10]) (a.length + 1) (a.length + 1) = [] := by rw [scan_end (by simp)]; simp [gap]
  intro m
  induction m with
  | zero =>
    intro text i hm hi
    obtain rfl : i = a.length := by omega
    have e1 : (a ++ 10 :: b).drop a.length = 10 :: b := by simp
    have e2 : (a ++ [10]).drop a.length = [10] := by simp
    rw [scan_yes (s := a ++ 10 :: b) (by simp) (by rw [e1, m10]; simp), scan_yes (s := a ++ [10]) (by simp) (by rw [e2, m10]; simp), e1, e2, m10, m10]
    simp only
    rw [hlast, hend]
    simp
  | succ m ih =>
    intro text i hm hi
    by_cases hlt : i < a.length
    · have e1 : (a ++ 10 :: b).drop i = a.drop i ++ 10 :: b := List.drop_append_of_le_length hi
      have e2 : (a ++ [10]).drop i = a.drop i ++ [10] := List.drop_append_of_le_length hi
      have e3 := mark_nl (hc i hi) (hn i hi) b
      by_cases h0 : (mark (a.drop i ++ [10])).2 = 0
      · rw [scan_no (s := a ++ 10 :: b) (by simp; omega) (by rw [e1, e3]; exact h0), scan_no (s := a ++ [10]) (by simp; omega) (by rw [e2]; exact h0)]
        exact ih text (i + 1) (by omega) (by omega)
      · have hl := mark_le (a.drop i ++ [10])
        simp at hl
        rw [scan_yes (s := a ++ 10 :: b) (by simp; omega) (by rw [e1, e3]; exact h0), scan_yes (s := a ++ [10]) (by simp; omega) (by rw [e2]; exact h0), e1, e2, e3]
        by_cases hx : i + (mark (a.drop i ++ [10])).2 ≤ a.length
        · rw [ih _ _ (by omega) hx]; simp
        · have : i + (mark (a.drop i ++ [10])).2 = a.length + 1 := by omega
          rw [this, hlast, hend]; simp
    · obtain rfl : i = a.length := by omega
      exact ih text a.length (by omega) (by omega)
end Go.Proofs.YtdojbnngdlmbgaaGreatDoor.Tk
