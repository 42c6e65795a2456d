/-
  Lists of bindings as lists of pairs of bytes: the reference's Put, what a list of arguments gives, sorted lists; the map that the program fills reads as the same list.
-/
import Derived.Sort.KeysCollected
import Derived.Maps.OwnSet
namespace Go.Proofs.YtaallpfkgcndmaaDoor.Pm
open Go.Maps
set_option linter.unusedSimpArgs false

abbrev By := List UInt8
abbrev Bd := By × By
/-- An argument: Named, Name, Text. -/
abbrev Val := Bool × By × By

theorem not_lt_of_le {a b : By} (h : a ≤ b) : ¬ b < a := h
theorem lt_of_not_le {a b : By} (h : ¬ a ≤ b) : b < a := List.not_le.1 h
theorem lt_of_le_ne {a b : By} (h : a ≤ b) (hne : a ≠ b) : a < b := by
  rcases Decidable.em (a < b) with h1 | h1
  · exact h1
  · exact absurd (List.le_antisymm h (List.not_lt.1 h1)) hne
theorem lt_le {a b : By} (h : a < b) : a ≤ b := List.le_of_lt h
theorem lt_ne {a b : By} (h : a < b) : a ≠ b := fun e => by subst e; exact List.lt_irrefl _ h

/-- The reference's Put: 'd' tells whether the pair was put already. -/
def rput (n t : By) : Bool → List Bd → List Bd
  | d, [] => if d then [] else [(n, t)]
  | d, x :: r => (if (!d && decide (n ≤ x.1)) then [(n, t)] else []) ++ (if x.1 = n then [] else [x]) ++ rput n t (d || decide (n ≤ x.1)) r
def put (n t : By) (l : List Bd) : List Bd := rput n t false l

theorem rput_true (n t : By) : ∀ l, rput n t true l = l.filter (fun p => decide (p.1 ≠ n))
  | [] => rfl
  | x :: r => by
    simp only [rput, Bool.not_true, Bool.false_and, Bool.true_or, rput_true n t r, List.filter]
    by_cases h : x.1 = n <;> simp [h]

theorem mem_put (n t : By) (p : Bd) : ∀ l, p ∈ put n t l ↔ (p = (n, t) ∨ (p ∈ l ∧ p.1 ≠ n))
  | [] => by simp [put, rput]
  | x :: r => by
    have ih := mem_put n t p r
    unfold put at ih ⊢
    by_cases h : n ≤ x.1
    · by_cases hx : x.1 = n
      · simp [rput, h, rput_true, hx]
        constructor
        · rintro (h1 | h1)
          · exact .inl h1
          · exact .inr ⟨.inr h1.1, h1.2⟩
        · rintro (h1 | ⟨h1 | h1, h2⟩)
          · exact .inl h1
          · exact absurd (h1 ▸ hx) h2
          · exact .inr ⟨h1, h2⟩
      · simp [rput, h, rput_true, hx]
        constructor
        · rintro (h1 | h1 | h1)
          · exact .inl h1
          · exact .inr ⟨.inl h1, h1 ▸ hx⟩
          · exact .inr ⟨.inr h1.1, h1.2⟩
        · rintro (h1 | ⟨h1 | h1, h2⟩)
          · exact .inl h1
          · exact .inr (.inl h1)
          · exact .inr (.inr ⟨h1, h2⟩)
    · have hx : x.1 ≠ n := fun e => h (by rw [e]; exact List.le_refl _)
      simp [rput, h, hx, ih]
      constructor
      · rintro (h1 | h1 | h1)
        · exact .inr ⟨.inl h1, h1 ▸ hx⟩
        · exact .inl h1
        · exact .inr ⟨.inr h1.1, h1.2⟩
      · rintro (h1 | ⟨h1 | h1, h2⟩)
        · exact .inr (.inl h1)
        · exact .inl h1
        · exact .inr (.inr ⟨h1, h2⟩)

def Asc (l : List Bd) : Prop := l.Pairwise (fun a b => a.1 < b.1)
theorem asc_put (n t : By) : ∀ l, Asc l → Asc (put n t l)
  | [], _ => by simp [put, rput, Asc]
  | x :: r, h => by
    obtain ⟨hx, hr⟩ := List.pairwise_cons.1 h
    have ih := asc_put n t r hr
    unfold put at ih ⊢
    have hf : Asc (r.filter (fun p => decide (p.1 ≠ n))) := List.Pairwise.filter _ hr
    by_cases h1 : n ≤ x.1
    · by_cases h2 : x.1 = n
      · have e : rput n t false (x :: r) = (n, t) :: r.filter (fun p => decide (p.1 ≠ n)) := by simp [rput, h1, h2, rput_true]
        rw [e]
        refine List.pairwise_cons.2 ⟨fun p hp => ?_, hf⟩
        have := hx p (List.mem_filter.1 hp).1
        rw [← h2]; exact this
      · have hlt : n < x.1 := lt_of_le_ne h1 (Ne.symm h2)
        have e : rput n t false (x :: r) = (n, t) :: x :: r.filter (fun p => decide (p.1 ≠ n)) := by simp [rput, h1, h2, rput_true]
        rw [e]
        refine List.pairwise_cons.2 ⟨fun p hp => ?_, List.pairwise_cons.2 ⟨fun p hp => hx p (List.mem_filter.1 hp).1, hf⟩⟩
        rcases List.mem_cons.1 hp with rfl | hp
        · exact hlt
        · exact List.lt_trans hlt (hx p (List.mem_filter.1 hp).1)
    · have h2 : x.1 ≠ n := fun e => h1 (by rw [e]; exact List.le_refl _)
      have e : rput n t false (x :: r) = x :: rput n t false r := by simp [rput, h1, h2]
      rw [e]
      refine List.pairwise_cons.2 ⟨fun p hp => ?_, ih⟩
      rcases (mem_put n t p r).1 hp with rfl | ⟨hp, _⟩
      · exact lt_of_not_le h1
      · exact hx p hp
theorem len_rput (n t : By) : ∀ (d : Bool) (l : List Bd), (rput n t d l).length ≤ l.length + (if d then 0 else 1)
  | d, [] => by cases d <;> simp [rput]
  | d, x :: r => by
    have ih := len_rput n t (d || decide (n ≤ x.1)) r
    have e2 : (if x.1 = n then ([] : List Bd) else [x]).length ≤ 1 := by split <;> simp
    cases d with
    | true =>
      simp only [rput, Bool.not_true, Bool.false_and, Bool.false_eq_true, if_false, Bool.true_or, List.length_append, List.length_nil, List.length_cons, if_true] at ih ⊢
      omega
    | false =>
      by_cases h1 : n ≤ x.1
      · simp only [rput, h1, decide_true, Bool.not_false, Bool.and_self, if_true, Bool.or_true, List.length_append, List.length_nil, List.length_cons] at ih ⊢
        simp only [Bool.false_eq_true, if_false]
        omega
      · simp only [rput, h1, decide_false, Bool.not_false, Bool.and_false, Bool.false_eq_true, if_false, Bool.or_self, List.length_append, List.length_nil, List.length_cons] at ih ⊢
        omega
theorem len_put (n t : By) (l : List Bd) : (put n t l).length ≤ l.length + 1 := len_rput n t false l

/-- What the arguments give, in order: dec names the k-th positional one, tr trims. -/
def puts (dec : Nat → By) (tr : By → By) : Nat → List Val → List Bd
  | _, [] => []
  | k, (true, n, t) :: r => (tr n, tr t) :: puts dec tr k r
  | k, (false, _, t) :: r => (dec (k + 1), t) :: puts dec tr (k + 1) r
def bind (l : List Bd) : List Bd := l.foldl (fun a p => put p.1 p.2 a) []

theorem asc_foldl : ∀ (l : List Bd) (a : List Bd), Asc a → Asc (l.foldl (fun a p => put p.1 p.2 a) a)
  | [], _, h => h
  | p :: r, a, h => asc_foldl r _ (asc_put p.1 p.2 a h)
theorem asc_bind (l : List Bd) : Asc (bind l) := asc_foldl l [] List.Pairwise.nil
theorem bind_snoc (l : List Bd) (p : Bd) : bind (l ++ [p]) = put p.1 p.2 (bind l) := by simp [bind]
theorem len_foldl : ∀ (l : List Bd) (a : List Bd), (l.foldl (fun a p => put p.1 p.2 a) a).length ≤ a.length + l.length
  | [], a => by simp
  | p :: r, a => by
    have := len_foldl r (put p.1 p.2 a); have := len_put p.1 p.2 a
    simp; omega
theorem len_bind (l : List Bd) : (bind l).length ≤ l.length := by simpa [bind] using len_foldl l []
theorem len_puts (dec : Nat → By) (tr : By → By) : ∀ (k : Nat) (l : List Val), (puts dec tr k l).length = l.length
  | _, [] => rfl
  | k, (true, _, _) :: r => by simp [puts, len_puts dec tr k r]
  | k, (false, _, _) :: r => by simp [puts, len_puts dec tr (k + 1) r]

/-- The number of positional arguments. -/
def poss : List Val → Nat
  | [] => 0
  | (true, _, _) :: r => poss r
  | (false, _, _) :: r => poss r + 1
theorem puts_append (dec : Nat → By) (tr : By → By) : ∀ (k : Nat) (l m : List Val), puts dec tr k (l ++ m) = puts dec tr k l ++ puts dec tr (k + poss l) m
  | k, [], m => by simp [puts, poss]
  | k, (true, a, b) :: r, m => by simp [puts, poss, puts_append dec tr k r m]
  | k, (false, a, b) :: r, m => by
    simp only [List.cons_append, puts, poss, puts_append dec tr (k + 1) r m]
    rw [show k + 1 + poss r = k + (poss r + 1) by omega]
theorem poss_append : ∀ (l m : List Val), poss (l ++ m) = poss l + poss m
  | [], m => by simp [poss]
  | (true, a, b) :: r, m => by simp [poss, poss_append r m]
  | (false, a, b) :: r, m => by simp only [List.cons_append, poss, poss_append r m]; omega
theorem poss_le : ∀ l : List Val, poss l ≤ l.length
  | [] => Nat.le_refl _
  | (true, _, _) :: r => by have := poss_le r; simp [poss]; omega
  | (false, _, _) :: r => by have := poss_le r; simp [poss]; omega

/-- The text of a name in a sorted list. -/
def find (n : By) : List Bd → Option By
  | [] => none
  | x :: r => if x.1 = n then some x.2 else find n r
theorem find_mem {n t : By} : ∀ {l : List Bd}, find n l = some t → (n, t) ∈ l
  | [], h => by cases h
  | x :: r, h => by
    unfold find at h
    split at h
    · rename_i e; cases h; obtain ⟨a, b⟩ := x; cases e; exact List.mem_cons_self
    · exact List.mem_cons_of_mem _ (find_mem h)
theorem find_none {n : By} : ∀ {l : List Bd}, (∀ p ∈ l, p.1 ≠ n) → find n l = none
  | [], _ => rfl
  | x :: r, h => by
    unfold find
    rw [if_neg (h x List.mem_cons_self)]
    exact find_none (fun p hp => h p (List.mem_cons_of_mem _ hp))
theorem find_asc {n t : By} : ∀ {l : List Bd}, Asc l → (n, t) ∈ l → find n l = some t
  | x :: r, h, hm => by
    obtain ⟨hx, hr⟩ := List.pairwise_cons.1 h
    unfold find
    rcases List.mem_cons.1 hm with e | hm
    · subst e; simp
    · rw [if_neg (lt_ne (hx _ hm))]; exact find_asc hr hm
theorem find_put_same {n t : By} {l : List Bd} (h : Asc l) : find n (put n t l) = some t := find_asc (asc_put n t l h) ((mem_put n t _ l).2 (.inl rfl))
theorem find_put_other {n t m : By} (hne : m ≠ n) {l : List Bd} (h : Asc l) : find m (put n t l) = find m l := by
  cases hf : find m l with
  | some u => exact find_asc (asc_put n t l h) ((mem_put n t _ l).2 (.inr ⟨find_mem hf, hne⟩))
  | none =>
    refine find_none fun p hp => ?_
    rcases (mem_put n t p l).1 hp with rfl | ⟨hp, _⟩
    · exact Ne.symm hne
    · intro e
      obtain ⟨a, b⟩ := p
      cases e
      rw [find_asc h hp] at hf; cases hf

/-- The datum of a map reads as a sorted list. -/
structure Is {H : Type} (D : DataW H) (T : List Bd) : Prop where
  map : IsMap D
  has : ∀ n, Maps.has D (.string n) = (find n T).isSome
  at_ : ∀ n t z, find n T = some t → D.atKey (.string n) z = .lit (.string t)
  asc : Asc T
theorem Is.nil {H : Type} : Is (.map [] : DataW H) [] := ⟨⟨[], rfl⟩, fun n => rfl, (fun n t z h => by cases h), List.Pairwise.nil⟩
theorem str_ne {a b : By} (h : a ≠ b) : Lit.string a ≠ Lit.string b := fun e => h (by cases e; rfl)
theorem Is.put {H : Type} {D : DataW H} {T : List Bd} (h : Is D T) (n t : By) : Is (D.put (.string n) (.lit (.string t))) (put n t T) := by
  refine ⟨h.map.put _ _, fun m => ?_, fun m u z hf => ?_, asc_put n t T h.asc⟩
  · by_cases hm : m = n
    · subst hm; rw [has_put_same h.map (show WideAt.IsKeyLit (.string m) from trivial), find_put_same h.asc]; rfl
    · rw [has_put_other (str_ne hm), h.has, find_put_other hm h.asc]
  · by_cases hm : m = n
    · subst hm
      rw [find_put_same h.asc] at hf; cases hf
      exact atKey_put_same h.map (show WideAt.IsKeyLit (.string m) from trivial) _ _
    · rw [atKey_put_other (str_ne hm)]
      rw [find_put_other hm h.asc] at hf
      exact h.at_ m u z hf
theorem asc_nodup {T : List Bd} (h : Asc T) : (T.map Prod.fst).Nodup := List.pairwise_map.2 (h.imp fun hab => lt_ne hab)
theorem mem_names {n : By} {T : List Bd} : n ∈ T.map Prod.fst ↔ (find n T).isSome = true := by
  constructor
  · intro h
    cases hf : find n T with
    | some t => rfl
    | none =>
      exfalso
      induction T with
      | nil => cases h
      | cons x r ih =>
        unfold find at hf
        split at hf
        · cases hf
        · rename_i hne
          rcases List.mem_cons.1 h with e | h
          · exact hne e.symm
          · exact ih h hf
  · intro h
    cases hf : find n T with
    | none => rw [hf] at h; cases h
    | some t => exact List.mem_map.2 ⟨_, find_mem hf, rfl⟩
/-- The keys of the map, sorted, are the names of the list. -/
theorem Is.sorted {H : Type} {D : DataW H} {T : List Bd} (h : Is D T) {P : Program} {k : TypeId} {R : Value → Option (DataW H × List MemPlace)} {w : World} {b n : Nat} (hown : w.ownsMap P k R b n D) (K : Keyed P k) (hk : P.underlying k = some .string)
    {ss : List By} (hp : ss.Perm (strKeys D)) : ss.mergeSort leB = T.map Prod.fst := by
  obtain ⟨es, hD, hpw, _⟩ := hown.entries K
  obtain ⟨es', hD', hko⟩ := hown.keysOf
  obtain rfl : es = es' := by rw [hD] at hD'; simpa using hD'
  subst hD
  have hq : (T.map Prod.fst).Perm (strKeys (.map es)) := perm_strKeys hpw (fun p hp => by obtain ⟨v, hv⟩ := hko p hp; obtain ⟨x, _, hx, _⟩ := Maps.keyOf_str hk hv; exact ⟨x, hx⟩) (asc_nodup h.asc) (fun x => by rw [h.has x]; exact mem_names)
  rw [mergeSort_of_perm (hp.trans hq.symm)]
  exact List.mergeSort_of_pairwise (List.pairwise_map.2 (h.asc.imp fun hab => by simpa [leB] using lt_le hab))
end Go.Proofs.YtaallpfkgcndmaaDoor.Pm
