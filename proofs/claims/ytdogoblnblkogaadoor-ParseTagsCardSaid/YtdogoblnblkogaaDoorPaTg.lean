/-
  A tag around a text without "<": its content is the tree of the text by itself.
-/
import Derived.Test.YtdogoblnblkogaaDoorPaF
namespace Go.Proofs.YtdogoblnblkogaaDoor.Pa
open Go.Proofs.YtdogoblnblkogaaDoor.Tr
set_option linter.unusedVariables false

/-! ### The tokens -/
theorem run_sep {c d : UInt8} (hc : d ≠ c) (b : List UInt8) : ∀ l : List UInt8, Tk.run c (l ++ d :: b) = Tk.run c l
  | [] => by unfold Tk.run; rw [List.nil_append, List.takeWhile_cons_of_neg (by simpa using hc)]; rfl
  | a :: l => by
    have ih := run_sep hc b l
    unfold Tk.run at ih ⊢
    by_cases h : a = c
    · subst h
      rw [List.cons_append, List.takeWhile_cons_of_pos (by simp), List.takeWhile_cons_of_pos (by simp), List.length_cons, List.length_cons, ih]
    · rw [List.cons_append, List.takeWhile_cons_of_neg (by simpa using h), List.takeWhile_cons_of_neg (by simpa using h)]
theorem pair_sep {k : Nat} {c : UInt8} (hc : c ≠ 60) (r b : List UInt8) : Tk.pair k (c :: r ++ 60 :: b) = Tk.pair k (c :: r) := by
  cases r with
  | nil =>
    show (if (60 : UInt8) = c then (k, 2) else (0, 0)) = (0, 0)
    rw [if_neg (fun e => hc e.symm)]
  | cons d r => rfl
/-- In front of a "<" the marks are those of the text by itself. -/
theorem mark_sep {c : UInt8} (hc : c ≠ 60) (r b : List UInt8) : Tk.mark (c :: r ++ 60 :: b) = Tk.mark (c :: r) := by
  have hb : ∀ d k, d ≠ 60 → Tk.braces d k (c :: r ++ 60 :: b) = Tk.braces d k (c :: r) := fun d k hd => by
    unfold Tk.braces
    rw [run_sep (fun e => hd e.symm)]
  rcases Tk.byte_cases c with h | h | h | h | h | h | h | h | ⟨h1, h2, h3, h4, h5, h6, h7, h8⟩
  · exact absurd h hc
  · subst h; rw [List.cons_append, Tk.m123, Tk.m123, ← List.cons_append, hb _ _ (by decide)]
  · subst h; rw [List.cons_append, Tk.m125, Tk.m125, ← List.cons_append, hb _ _ (by decide)]
  · subst h; rw [List.cons_append, Tk.m91, Tk.m91, ← List.cons_append, pair_sep hc]
  · subst h; rw [List.cons_append, Tk.m93, Tk.m93, ← List.cons_append, pair_sep hc]
  · subst h; rfl
  · subst h; rfl
  · subst h; rfl
  · rw [List.cons_append, Tk.mo _ h1 h2 h3 h4 h5 h6 h7 h8, Tk.mo _ h1 h2 h3 h4 h5 h6 h7 h8]
/-- Kinds of marks that are no angle. -/
theorem mark_low {c : UInt8} (hc : c ≠ 60) (r : List UInt8) : (Tk.mark (c :: r)).1 ≤ 8 := by
  have hb : ∀ d k, k ≤ 8 → (Tk.braces d k (c :: r)).1 ≤ 8 := fun d k hk => by
    unfold Tk.braces; split
    · exact Nat.zero_le _
    · exact hk
  have hp : ∀ k, k ≤ 8 → (Tk.pair k (c :: r)).1 ≤ 8 := fun k hk => by
    cases r with
    | nil => exact Nat.zero_le _
    | cons d r =>
      show (if d = c then (k, 2) else (0, 0)).1 ≤ 8
      split
      · exact hk
      · exact Nat.zero_le _
  rcases Tk.byte_cases c with h | h | h | h | h | h | h | h | ⟨h1, h2, h3, h4, h5, h6, h7, h8⟩
  · exact absurd h hc
  · subst h; rw [Tk.m123]; exact hb _ _ (by decide)
  · subst h; rw [Tk.m125]; exact hb _ _ (by decide)
  · subst h; rw [Tk.m91]; exact hp _ (by decide)
  · subst h; rw [Tk.m93]; exact hp _ (by decide)
  · subst h; rw [Tk.m124]; decide
  · subst h; rw [Tk.m61]; decide
  · subst h; rw [Tk.m10]; decide
  · rw [Tk.mo _ h1 h2 h3 h4 h5 h6 h7 h8]; decide
theorem tk_app (s q : List UInt8) (x : Tk.Tok) (h : x.2.1 ≤ s.length) (h2 : x.2.2 ≤ s.length) : tk (s ++ q) x = tk s x := by
  have e : ((s ++ q).drop x.2.1).take (x.2.2 - x.2.1) = (s.drop x.2.1).take (x.2.2 - x.2.1) := by
    rw [List.drop_append_of_le_length h, List.take_append_of_le_length (by rw [List.length_drop]; omega)]
  unfold tk
  rw [e]
theorem gap_app (s q : List UInt8) {a b : Nat} (ha : a ≤ s.length) (hb : b ≤ s.length) : (Tk.gap a b).map (tk (s ++ q)) = (Tk.gap a b).map (tk s) := by
  unfold Tk.gap
  split
  · rfl
  · show [tk (s ++ q) (1, a, b)] = [tk s (1, a, b)]
    rw [tk_app s q _ ha hb]
theorem scan_sep {s q : List UInt8} {k : Nat} (hs : ∀ c ∈ s, c ≠ 60) (hq : ∃ b, q = 60 :: b) (hm : Tk.mark q = (k, q.length)) : ∀ (n text i : Nat), s.length - i ≤ n → text ≤ i → i ≤ s.length →
    (Tk.scanL (s ++ q) text i).map (tk (s ++ q)) = (Tk.scanL s text i).map (tk s) ++ [tk (s ++ q) (k, s.length, s.length + q.length)] := by
  obtain ⟨b, hb⟩ := hq
  have hq1 : 1 ≤ q.length := by rw [hb]; simp
  have hdrop : (s ++ q).drop s.length = q := by simp
  have hend : ∀ text, text ≤ s.length → (Tk.scanL (s ++ q) text s.length).map (tk (s ++ q)) = (Tk.gap text s.length).map (tk s) ++ [tk (s ++ q) (k, s.length, s.length + q.length)] := fun text ht => by
    rw [Tk.scan_yes (by rw [List.length_append]; omega) (by rw [hdrop, hm]; show q.length ≠ 0; omega), hdrop, hm]
    show (Tk.gap text s.length ++ (k, s.length, s.length + q.length) :: Tk.scanL (s ++ q) (s.length + q.length) (s.length + q.length)).map _ = _
    rw [Tk.scan_end (by rw [List.length_append]; omega), show Tk.gap (s.length + q.length) (s ++ q).length = [] from by unfold Tk.gap; rw [List.length_append, if_pos rfl], List.map_append, gap_app s q ht (Nat.le_refl _)]
    rfl
  intro n
  induction n with
  | zero =>
    intro text i hn ht hi
    obtain rfl : i = s.length := by omega
    rw [hend text ht, Tk.scan_end (by omega)]
  | succ n ih =>
    intro text i hn ht hi
    by_cases hlt : i < s.length
    · have hd : (s ++ q).drop i = s.drop i ++ q := List.drop_append_of_le_length hi
      have hc : s.drop i = s[i] :: s.drop (i + 1) := List.drop_eq_getElem_cons hlt
      have hmk : Tk.mark ((s ++ q).drop i) = Tk.mark (s.drop i) := by
        rw [hd, hc, hb, mark_sep (hs _ (List.getElem_mem hlt))]
      have hlen : i < (s ++ q).length := by rw [List.length_append]; omega
      by_cases h0 : (Tk.mark (s.drop i)).2 = 0
      · rw [Tk.scan_no hlen (by rw [hmk]; exact h0), Tk.scan_no hlt h0]
        exact ih text (i + 1) (by omega) (by omega) (by omega)
      · have hle := Tk.mark_le (s.drop i)
        rw [List.length_drop] at hle
        rw [Tk.scan_yes hlen (by rw [hmk]; exact h0), Tk.scan_yes hlt h0, hmk, List.map_append, List.map_cons, List.map_append, List.map_cons, gap_app s q (by omega) hi, tk_app s q _ hi (by show i + _ ≤ _; omega), ih _ _ (by omega) (Nat.le_refl _) (by omega), List.append_assoc]
        rfl
    · obtain rfl : i = s.length := by omega
      rw [hend text ht, Tk.scan_end (by omega)]
theorem scan_low {s : List UInt8} (hs : ∀ c ∈ s, c ≠ 60) : ∀ (n text i : Nat), s.length - i ≤ n → ∀ x ∈ Tk.scanL s text i, x.1 ≤ 8 := by
  have hg : ∀ a b, ∀ x ∈ Tk.gap a b, x.1 ≤ 8 := fun a b x hx => by
    unfold Tk.gap at hx
    split at hx
    · cases hx
    · rw [List.mem_singleton] at hx; subst hx; show (1 : Nat) ≤ 8; decide
  intro n
  induction n with
  | zero => intro text i hn x hx; rw [Tk.scan_end (by omega)] at hx; exact hg _ _ x hx
  | succ n ih =>
    intro text i hn x hx
    by_cases hlt : i < s.length
    · have hc : s.drop i = s[i] :: s.drop (i + 1) := List.drop_eq_getElem_cons hlt
      by_cases h0 : (Tk.mark (s.drop i)).2 = 0
      · rw [Tk.scan_no hlt h0] at hx; exact ih _ _ (by omega) x hx
      · rw [Tk.scan_yes hlt h0, List.mem_append, List.mem_cons] at hx
        rcases hx with hx | rfl | hx
        · exact hg _ _ x hx
        · show (Tk.mark (s.drop i)).1 ≤ 8
          rw [hc]; exact mark_low (hs _ (List.getElem_mem hlt)) _
        · exact ih _ _ (by omega) x hx
    · rw [Tk.scan_end hlt] at hx; exact hg _ _ x hx
theorem mark_open {t : Nat} (h1 : 1 ≤ t) (h3 : t ≤ 3) (X : List UInt8) : Tk.mark (Tk.tO t ++ X) = (11, (Tk.tO t).length) := by
  have h : t = 1 ∨ t = 2 ∨ t = 3 := by omega
  rcases h with rfl | rfl | rfl <;> rfl
theorem mark_shut {t : Nat} (h1 : 1 ≤ t) (h3 : t ≤ 3) : Tk.mark (Tk.tE t) = (12, (Tk.tE t).length) := by
  have h : t = 1 ∨ t = 2 ∨ t = 3 := by omega
  rcases h with rfl | rfl | rfl <;> rfl
theorem toks_tag {s : List UInt8} (hs : ∀ c ∈ s, c ≠ 60) {t : Nat} (h1 : 1 ≤ t) (h3 : t ≤ 3) : toks (Tk.tO t ++ (s ++ Tk.tE t)) = (11, Tk.tO t, (t : Int)) :: (toks s ++ [(12, Tk.tE t, (t : Int))]) := by
  obtain ⟨q, hq⟩ : ∃ b, Tk.tE t = 60 :: b := by
    have h : t = 1 ∨ t = 2 ∨ t = 3 := by omega
    rcases h with rfl | rfl | rfl <;> exact ⟨_, rfl⟩
  have hlo : (Tk.tO t).length ≠ 0 := by
    have h : t = 1 ∨ t = 2 ∨ t = 3 := by omega
    rcases h with rfl | rfl | rfl <;> decide
  have hg := tgOf_open t h1 h3
  have h2 := scan_sep (k := 12) hs ⟨q, hq⟩ (mark_shut h1 h3) s.length 0 0 (by omega) (Nat.le_refl _) (Nat.zero_le _)
  have hsh := Tk.scan_shift (Tk.tO t) (s ++ Tk.tE t) (s ++ Tk.tE t).length 0 0 (by omega)
  unfold toks
  rw [Tk.scan_yes (by rw [List.length_append]; omega) (by rw [List.drop_zero, mark_open h1 h3]; exact hlo), List.drop_zero, mark_open h1 h3]
  show (Tk.gap 0 0 ++ (11, 0, 0 + (Tk.tO t).length) :: Tk.scanL _ (0 + (Tk.tO t).length) (0 + (Tk.tO t).length)).map _ = _
  rw [Nat.zero_add, show Tk.scanL (Tk.tO t ++ (s ++ Tk.tE t)) (Tk.tO t).length (Tk.tO t).length = _ from hsh, show Tk.gap 0 0 = [] from rfl, List.nil_append, List.map_cons, List.map_map]
  have e1 : tk (Tk.tO t ++ (s ++ Tk.tE t)) (11, 0, (Tk.tO t).length) = (11, Tk.tO t, (t : Int)) := by
    unfold tk
    simp only [List.drop_zero, Nat.sub_zero]
    rw [show (Tk.tO t ++ (s ++ Tk.tE t)).take (Tk.tO t).length = Tk.tO t from by simp, hg.1]
  have e2 : (tk (Tk.tO t ++ (s ++ Tk.tE t)) ∘ Tk.shift (Tk.tO t).length) = tk (s ++ Tk.tE t) := by
    funext x
    show tk _ (Tk.shift _ x) = _
    have : ((Tk.tO t ++ (s ++ Tk.tE t)).drop (x.2.1 + (Tk.tO t).length)).take (x.2.2 + (Tk.tO t).length - (x.2.1 + (Tk.tO t).length)) = ((s ++ Tk.tE t).drop x.2.1).take (x.2.2 - x.2.1) := by
      rw [Nat.add_comm x.2.1, ← List.drop_drop, show (Tk.tO t ++ (s ++ Tk.tE t)).drop (Tk.tO t).length = s ++ Tk.tE t from by simp]
      congr 1; omega
    unfold tk Tk.shift
    rw [this]
  have e3 : tk (s ++ Tk.tE t) (12, s.length, s.length + (Tk.tE t).length) = (12, Tk.tE t, (t : Int)) := by
    unfold tk
    simp only [Nat.add_sub_cancel_left]
    rw [show (s ++ Tk.tE t).drop s.length = Tk.tE t from by simp, List.take_length, hg.2]
  rw [e1, e2, h2, e3]

/-! ### The stack -/
/-- The stack with a tag in the place of the root, above another root. -/
def em (t : Int) (op : List UInt8) : List El → List El
  | [] => []
  | [e] => [⟨2, op, t, e.nodes, []⟩, root]
  | e :: f :: st => e :: em t op (f :: st)
def N2 (st : List El) : Prop := ∀ e ∈ st, e.kind ≠ 2
variable {t : Int} {op : List UInt8}
theorem em_cons {e : El} {st : List El} (h : st ≠ []) : em t op (e :: st) = e :: em t op st := by
  cases st with
  | nil => exact absurd rfl h
  | cons f st => rfl
theorem em_len : ∀ {st : List El}, st ≠ [] → (em t op st).length = st.length + 1
  | [], h => absurd rfl h
  | [e], _ => rfl
  | e :: f :: st, _ => by rw [em, List.length_cons, em_len (by simp)]; rfl
theorem addN_nn {st : List El} (h : st ≠ []) (l : List Nd) : addN st l ≠ [] := by
  cases st with
  | nil => exact absurd rfl h
  | cons e st => simp [addN]
theorem em_addN : ∀ {st : List El}, Inv st → ∀ l, em t op (addN st l) = addN (em t op st) l
  | [], h, _ => h.elim
  | [e], h, l => by
    show em t op [addE e l] = [addE ⟨2, op, t, e.nodes, []⟩ l, root]
    have h1 : addE e l = { e with nodes := e.nodes ++ l } := by unfold addE; rw [h.2.1]; rfl
    rw [h1]; rfl
  | e :: f :: st, h, l => rfl
theorem em_addT {st : List El} (h : Inv st) (s : List UInt8) : em t op (addT st s) = addT (em t op st) s := em_addN h _
theorem em_flatten : ∀ {e f : El} {st : List El}, Inv (e :: f :: st) → em t op (flatten (e :: f :: st)) = flatten (em t op (e :: f :: st)) := fun {e f st} h => by
  show em t op (addN (f :: st) (flatE e)) = addN (em t op (f :: st)) (flatE e)
  exact em_addN h.2.2 _
theorem em_flats : ∀ (n : Nat) {st : List El}, Inv st → n < st.length → em t op (flats n st) = flats n (em t op st)
  | 0, _, _, _ => rfl
  | n + 1, e :: f :: st, h, hn => by
    rw [flats, flats, ← em_flatten h]
    exact em_flats n h.flatten (by rw [len_flatten]; simp only [List.length_cons] at *; omega)
  | n + 1, [e], _, hn => by simp at hn
theorem em_brace : ∀ {st : List El}, Inv st → braceAt (em t op st) = braceAt st
  | [e], h => by
    show braceAt [⟨2, op, t, e.nodes, []⟩, root] = braceAt [e]
    unfold braceAt
    rw [if_neg (show ¬ (2 : Nat) = 3 by decide), if_pos rfl, if_neg (by rw [h.1]; decide), if_neg (by rw [h.1]; decide)]
    rfl
  | e :: f :: st, h => by
    have ih := em_brace h.2.2
    show braceAt (e :: em t op (f :: st)) = braceAt (e :: f :: st)
    rw [braceAt, ih]
    rfl
theorem em_tag : ∀ {st : List El}, Inv st → N2 st → tagAt t (em t op st) = some (st.length - 1)
  | [e], h, _ => by
    show tagAt t [⟨2, op, t, e.nodes, []⟩, root] = some 0
    unfold tagAt
    rw [if_pos ⟨rfl, rfl⟩]
  | e :: f :: st, h, hn => by
    have ih := em_tag h.2.2 (fun x hx => hn x (List.mem_cons_of_mem _ hx))
    show tagAt t (e :: em t op (f :: st)) = _
    rw [tagAt, if_neg (fun q => hn e List.mem_cons_self q.1), ih]
    simp
theorem N2.add {st : List El} (h : N2 st) (l : List Nd) : N2 (addN st l) := by
  cases st with
  | nil => exact h
  | cons e st =>
    intro x hx
    rcases List.mem_cons.1 hx with rfl | hx
    · rw [(addE_kind e l).1]; exact h e List.mem_cons_self
    · exact h x (List.mem_cons_of_mem _ hx)
theorem N2.tail {e : El} {st : List El} (h : N2 (e :: st)) : N2 st := fun x hx => h x (List.mem_cons_of_mem _ hx)
theorem N2.flats : ∀ (n : Nat) {st : List El}, N2 st → N2 (flats n st)
  | 0, _, h => h
  | n + 1, [], h => N2.flats n h
  | n + 1, e :: st, h => N2.flats n (h.tail.add _)
theorem N2.cons {e : El} {st : List El} (he : e.kind ≠ 2) (h : N2 st) : N2 (e :: st) := fun x hx => by
  rcases List.mem_cons.1 hx with rfl | hx
  · exact he
  · exact h x hx
theorem em_close1 {e f : El} {st : List El} (h : Inv (e :: f :: st)) (c : Nat) : (close1 (em t op (e :: f :: st)) c) = (em t op (close1 (e :: f :: st) c).1, (close1 (e :: f :: st) c).2) := by
  show close1 (e :: em t op (f :: st)) c = _
  unfold close1
  simp only
  generalize (if 3 ≤ c ∧ 3 ≤ e.op.length then 3 else 2) = k
  split
  · rfl
  · have e1 := em_addN (t := t) (op := op) (h.2.2.add [tx (e.op.drop k)]) [Nd.mk (if k = 3 then 5 else 4) 0 ⟨#[]⟩ e.nodes e.args]
    have e2 := em_addT (t := t) (op := op) h.2.2 (e.op.drop k)
    show (addN (addT (em t op (f :: st)) (e.op.drop k)) _, k) = (em t op (addN (addT (f :: st) (e.op.drop k)) _), k)
    rw [← e2]
    exact congrArg (·, k) e1.symm
theorem N2.close1 {e : El} {st : List El} (h : N2 (e :: st)) (c : Nat) : N2 (close1 (e :: st) c).1 := by
  unfold Pa.close1
  simp only
  generalize (if 3 ≤ c ∧ 3 ≤ e.op.length then 3 else 2) = k
  split
  · exact N2.cons (show (3 : Nat) ≠ 2 by decide) h.tail
  · exact (h.tail.add _).add _
theorem len_close1 (e : El) (st : List El) (c : Nat) : (close1 (e :: st) c).1.length ≤ st.length + 1 := by
  unfold Pa.close1
  simp only
  generalize (if 3 ≤ c ∧ 3 ≤ e.op.length then 3 else 2) = k
  split
  · exact Nat.le_refl _
  · rw [len_addN, show (addT st (e.op.drop k)).length = st.length from len_addN _ _]; omega
theorem em_closeB : ∀ (f : Nat) {st : List El}, Inv st → N2 st → ∀ (n : Nat), em t op (closeB f st (List.replicate n 125)) = closeB f (em t op st) (List.replicate n 125) ∧ N2 (closeB f st (List.replicate n 125)) ∧ (closeB f st (List.replicate n 125)).length ≤ st.length
  | 0, st, h, h2, n => ⟨em_addT h _, h2.add _, by rw [closeB, addT, len_addN]; exact Nat.le_refl _⟩
  | f + 1, st, h, h2, n => by
    unfold closeB
    rw [em_brace h]
    split
    · exact ⟨em_addT h _, h2.add _, by rw [addT, len_addN]; exact Nat.le_refl _⟩
    · rename_i hl2
      rw [List.length_replicate] at hl2
      cases hq : braceAt st with
      | none => exact ⟨em_addT h _, h2.add _, by rw [addT, len_addN]; exact Nat.le_refl _⟩
      | some i =>
        have hl := braceAt_lt h hq
        have hf := flats_src i st (by omega)
        have hi := h.flats i (by omega)
        have ht := braceAt_flats h hq
        have hn2 := h2.flats i
        obtain ⟨e, r, e1, ho, hk, hr⟩ := top2 hi (by omega)
        have hrl : r.length + 1 ≤ st.length := by
          have := hf.2; rw [e1, List.length_cons] at this; omega
        dsimp only
        rw [← em_flats i h (by omega)]
        rw [e1] at ht hn2
        simp only [e1, List.length_replicate, List.drop_replicate]
        obtain ⟨g, r', rfl⟩ : ∃ g r', r = g :: r' := by
          cases r with
          | nil => exact hr.elim
          | cons g r' => exact ⟨g, r', rfl⟩
        rw [em_close1 ⟨hk, ho, hr⟩]
        have c1 := close1_src hr ho (brace_top ht) n (by omega)
        have ih := em_closeB f (st := (Pa.close1 (e :: g :: r') n).1) c1.2.1 (hn2.close1 n) (n - (Pa.close1 (e :: g :: r') n).2)
        have hlc := len_close1 e (g :: r') n
        exact ⟨ih.1, ih.2.1, by have := ih.2.2; omega⟩
/-- One token. -/
theorem em_take {st : List El} (h : Inv st) (h2 : N2 st) {k : Nat} {s : List UInt8} {u : Int} (hf : TF k s u) (hk : k ≤ 8) (hl : k = 3 ∨ k = 5 → st.length ≤ 19) :
    em t op (take st k s u) = take (em t op st) k s u ∧ N2 (take st k s u) ∧ (take st k s u).length ≤ st.length + (if k = 3 ∨ k = 5 then 1 else 0) := by
  have htx : em t op (addT st s) = addT (em t op st) s ∧ N2 (addT st s) ∧ ∀ m, (addT st s).length ≤ st.length + m := ⟨em_addT h s, h2.add _, fun m => by rw [addT, len_addN]; omega⟩
  have hpush : ∀ e : El, e.kind ≠ 2 → st.length ≤ 19 → em t op (push st e) = push (em t op st) e ∧ N2 (push st e) ∧ (push st e).length ≤ st.length + 1 := fun e he hs => by
    unfold push
    rw [if_neg (by omega), if_neg (by rw [em_len h.ne]; omega), em_cons h.ne]
    exact ⟨rfl, N2.cons he h2, Nat.le_refl _⟩
  by_cases k3 : k = 3
  · subst k3
    exact hpush ⟨3, s, 0, [], []⟩ (show (3 : Nat) ≠ 2 by decide) (hl (.inl rfl))
  by_cases k5 : k = 5
  · subst k5
    exact hpush ⟨1, s, 0, [], []⟩ (show (1 : Nat) ≠ 2 by decide) (hl (.inr rfl))
  rw [if_neg (show ¬ (k = 3 ∨ k = 5) by omega)]
  by_cases k7 : k = 7
  · subst k7
    match st, h, h2, htx with
    | [e], h, h2, htx =>
      show em t op (bar [e] s) = bar [⟨2, op, t, e.nodes, []⟩, root] s ∧ N2 (bar [e] s) ∧ (bar [e] s).length ≤ _
      have hb : bar [e] s = addT [e] s := if_neg (by rw [h.1]; decide)
      rw [hb]
      exact ⟨htx.1, htx.2.1, htx.2.2 0⟩
    | e :: f :: r, h, h2, htx =>
      show em t op (bar (e :: f :: r) s) = bar (e :: em t op (f :: r)) s ∧ N2 (bar (e :: f :: r) s) ∧ (bar (e :: f :: r) s).length ≤ _
      by_cases hk3 : e.kind = 3
      · have hb : ∀ q, bar (e :: q) s = { e with args := e.args ++ [.mk false [] []] } :: q := fun q => if_pos hk3
        rw [hb, hb]
        exact ⟨rfl, N2.cons (h2 e List.mem_cons_self) h2.tail, Nat.le_refl _⟩
      · have hb : ∀ q, bar (e :: q) s = addT (e :: q) s := fun q => if_neg hk3
        rw [hb, hb]
        exact ⟨htx.1, htx.2.1, htx.2.2 0⟩
  by_cases k8 : k = 8
  · subst k8
    match st, h, h2, htx with
    | [e], h, h2, htx =>
      show em t op (equal [e] s) = equal [⟨2, op, t, e.nodes, []⟩, root] s ∧ N2 (equal [e] s) ∧ (equal [e] s).length ≤ _
      have hb : equal [e] s = addT [e] s := if_pos (by rw [h.2.1]; rfl)
      rw [hb]
      exact ⟨htx.1, htx.2.1, htx.2.2 0⟩
    | e :: f :: r, h, h2, htx =>
      show em t op (equal (e :: f :: r) s) = equal (e :: em t op (f :: r)) s ∧ N2 (equal (e :: f :: r) s) ∧ (equal (e :: f :: r) s).length ≤ _
      cases hln : lastNamed e.args
      · have hb : ∀ q, equal (e :: q) s = { e with args := nameA e.args } :: q := fun q => if_neg (by rw [hln]; exact Bool.false_ne_true)
        rw [hb, hb]
        exact ⟨rfl, N2.cons (h2 e List.mem_cons_self) h2.tail, Nat.le_refl _⟩
      · have hb : ∀ q, equal (e :: q) s = addT (e :: q) s := fun q => if_pos hln
        rw [hb, hb]
        exact ⟨htx.1, htx.2.1, htx.2.2 0⟩
  by_cases k6 : k = 6
  · subst k6
    match st, h, h2, htx with
    | [e], h, h2, htx =>
      show em t op (linkEnd [e] s) = linkEnd [⟨2, op, t, e.nodes, []⟩, root] s ∧ N2 (linkEnd [e] s) ∧ (linkEnd [e] s).length ≤ _
      have hb : linkEnd [e] s = addT [e] s := if_neg (by rw [h.1]; decide)
      rw [hb]
      exact ⟨htx.1, htx.2.1, htx.2.2 0⟩
    | e :: f :: r, h, h2, htx =>
      show em t op (linkEnd (e :: f :: r) s) = linkEnd (e :: em t op (f :: r)) s ∧ N2 (linkEnd (e :: f :: r) s) ∧ (linkEnd (e :: f :: r) s).length ≤ _
      by_cases hk1 : e.kind = 1
      · have hb : ∀ q, linkEnd (e :: q) s = addT (flatten (e :: q)) s := fun q => if_pos hk1
        rw [hb, hb]
        refine ⟨?_, (h2.tail.add _).add _, ?_⟩
        · rw [em_addT h.flatten, em_flatten h]; rfl
        · rw [addT, len_addN, len_flatten]; simp
      · have hb : ∀ q, linkEnd (e :: q) s = addT (e :: q) s := fun q => if_neg hk1
        rw [hb, hb]
        exact ⟨htx.1, htx.2.1, htx.2.2 0⟩
  by_cases k4 : k = 4
  · subst k4
    have e := hf.c4 rfl
    have := em_closeB (t := t) (op := op) s.length h h2 s.length
    rw [← e] at this
    exact this
  · have hT : ∀ q, take q k s u = addT q s := fun q => by
      unfold take
      rw [if_neg (show ¬ k = 9 by omega), if_neg (show ¬ k = 10 by omega), if_neg k3, if_neg k5, if_neg (show ¬ k = 11 by omega), if_neg k7, if_neg k8, if_neg k6, if_neg (show ¬ k = 12 by omega), if_neg k4]
    rw [hT, hT]
    exact ⟨htx.1, htx.2.1, htx.2.2 0⟩
/-- How many elements the tokens open. -/
def opn? (k : Nat) : Bool := k == 3 || k == 5
def opens (l : List (Nat × List UInt8 × Int)) : Nat := (l.filter (fun x => opn? x.1)).length
theorem em_takes : ∀ (l : List (Nat × List UInt8 × Int)) {st : List El}, Inv st → N2 st → (∀ x ∈ l, TF x.1 x.2.1 x.2.2 ∧ x.1 ≤ 8) → st.length + opens l ≤ 20 →
    em t op (takes l st) = takes l (em t op st) ∧ N2 (takes l st)
  | [], st, h, h2, _, _ => ⟨rfl, h2⟩
  | x :: l, st, h, h2, hf, hl => by
    obtain ⟨hx, hk⟩ := hf x List.mem_cons_self
    have ho : opens (x :: l) = (if x.1 = 3 ∨ x.1 = 5 then 1 else 0) + opens l := by
      unfold opens
      rw [List.filter_cons]
      by_cases hq : x.1 = 3 ∨ x.1 = 5
      · have : opn? x.1 = true := by unfold opn?; rcases hq with hq | hq <;> rw [hq] <;> rfl
        rw [if_pos this, if_pos hq, List.length_cons]; omega
      · have : opn? x.1 = false := by
          unfold opn?
          rw [Bool.or_eq_false_iff, beq_eq_false_iff_ne, beq_eq_false_iff_ne]; omega
        rw [this, if_neg hq, Nat.zero_add]; rfl
    have h1 := em_take (t := t) (op := op) h h2 hx hk (fun hq => by rw [if_pos hq] at ho; omega)
    have hi := (take_src h hx).2
    have ih := em_takes l hi h1.2.1 (fun y hy => hf y (List.mem_cons_of_mem _ hy)) (by have := h1.2.2; omega)
    show em t op (takes l (take st x.1 x.2.1 x.2.2)) = takes l (take (em t op st) x.1 x.2.1 x.2.2) ∧ _
    rw [← h1.1]
    exact ih
/-- The tree of a text within a tag. -/
theorem tree_tag {s : List UInt8} (hs : ∀ c ∈ s, c ≠ 60) {t : Nat} (h1 : 1 ≤ t) (h3 : t ≤ 3) (ho : opens (toks s) < 20) : tree (toks (Tk.tO t ++ (s ++ Tk.tE t))) = [.mk 6 (t : Int) ⟨#[]⟩ (tree (toks s)) []] := by
  have h0 : Inv [root] := ⟨rfl, rfl, rfl⟩
  have hn0 : N2 [root] := N2.cons (show (0 : Nat) ≠ 2 by decide) (fun x hx => by cases hx)
  have hok := scan_ok s s.length 0 0 (by omega) (Nat.le_refl _) (Nat.zero_le _)
  have hlow : ∀ x ∈ toks s, TF x.1 x.2.1 x.2.2 ∧ x.1 ≤ 8 := fun x hx => by
    refine ⟨hok.1 x hx, ?_⟩
    obtain ⟨y, hy, rfl⟩ := List.mem_map.1 hx
    exact scan_low hs s.length 0 0 (by omega) y hy
  obtain ⟨hA, hN⟩ := em_takes (t := (t : Int)) (op := Tk.tO t) (toks s) h0 hn0 hlow (by show 1 + _ ≤ 20; omega)
  have hI := (takes_src (toks s) h0 (fun x hx => (hlow x hx).1)).2
  have e1 : takes (toks (Tk.tO t ++ (s ++ Tk.tE t))) [root] = tagEnd (em (t : Int) (Tk.tO t) (takes (toks s) [root])) (Tk.tE t) (t : Int) := by
    rw [toks_tag hs h1 h3, hA]
    show takes (toks s ++ [_]) (take [root] 11 (Tk.tO t) (t : Int)) = _
    unfold takes
    rw [List.foldl_append]
    rfl
  have e2 : tree (toks s) = join (nodesOf (flats ((takes (toks s) [root]).length - 1) (takes (toks s) [root]))) := rfl
  generalize takes (toks s) [root] = A at hI hN e1 e2
  have hpos : 0 < A.length := List.length_pos_iff.2 hI.ne
  have hft := em_tag (t := (t : Int)) (op := Tk.tO t) hI hN
  have hem := em_flats (t := (t : Int)) (op := Tk.tO t) (A.length - 1) hI (by omega)
  have hfl := (flats_src (A.length - 1) A (by omega)).2
  have e3 : tagEnd (em (t : Int) (Tk.tO t) A) (Tk.tE t) (t : Int) = addN [root] [.mk 6 (t : Int) ⟨#[]⟩ (nodesOf (flats (A.length - 1) A)) []] := by
    unfold tagEnd
    rw [hft]
    simp only
    rw [← hem]
    match hq : flats (A.length - 1) A, hfl with
    | [e], _ => rfl
    | [], hfl => simp at hfl; omega
    | e :: f :: r, hfl => simp at hfl; omega
  unfold tree at e2 ⊢
  rw [e1, e3, e2]
  show join [.mk 6 (t : Int) ⟨#[]⟩ (nodesOf (flats (A.length - 1) A)) []] = _
  rw [join_cons, join_nil, joinN_eq]
  refine (if_neg (show ¬ (6 : Int) = 1 by decide)).trans ?_
  unfold jb
  simp only [Nd.kind, Nd.tag, Nd.text, Nd.kids, Nd.args, joinA_nil]
end Go.Proofs.YtdogoblnblkogaaDoor.Pa
