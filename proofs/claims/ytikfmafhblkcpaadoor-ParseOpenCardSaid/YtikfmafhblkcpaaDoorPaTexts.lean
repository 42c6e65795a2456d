/-
  Where no token closes a brace or a tag, is a comment or a nowiki, the tree is one text, plain.
-/
import Derived.Test.YtikfmafhblkcpaaDoorPaPlain
namespace Go.Proofs.YtikfmafhblkcpaaDoor.Pa
open Go.Proofs.YtikfmafhblkcpaaDoor Go.Proofs.YtikfmafhblkcpaaDoor.Tr

/-- A list of texts. -/
def TxL (l : List Nd) : Prop := ∃ ts : List (List UInt8), l = ts.map tx
theorem TxL.nil : TxL [] := ⟨[], rfl⟩
theorem TxL.one (s : List UInt8) : TxL [tx s] := ⟨[s], rfl⟩
theorem TxL.app {a b : List Nd} (h : TxL a) (k : TxL b) : TxL (a ++ b) := by
  obtain ⟨x, rfl⟩ := h
  obtain ⟨y, rfl⟩ := k
  exact ⟨x ++ y, by simp⟩
def TxA (l : List Ar) : Prop := ∀ a ∈ l, TxL a.name ∧ TxL a.value
structure TxE (e : El) : Prop where
  n : TxL e.nodes
  a : TxA e.args
def AllT (st : List El) : Prop := ∀ e ∈ st, TxE e
theorem TxA.addA : ∀ {l : List Ar} {m : List Nd}, TxA l → TxL m → TxA (Pa.addA l m)
  | [], _, _, _ => fun a ha => by cases ha
  | [x], m, h, k => fun a ha => by
    have hx := h x (by simp)
    simp only [Pa.addA, List.mem_singleton] at ha
    subst ha
    exact ⟨hx.1, hx.2.app k⟩
  | x :: y :: r, m, h, k => fun a ha => by
    rw [Pa.addA, List.mem_cons] at ha
    rcases ha with rfl | ha
    · exact h _ (by simp)
    · exact TxA.addA (l := y :: r) (fun b hb => h b (by simp only [List.mem_cons] at hb ⊢; exact .inr hb)) k a ha
theorem TxE.add {e : El} {l : List Nd} (h : TxE e) (k : TxL l) : TxE (addE e l) := by
  unfold addE
  split
  · exact ⟨h.n.app k, h.a⟩
  · exact ⟨h.n, h.a.addA k⟩
theorem AllT.addN {st : List El} {l : List Nd} (h : AllT st) (k : TxL l) : AllT (Pa.addN st l) := by
  cases st with
  | nil => exact h
  | cons e r =>
    intro x hx
    rw [Pa.addN, List.mem_cons] at hx
    rcases hx with rfl | hx
    · exact (h e (by simp)).add k
    · exact h x (by simp [hx])
theorem AllT.addT {st : List El} (h : AllT st) (s : List UInt8) : AllT (Pa.addT st s) := h.addN (TxL.one s)
theorem TxL.cons {l : List Nd} (s : List UInt8) (h : TxL l) : TxL (tx s :: l) := (TxL.one s).app h
theorem TxL.flatA {a : Ar} (h : TxL a.name ∧ TxL a.value) : TxL (Pa.flatA a) := by
  unfold Pa.flatA
  refine TxL.cons _ (TxL.app ?_ h.2)
  split
  · exact h.1.app (TxL.one _)
  · exact TxL.nil
theorem TxL.flatAs : ∀ {l : List Ar}, TxA l → TxL (l.flatMap Pa.flatA)
  | [], _ => TxL.nil
  | a :: l, h => by
    rw [List.flatMap_cons]
    exact (TxL.flatA (h a (by simp))).app (TxL.flatAs fun b hb => h b (by simp [hb]))
theorem TxL.flatE {e : El} (h : TxE e) : TxL (Pa.flatE e) := TxL.cons _ (h.n.app (TxL.flatAs h.a))
theorem AllT.flatten {st : List El} (h : AllT st) : AllT (Pa.flatten st) := by
  cases st with
  | nil => exact h
  | cons e r => exact AllT.addN (fun x hx => h x (by simp [hx])) (TxL.flatE (h e (by simp)))
theorem AllT.flats : ∀ (n : Nat) {st : List El}, AllT st → AllT (Pa.flats n st)
  | 0, _, h => h
  | n + 1, _, h => AllT.flats n h.flatten
theorem TxA.name : ∀ {l : List Ar}, TxA l → TxA (nameA l)
  | [], _ => fun a ha => by cases ha
  | [x], h => fun a ha => by
    have hx := h x (by simp)
    simp only [nameA, List.mem_singleton] at ha
    subst ha
    exact ⟨hx.2, TxL.nil⟩
  | x :: y :: r, h => fun a ha => by
    rw [nameA, List.mem_cons] at ha
    rcases ha with rfl | ha
    · exact h _ (by simp)
    · exact TxA.name (l := y :: r) (fun b hb => h b (by simp only [List.mem_cons] at hb ⊢; exact .inr hb)) a ha
theorem AllT.cons {e : El} {st : List El} (h : TxE e) (k : AllT st) : AllT (e :: st) := fun x hx => by
  rcases List.mem_cons.1 hx with rfl | hx
  · exact h
  · exact k x hx
theorem AllT.push {st : List El} (h : AllT st) (e : El) (hn : e.nodes = []) (ha : e.args = []) : AllT (Pa.push st e) := by
  unfold Pa.push
  split
  · exact h.addT _
  · exact AllT.cons ⟨by rw [hn]; exact TxL.nil, by rw [ha]; intro a q; cases q⟩ h
theorem AllT.take {st : List El} (h : AllT st) {k : Nat} {s : List UInt8} {t : Int} (hk : k ≠ 4 ∧ k ≠ 9 ∧ k ≠ 10 ∧ k ≠ 12) : AllT (Pa.take st k s t) := by
  obtain ⟨k4, k9, k10, k12⟩ := hk
  unfold Pa.take
  rw [if_neg k9, if_neg k10]
  split
  · exact h.push _ rfl rfl
  split
  · exact h.push _ rfl rfl
  split
  · exact h.push _ rfl rfl
  split
  · cases st with
    | nil => exact h
    | cons e r =>
      simp only [bar]
      split
      · have he := h e (by simp)
        refine AllT.cons ⟨he.n, fun a ha => ?_⟩ (fun x hx => h x (by simp [hx]))
        rcases List.mem_append.1 ha with q | q
        · exact he.a a q
        · have : a = .mk false [] [] := by simpa using q
          subst this
          exact ⟨TxL.nil, TxL.nil⟩
      · exact h.addT s
  split
  · cases st with
    | nil => exact h
    | cons e r =>
      simp only [equal]
      split
      · exact h.addT s
      · have he := h e (by simp)
        exact AllT.cons ⟨he.n, he.a.name⟩ (fun x hx => h x (by simp [hx]))
  split
  · cases st with
    | nil => exact h
    | cons e r =>
      simp only [linkEnd]
      split
      · exact h.flatten.addT s
      · exact h.addT s
  exact h.addT s
theorem AllT.takes : ∀ (l : List (Nat × List UInt8 × Int)) {st : List El}, AllT st → (∀ x ∈ l, x.1 ≠ 4 ∧ x.1 ≠ 9 ∧ x.1 ≠ 10 ∧ x.1 ≠ 12) → AllT (Pa.takes l st)
  | [], _, h, _ => h
  | x :: l, st, h, hk => by
    show AllT (Pa.takes l (Pa.take st x.1 x.2.1 x.2.2))
    exact AllT.takes l (h.take (hk x (by simp))) (fun y hy => hk y (by simp [hy]))
theorem src_texts : ∀ ts : List (List UInt8), src (ts.map tx) = ts.flatten
  | [] => by simp [src_nil]
  | s :: ts => by
    rw [List.map_cons, src_cons, src_texts ts, List.flatten_cons, tx, srcN_tx]
/-- Where no token closes a brace or a tag, is a comment or a nowiki, the tree is one text. -/
theorem tree_texts (s : List UInt8) (hk : ∀ x ∈ toks s, x.1 ≠ 4 ∧ x.1 ≠ 9 ∧ x.1 ≠ 10 ∧ x.1 ≠ 12) : tree (toks s) = if s = [] then [] else [tx s] := by
  have h0 : AllT [root] := fun x hx => by
    have : x = root := by simpa using hx
    subst this
    exact ⟨TxL.nil, fun a ha => by cases ha⟩
  have h1 := (AllT.takes (toks s) h0 hk).flats ((takes (toks s) [root]).length - 1)
  have hs := src_parse s
  unfold tree at hs ⊢
  rw [src_join] at hs
  obtain ⟨ts, hts⟩ : TxL (nodesOf (flats ((takes (toks s) [root]).length - 1) (takes (toks s) [root]))) := by
    cases hq : flats ((takes (toks s) [root]).length - 1) (takes (toks s) [root]) with
    | nil => exact TxL.nil
    | cons e r =>
      rw [hq] at h1
      exact (h1 e (by simp)).n
  rw [hts] at hs ⊢
  rw [src_texts] at hs
  rw [join_texts, hs]
/-- Not one of the bytes that open or close something. -/
def Mild (c : UInt8) : Prop := c ≠ 60 ∧ c ≠ 123 ∧ c ≠ 125 ∧ c ≠ 91 ∧ c ≠ 93
def Kd (k : Nat) : Prop := k = 1 ∨ k = 2 ∨ k = 7 ∨ k = 8
theorem mark_mild {c : UInt8} {r : List UInt8} (h : Mild c) (h9 : (Tk.mark (c :: r)).2 ≠ 0) : Kd (Tk.mark (c :: r)).1 := by
  obtain ⟨h1, h2, h3, h4, h5⟩ := h
  unfold Tk.mark at h9 ⊢
  simp only at h9 ⊢
  rw [if_neg h1, if_neg h2, if_neg h3, if_neg h4, if_neg h5] at h9 ⊢
  split
  · exact .inr (.inr (.inl rfl))
  · rename_i q6
    rw [if_neg q6] at h9
    split
    · exact .inr (.inr (.inr rfl))
    · rename_i q7
      rw [if_neg q7] at h9
      split
      · exact .inr (.inl rfl)
      · rename_i q
        rw [if_neg q] at h9
        exact absurd rfl h9
theorem gap_kd (a b : Nat) : ∀ x ∈ Tk.gap a b, Kd x.1 := fun x hx => (gap_kind a b x hx).elim .inl (fun q => .inr (.inl q))
theorem scan_mild {s : List UInt8} {i0 : Nat} (h : ∀ j (hj : j < s.length), i0 ≤ j → Mild s[j]) : ∀ (n text i : Nat), i0 ≤ i → s.length - i ≤ n → ∀ x ∈ Tk.scanL s text i, Kd x.1 := by
  intro n
  induction n with
  | zero =>
    intro text i hi hn
    rw [Tk.scan_end (by omega)]
    exact gap_kd _ _
  | succ n ih =>
    intro text i hi hn
    by_cases hlt : i < s.length
    · by_cases h0 : (Tk.mark (s.drop i)).2 = 0
      · rw [Tk.scan_no hlt h0]; exact ih text (i + 1) (by omega) (by omega)
      · rw [Tk.scan_yes hlt h0]
        intro x hx
        rw [List.mem_append, List.mem_cons] at hx
        rcases hx with hx | rfl | hx
        · exact gap_kd _ _ x hx
        · have h0' := h0
          rw [List.drop_eq_getElem_cons hlt] at h0' ⊢
          exact mark_mild (h i hlt hi) h0'
        · exact ih _ _ (by omega) (by omega) x hx
    · rw [Tk.scan_end hlt]
      exact gap_kd _ _
/-- A text of mild bytes is one text. -/
theorem tree_mild {s : List UInt8} (h : ∀ c ∈ s, Mild c) : tree (toks s) = if s = [] then [] else [tx s] := by
  refine tree_texts s fun x hx => ?_
  unfold toks at hx
  obtain ⟨y, hy, rfl⟩ := List.mem_map.1 hx
  have := scan_mild (s := s) (i0 := 0) (fun j hj _ => h _ (List.getElem_mem hj)) s.length 0 0 (Nat.le_refl _) (by omega) y hy
  show y.1 ≠ 4 ∧ y.1 ≠ 9 ∧ y.1 ≠ 10 ∧ y.1 ≠ 12
  unfold Kd at this
  omega
/-- The same behind a mark of any kind that closes nothing. -/
theorem tree_open {s : List UInt8} {i0 : Nat} (h : ∀ j (hj : j < s.length), i0 ≤ j → Mild s[j]) (h0 : (Tk.mark s).2 ≠ 0) (hi : i0 ≤ (Tk.mark s).2) (hk : (Tk.mark s).1 = 3 ∨ (Tk.mark s).1 = 5) : tree (toks s) = if s = [] then [] else [tx s] := by
  by_cases hs : 0 < s.length
  · refine tree_texts s fun x hx => ?_
    unfold toks at hx
    obtain ⟨y, hy, rfl⟩ := List.mem_map.1 hx
    show y.1 ≠ 4 ∧ y.1 ≠ 9 ∧ y.1 ≠ 10 ∧ y.1 ≠ 12
    rw [Tk.scan_yes hs (by simpa using h0), List.mem_append, List.mem_cons] at hy
    rcases hy with hy | rfl | hy
    · have := gap_kd _ _ y hy
      unfold Kd at this
      omega
    · simp only [List.drop_zero]
      omega
    · simp only [List.drop_zero, Nat.zero_add] at hy
      have := scan_mild h s.length _ _ hi (by omega) y hy
      unfold Kd at this
      omega
  · have : s = [] := List.length_eq_zero_iff.1 (by omega)
    subst this
    exact tree_mild (fun c hc => by cases hc)
end Go.Proofs.YtikfmafhblkcpaaDoor.Pa
