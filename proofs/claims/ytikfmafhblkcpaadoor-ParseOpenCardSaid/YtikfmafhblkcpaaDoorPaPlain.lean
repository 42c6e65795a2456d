/-
  Trees of texts without special bytes, plain.
-/
import Derived.Test.YtikfmafhblkcpaaDoorPaF
namespace Go.Proofs.YtikfmafhblkcpaaDoor.Pa
open Go.Proofs.YtikfmafhblkcpaaDoor Go.Proofs.YtikfmafhblkcpaaDoor.Tr

/-- Not one of the bytes that begin a mark, but for line feeds. -/
def Calm (c : UInt8) : Prop := c ≠ 60 ∧ c ≠ 123 ∧ c ≠ 125 ∧ c ≠ 91 ∧ c ≠ 93 ∧ c ≠ 124 ∧ c ≠ 61
theorem mark_calm {c : UInt8} {r : List UInt8} (h : Calm c) (h9 : (Tk.mark (c :: r)).2 ≠ 0) : (Tk.mark (c :: r)).1 = 2 := by
  obtain ⟨h1, h2, h3, h4, h5, h6, h7⟩ := h
  unfold Tk.mark at h9 ⊢
  simp only at h9 ⊢
  rw [if_neg h1, if_neg h2, if_neg h3, if_neg h4, if_neg h5, if_neg h6, if_neg h7] at h9 ⊢
  split
  · rfl
  · rename_i q
    rw [if_neg q] at h9
    exact absurd rfl h9
theorem gap_kind (a b : Nat) : ∀ x ∈ Tk.gap a b, x.1 = 1 ∨ x.1 = 2 := by
  intro x hx
  unfold Tk.gap at hx
  split at hx
  · cases hx
  · have : x = (1, a, b) := by simpa using hx
    subst this
    exact .inl rfl
theorem scan_calm {s : List UInt8} (h : ∀ c ∈ s, Calm c) : ∀ (n text i : Nat), s.length - i ≤ n → ∀ x ∈ Tk.scanL s text i, x.1 = 1 ∨ x.1 = 2 := by
  intro n
  induction n with
  | zero =>
    intro text i hn
    rw [Tk.scan_end (by omega)]
    exact gap_kind _ _
  | succ n ih =>
    intro text i hn
    by_cases hlt : i < s.length
    · by_cases h0 : (Tk.mark (s.drop i)).2 = 0
      · rw [Tk.scan_no hlt h0]; exact ih text (i + 1) (by omega)
      · rw [Tk.scan_yes hlt h0]
        intro x hx
        rw [List.mem_append, List.mem_cons] at hx
        rcases hx with hx | rfl | hx
        · exact gap_kind _ _ x hx
        · right
          have h0' := h0
          rw [List.drop_eq_getElem_cons hlt] at h0' ⊢
          exact mark_calm (h _ (List.getElem_mem hlt)) h0'
        · exact ih _ _ (by omega) x hx
    · rw [Tk.scan_end hlt]
      exact gap_kind _ _
theorem take_text {st : List El} {k : Nat} {s : List UInt8} {t : Int} (h : k = 1 ∨ k = 2) : take st k s t = addT st s := by
  rcases h with rfl | rfl <;> simp [take]
theorem takes_text : ∀ (l : List (Nat × List UInt8 × Int)) (ns : List Nd), (∀ x ∈ l, x.1 = 1 ∨ x.1 = 2) → takes l [⟨0, [], 0, ns, []⟩] = [⟨0, [], 0, ns ++ l.map (fun x => tx x.2.1), []⟩]
  | [], ns, _ => by simp [takes]
  | x :: l, ns, h => by
    have ih := takes_text l (ns ++ [tx x.2.1]) (fun y hy => h y (by simp [hy]))
    show takes l (take _ x.1 x.2.1 x.2.2) = _
    rw [take_text (h x (by simp))]
    show takes l [⟨0, [], 0, ns ++ [tx x.2.1], []⟩] = _
    rw [ih]
    simp
theorem addT_tx (s t : List UInt8) : Tr.addT ⟨s.toArray⟩ (if t = [] then [] else [tx t]) = if s ++ t = [] then [] else [tx (s ++ t)] := by
  cases s with
  | nil => cases t <;> simp [Tr.addT, ByteArray.size]
  | cons a s =>
    cases t with
    | nil => simp [Tr.addT, ByteArray.size, tx, txN]
    | cons b t =>
      simp only [reduceCtorEq, if_false, List.cons_append, Tr.addT]
      simp [tx, txN, Nd.kind, Nd.text, ByteArray.size]
      apply ByteArray.ext
      apply Array.ext'
      rw [ByteArray.data_append, Array.toList_append]
      rfl
theorem join_texts : ∀ l : List (List UInt8), join (l.map tx) = if l.flatten = [] then [] else [tx l.flatten]
  | [] => by simp [join_nil]
  | s :: l => by
    rw [List.map_cons, join_cons, join_texts l]
    have e : joinN (tx s) (if l.flatten = [] then [] else [tx l.flatten]) = Tr.addT ⟨s.toArray⟩ (if l.flatten = [] then [] else [tx l.flatten]) := by
      simp [tx, txN, joinN]
    rw [e, addT_tx, List.flatten_cons]
/-- A text without special bytes is one text. -/
theorem tree_calm {s : List UInt8} (h : ∀ c ∈ s, Calm c) : tree (toks s) = if s = [] then [] else [tx s] := by
  have hk : ∀ x ∈ toks s, x.1 = 1 ∨ x.1 = 2 := by
    intro x hx
    unfold toks at hx
    obtain ⟨y, hy, rfl⟩ := List.mem_map.1 hx
    exact scan_calm h s.length 0 0 (by omega) y hy
  have hok := (scan_ok s s.length 0 0 (by omega) (Nat.le_refl _) (Nat.zero_le _)).2
  have e1 : takes (toks s) [root] = [⟨0, [], 0, (toks s).map (fun x => tx x.2.1), []⟩] := by
    have := takes_text (toks s) [] hk
    simpa [root] using this
  unfold tree
  rw [e1]
  show join ((toks s).map fun x => tx x.2.1) = _
  have e2 : (toks s).map (fun x => tx x.2.1) = ((toks s).map fun x => x.2.1).map tx := by simp
  have e3 : ((toks s).map fun x => x.2.1).flatten = s := by
    rw [← List.flatMap_def]
    exact hok
  rw [e2, join_texts, e3]
end Go.Proofs.YtikfmafhblkcpaaDoor.Pa
