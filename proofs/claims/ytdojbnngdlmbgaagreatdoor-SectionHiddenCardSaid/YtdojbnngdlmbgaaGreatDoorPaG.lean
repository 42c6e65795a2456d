/-
  Trees of texts without special bytes, plain.
  Where no token closes a brace or a tag, is a comment or a nowiki, the tree is one text, plain.
  A tag around a text without "<": its content is the tree of the text by itself.
  The contract of strings.ContainsAny for strings of any bytes, at some ASCII characters.
  The contract of strings.ContainsAny for strings of any bytes, at some ASCII characters: its loop over runes.
-/
import Derived.Test.YtdojbnngdlmbgaaGreatDoorPaF
import Derived.Test.YtdojbnngdlmbgaaGreatDoorChecked
import Derived.Test.YtdojbnngdlmbgaaGreatDoorShelf2
import Derived.WalkKit
import Derived.WalkSpells
import Derived.WalkLawsBesides
import Derived.Outline
import Derived.Deep.QuietTactic
import Derived.BigQuiet
import Derived.Lib.Hide
import Derived.IntWalk
import Derived.Lib.Small
import Derived.Lib.RuneBytes
import Derived.Laws.RangeAny
import Derived.WalkMore
import Derived.Deep.RegionWith
import Derived.Lib.DecodeN
import Derived.Lib.OthersKept
import Derived.Lib.IndexAny
namespace Go.Proofs.YtdojbnngdlmbgaaGreatDoor.Pa
open Go.Proofs.YtdojbnngdlmbgaaGreatDoor Go.Proofs.YtdojbnngdlmbgaaGreatDoor.Tr

/-- Not one of the bytes that begin a mark, but for line feeds. -/
def Calm (c : UInt8) : Prop := c ≠ 60 ∧ c ≠ 123 ∧ c ≠ 125 ∧ c ≠ 91 ∧ c ≠ 93 ∧ c ≠ 124 ∧ c ≠ 61
theorem mark_calm {c : UInt8} {r : List UInt8} (h : Calm c) (h9 : (Tk.mark (c :: r)).2 ≠ 0) : (Tk.mark (c :: r)).1 = 2 := by
  obtain ⟨h1, h2, h3, h4, h5, h6, h7⟩ := h
  unfold Tk.mark at h9 ⊢
  simp only at h9 ⊢
  rw [if_neg h1, if_neg h2, if_neg h3, if_neg h4, if_neg h5, if_neg h6, if_neg h7] at h9 ⊢
  split
  · rfl
  · rename_i q
    rw [if_neg q] at h9
    exact absurd rfl h9
theorem gap_kind (a b : Nat) : ∀ x ∈ Tk.gap a b, x.1 = 1 ∨ x.1 = 2 := by
  intro x hx
  unfold Tk.gap at hx
  split at hx
  · cases hx
  · have : x = (1, a, b) := by simpa using hx
    subst this
    exact .inl rfl
theorem scan_calm {s : List UInt8} (h : ∀ c ∈ s, Calm c) : ∀ (n text i : Nat), s.length - i ≤ n → ∀ x ∈ Tk.scanL s text i, x.1 = 1 ∨ x.1 = 2 := by
  intro n
  induction n with
  | zero =>
    intro text i hn
    rw [Tk.scan_end (by omega)]
    exact gap_kind _ _
  | succ n ih =>
    intro text i hn
    by_cases hlt : i < s.length
    · by_cases h0 : (Tk.mark (s.drop i)).2 = 0
      · rw [Tk.scan_no hlt h0]; exact ih text (i + 1) (by omega)
      · rw [Tk.scan_yes hlt h0]
        intro x hx
        rw [List.mem_append, List.mem_cons] at hx
        rcases hx with hx | rfl | hx
        · exact gap_kind _ _ x hx
        · right
          have h0' := h0
          rw [List.drop_eq_getElem_cons hlt] at h0' ⊢
          exact mark_calm (h _ (List.getElem_mem hlt)) h0'
        · exact ih _ _ (by omega) x hx
    · rw [Tk.scan_end hlt]
      exact gap_kind _ _
theorem take_text {st : List El} {k : Nat} {s : List UInt8} {t : Int} (h : k = 1 ∨ k = 2) : take st k s t = addT st s := by
  rcases h with rfl | rfl <;> simp [take]
theorem takes_text : ∀ (l : List (Nat × List UInt8 × Int)) (ns : List Nd), (∀ x ∈ l, x.1 = 1 ∨ x.1 = 2) → takes l [⟨0, [], 0, ns, []⟩] = [⟨0, [], 0, ns ++ l.map (fun x => tx x.2.1), []⟩]
  | [], ns, _ => by simp [takes]
  | x :: l, ns, h => by
    have ih := takes_text l (ns ++ [tx x.2.1]) (fun y hy => h y (by simp [hy]))
    show takes l (take _ x.1 x.2.1 x.2.2) = _
    rw [take_text (h x (by simp))]
    show takes l [⟨0, [], 0, ns ++ [tx x.2.1], []⟩] = _
    rw [ih]
    simp
theorem addT_tx (s t : List UInt8) : Tr.addT ⟨s.toArray⟩ (if t = [] then [] else [tx t]) = if s ++ t = [] then [] else [tx (s ++ t)] := by
  cases s with
  | nil => cases t <;> simp [Tr.addT, ByteArray.size]
  | cons a s =>
    cases t with
    | nil => simp [Tr.addT, ByteArray.size, tx, txN]
    | cons b t =>
      simp only [reduceCtorEq, if_false, List.cons_append, Tr.addT]
      simp [tx, txN, Nd.kind, Nd.text, ByteArray.size]
      apply ByteArray.ext
      apply Array.ext'
      rw [ByteArray.data_append, Array.toList_append]
      rfl
theorem join_texts : ∀ l : List (List UInt8), join (l.map tx) = if l.flatten = [] then [] else [tx l.flatten]
  | [] => by simp [join_nil]
  | s :: l => by
    rw [List.map_cons, join_cons, join_texts l]
    have e : joinN (tx s) (if l.flatten = [] then [] else [tx l.flatten]) = Tr.addT ⟨s.toArray⟩ (if l.flatten = [] then [] else [tx l.flatten]) := by
      simp [tx, txN, joinN]
    rw [e, addT_tx, List.flatten_cons]
/-- A text without special bytes is one text. -/
theorem tree_calm {s : List UInt8} (h : ∀ c ∈ s, Calm c) : tree (toks s) = if s = [] then [] else [tx s] := by
  have hk : ∀ x ∈ toks s, x.1 = 1 ∨ x.1 = 2 := by
    intro x hx
    unfold toks at hx
    obtain ⟨y, hy, rfl⟩ := List.mem_map.1 hx
    exact scan_calm h s.length 0 0 (by omega) y hy
  have hok := (scan_ok s s.length 0 0 (by omega) (Nat.le_refl _) (Nat.zero_le _)).2
  have e1 : takes (toks s) [root] = [⟨0, [], 0, (toks s).map (fun x => tx x.2.1), []⟩] := by
    have := takes_text (toks s) [] hk
    simpa [root] using this
  unfold tree
  rw [e1]
  show join ((toks s).map fun x => tx x.2.1) = _
  have e2 : (toks s).map (fun x => tx x.2.1) = ((toks s).map fun x => x.2.1).map tx := by simp
  have e3 : ((toks s).map fun x => x.2.1).flatten = s := by
    rw [← List.flatMap_def]
    exact hok
  rw [e2, join_texts, e3]
end Go.Proofs.YtdojbnngdlmbgaaGreatDoor.Pa

namespace Go.Proofs.YtdojbnngdlmbgaaGreatDoor.Pa
open Go.Proofs.YtdojbnngdlmbgaaGreatDoor Go.Proofs.YtdojbnngdlmbgaaGreatDoor.Tr

/-- A list of texts. -/
def TxL (l : List Nd) : Prop := ∃ ts : List (List UInt8), l = ts.map tx
theorem TxL.nil : TxL [] := ⟨[], rfl⟩
theorem TxL.one (s : List UInt8) : TxL [tx s] := ⟨[s], rfl⟩
theorem TxL.app {a b : List Nd} (h : TxL a) (k : TxL b) : TxL (a ++ b) := by
  obtain ⟨x, rfl⟩ := h
  obtain ⟨y, rfl⟩ := k
  exact ⟨x ++ y, by simp⟩
def TxA (l : List Ar) : Prop := ∀ a ∈ l, TxL a.name ∧ TxL a.value
structure TxE (e : El) : Prop where
  n : TxL e.nodes
  a : TxA e.args
def AllT (st : List El) : Prop := ∀ e ∈ st, TxE e
theorem TxA.addA : ∀ {l : List Ar} {m : List Nd}, TxA l → TxL m → TxA (Pa.addA l m)
  | [], _, _, _ => fun a ha => by cases ha
  | [x], m, h, k => fun a ha => by
    have hx := h x (by simp)
    simp only [Pa.addA, List.mem_singleton] at ha
    subst ha
    exact ⟨hx.1, hx.2.app k⟩
  | x :: y :: r, m, h, k => fun a ha => by
    rw [Pa.addA, List.mem_cons] at ha
    rcases ha with rfl | ha
    · exact h _ (by simp)
    · exact TxA.addA (l := y :: r) (fun b hb => h b (by simp only [List.mem_cons] at hb ⊢; exact .inr hb)) k a ha
theorem TxE.add {e : El} {l : List Nd} (h : TxE e) (k : TxL l) : TxE (addE e l) := by
  unfold addE
  split
  · exact ⟨h.n.app k, h.a⟩
  · exact ⟨h.n, h.a.addA k⟩
theorem AllT.addN {st : List El} {l : List Nd} (h : AllT st) (k : TxL l) : AllT (Pa.addN st l) := by
  cases st with
  | nil => exact h
  | cons e r =>
    intro x hx
    rw [Pa.addN, List.mem_cons] at hx
    rcases hx with rfl | hx
    · exact (h e (by simp)).add k
    · exact h x (by simp [hx])
theorem AllT.addT {st : List El} (h : AllT st) (s : List UInt8) : AllT (Pa.addT st s) := h.addN (TxL.one s)
theorem TxL.cons {l : List Nd} (s : List UInt8) (h : TxL l) : TxL (tx s :: l) := (TxL.one s).app h
theorem TxL.flatA {a : Ar} (h : TxL a.name ∧ TxL a.value) : TxL (Pa.flatA a) := by
  unfold Pa.flatA
  refine TxL.cons _ (TxL.app ?_ h.2)
  split
  · exact h.1.app (TxL.one _)
  · exact TxL.nil
theorem TxL.flatAs : ∀ {l : List Ar}, TxA l → TxL (l.flatMap Pa.flatA)
  | [], _ => TxL.nil
  | a :: l, h => by
    rw [List.flatMap_cons]
    exact (TxL.flatA (h a (by simp))).app (TxL.flatAs fun b hb => h b (by simp [hb]))
theorem TxL.flatE {e : El} (h : TxE e) : TxL (Pa.flatE e) := TxL.cons _ (h.n.app (TxL.flatAs h.a))
theorem AllT.flatten {st : List El} (h : AllT st) : AllT (Pa.flatten st) := by
  cases st with
  | nil => exact h
  | cons e r => exact AllT.addN (fun x hx => h x (by simp [hx])) (TxL.flatE (h e (by simp)))
theorem AllT.flats : ∀ (n : Nat) {st : List El}, AllT st → AllT (Pa.flats n st)
  | 0, _, h => h
  | n + 1, _, h => AllT.flats n h.flatten
theorem TxA.name : ∀ {l : List Ar}, TxA l → TxA (nameA l)
  | [], _ => fun a ha => by cases ha
  | [x], h => fun a ha => by
    have hx := h x (by simp)
    simp only [nameA, List.mem_singleton] at ha
    subst ha
    exact ⟨hx.2, TxL.nil⟩
  | x :: y :: r, h => fun a ha => by
    rw [nameA, List.mem_cons] at ha
    rcases ha with rfl | ha
    · exact h _ (by simp)
    · exact TxA.name (l := y :: r) (fun b hb => h b (by simp only [List.mem_cons] at hb ⊢; exact .inr hb)) a ha
theorem AllT.cons {e : El} {st : List El} (h : TxE e) (k : AllT st) : AllT (e :: st) := fun x hx => by
  rcases List.mem_cons.1 hx with rfl | hx
  · exact h
  · exact k x hx
theorem AllT.push {st : List El} (h : AllT st) (e : El) (hn : e.nodes = []) (ha : e.args = []) : AllT (Pa.push st e) := by
  unfold Pa.push
  split
  · exact h.addT _
  · exact AllT.cons ⟨by rw [hn]; exact TxL.nil, by rw [ha]; intro a q; cases q⟩ h
theorem AllT.take {st : List El} (h : AllT st) {k : Nat} {s : List UInt8} {t : Int} (hk : k ≠ 4 ∧ k ≠ 9 ∧ k ≠ 10 ∧ k ≠ 12) : AllT (Pa.take st k s t) := by
  obtain ⟨k4, k9, k10, k12⟩ := hk
  unfold Pa.take
  rw [if_neg k9, if_neg k10]
  split
  · exact h.push _ rfl rfl
  split
  · exact h.push _ rfl rfl
  split
  · exact h.push _ rfl rfl
  split
  · cases st with
    | nil => exact h
    | cons e r =>
      simp only [bar]
      split
      · have he := h e (by simp)
        refine AllT.cons ⟨he.n, fun a ha => ?_⟩ (fun x hx => h x (by simp [hx]))
        rcases List.mem_append.1 ha with q | q
        · exact he.a a q
        · have : a = .mk false [] [] := by simpa using q
          subst this
          exact ⟨TxL.nil, TxL.nil⟩
      · exact h.addT s
  split
  · cases st with
    | nil => exact h
    | cons e r =>
      simp only [equal]
      split
      · exact h.addT s
      · have he := h e (by simp)
        exact AllT.cons ⟨he.n, he.a.name⟩ (fun x hx => h x (by simp [hx]))
  split
  · cases st with
    | nil => exact h
    | cons e r =>
      simp only [linkEnd]
      split
      · exact h.flatten.addT s
      · exact h.addT s
  exact h.addT s
theorem AllT.takes : ∀ (l : List (Nat × List UInt8 × Int)) {st : List El}, AllT st → (∀ x ∈ l, x.1 ≠ 4 ∧ x.1 ≠ 9 ∧ x.1 ≠ 10 ∧ x.1 ≠ 12) → AllT (Pa.takes l st)
  | [], _, h, _ => h
  | x :: l, st, h, hk => by
    show AllT (Pa.takes l (Pa.take st x.1 x.2.1 x.2.2))
    exact AllT.takes l (h.take (hk x (by simp))) (fun y hy => hk y (by simp [hy]))
theorem src_texts : ∀ ts : List (List UInt8), src (ts.map tx) = ts.flatten
  | [] => by simp [src_nil]
  | s :: ts => by
    rw [List.map_cons, src_cons, src_texts ts, List.flatten_cons, tx, srcN_tx]
/-- Where no token closes a brace or a tag, is a comment or a nowiki, the tree is one text. -/
theorem tree_texts (s : List UInt8) (hk : ∀ x ∈ toks s, x.1 ≠ 4 ∧ x.1 ≠ 9 ∧ x.1 ≠ 10 ∧ x.1 ≠ 12) : tree (toks s) = if s = [] then [] else [tx s] := by
  have h0 : AllT [root] := fun x hx => by
    have : x = root := by simpa using hx
    subst this
    exact ⟨TxL.nil, fun a ha => by cases ha⟩
  have h1 := (AllT.takes (toks s) h0 hk).flats ((takes (toks s) [root]).length - 1)
  have hs := src_parse s
  unfold tree at hs ⊢
  rw [src_join] at hs
  obtain ⟨ts, hts⟩ : TxL (nodesOf (flats ((takes (toks s) [root]).length - 1) (takes (toks s) [root]))) := by
    cases hq : flats ((takes (toks s) [root]).length - 1) (takes (toks s) [root]) with
    | nil => exact TxL.nil
    | cons e r =>
      rw [hq] at h1
      exact (h1 e (by simp)).n
  rw [hts] at hs ⊢
  rw [src_texts] at hs
  rw [join_texts, hs]
/-- Not one of the bytes that open or close something. -/
def Mild (c : UInt8) : Prop := c ≠ 60 ∧ c ≠ 123 ∧ c ≠ 125 ∧ c ≠ 91 ∧ c ≠ 93
def Kd (k : Nat) : Prop := k = 1 ∨ k = 2 ∨ k = 7 ∨ k = 8
theorem mark_mild {c : UInt8} {r : List UInt8} (h : Mild c) (h9 : (Tk.mark (c :: r)).2 ≠ 0) : Kd (Tk.mark (c :: r)).1 := by
  obtain ⟨h1, h2, h3, h4, h5⟩ := h
  unfold Tk.mark at h9 ⊢
  simp only at h9 ⊢
  rw [if_neg h1, if_neg h2, if_neg h3, if_neg h4, if_neg h5] at h9 ⊢
  split
  · exact .inr (.inr (.inl rfl))
  · rename_i q6
    rw [if_neg q6] at h9
    split
    · exact .inr (.inr (.inr rfl))
    · rename_i q7
      rw [if_neg q7] at h9
      split
      · exact .inr (.inl rfl)
      · rename_i q
        rw [if_neg q] at h9
        exact absurd rfl h9
theorem gap_kd (a b : Nat) : ∀ x ∈ Tk.gap a b, Kd x.1 := fun x hx => (gap_kind a b x hx).elim .inl (fun q => .inr (.inl q))
theorem scan_mild {s : List UInt8} {i0 : Nat} (h : ∀ j (hj : j < s.length), i0 ≤ j → Mild s[j]) : ∀ (n text i : Nat), i0 ≤ i → s.length - i ≤ n → ∀ x ∈ Tk.scanL s text i, Kd x.1 := by
  intro n
  induction n with
  | zero =>
    intro text i hi hn
    rw [Tk.scan_end (by omega)]
    exact gap_kd _ _
  | succ n ih =>
    intro text i hi hn
    by_cases hlt : i < s.length
    · by_cases h0 : (Tk.mark (s.drop i)).2 = 0
      · rw [Tk.scan_no hlt h0]; exact ih text (i + 1) (by omega) (by omega)
      · rw [Tk.scan_yes hlt h0]
        intro x hx
        rw [List.mem_append, List.mem_cons] at hx
        rcases hx with hx | rfl | hx
        · exact gap_kd _ _ x hx
        · have h0' := h0
          rw [List.drop_eq_getElem_cons hlt] at h0' ⊢
          exact mark_mild (h i hlt hi) h0'
        · exact ih _ _ (by omega) (by omega) x hx
    · rw [Tk.scan_end hlt]
      exact gap_kd _ _
/-- A text of mild bytes is one text. -/
theorem tree_mild {s : List UInt8} (h : ∀ c ∈ s, Mild c) : tree (toks s) = if s = [] then [] else [tx s] := by
  refine tree_texts s fun x hx => ?_
  unfold toks at hx
  obtain ⟨y, hy, rfl⟩ := List.mem_map.1 hx
  have := scan_mild (s := s) (i0 := 0) (fun j hj _ => h _ (List.getElem_mem hj)) s.length 0 0 (Nat.le_refl _) (by omega) y hy
  show y.1 ≠ 4 ∧ y.1 ≠ 9 ∧ y.1 ≠ 10 ∧ y.1 ≠ 12
  unfold Kd at this
  omega
/-- The same behind a mark of any kind that closes nothing. -/
theorem tree_open {s : List UInt8} {i0 : Nat} (h : ∀ j (hj : j < s.length), i0 ≤ j → Mild s[j]) (h0 : (Tk.mark s).2 ≠ 0) (hi : i0 ≤ (Tk.mark s).2) (hk : (Tk.mark s).1 = 3 ∨ (Tk.mark s).1 = 5) : tree (toks s) = if s = [] then [] else [tx s] := by
  by_cases hs : 0 < s.length
  · refine tree_texts s fun x hx => ?_
    unfold toks at hx
    obtain ⟨y, hy, rfl⟩ := List.mem_map.1 hx
    show y.1 ≠ 4 ∧ y.1 ≠ 9 ∧ y.1 ≠ 10 ∧ y.1 ≠ 12
    rw [Tk.scan_yes hs (by simpa using h0), List.mem_append, List.mem_cons] at hy
    rcases hy with hy | rfl | hy
    · have := gap_kd _ _ y hy
      unfold Kd at this
      omega
    · simp only [List.drop_zero]
      omega
    · simp only [List.drop_zero, Nat.zero_add] at hy
      have := scan_mild h s.length _ _ hi (by omega) y hy
      unfold Kd at this
      omega
  · have : s = [] := List.length_eq_zero_iff.1 (by omega)
    subst this
    exact tree_mild (fun c hc => by cases hc)
end Go.Proofs.YtdojbnngdlmbgaaGreatDoor.Pa

namespace Go.Proofs.YtdojbnngdlmbgaaGreatDoor.Pa
open Go.Proofs.YtdojbnngdlmbgaaGreatDoor.Tr
set_option linter.unusedVariables false

/-! ### The tokens -/
theorem run_sep {c d : UInt8} (hc : d ≠ c) (b : List UInt8) : ∀ l : List UInt8, Tk.run c (l ++ d :: b) = Tk.run c l
  | [] => by unfold Tk.run; rw [List.nil_append, List.takeWhile_cons_of_neg (by simpa using hc)]; rfl
  | a :: l => by
    have ih := run_sep hc b l
    unfold Tk.run at ih ⊢
    by_cases h : a = c
    · subst h
      rw [List.cons_append, List.takeWhile_cons_of_pos (by simp), List.takeWhile_cons_of_pos (by simp), List.length_cons, List.length_cons, ih]
    · rw [List.cons_append, List.takeWhile_cons_of_neg (by simpa using h), List.takeWhile_cons_of_neg (by simpa using h)]
theorem pair_sep {k : Nat} {c : UInt8} (hc : c ≠ 60) (r b : List UInt8) : Tk.pair k (c :: r ++ 60 :: b) = Tk.pair k (c :: r) := by
  cases r with
  | nil =>
    show (if (60 : UInt8) = c then (k, 2) else (0, 0)) = (0, 0)
    rw [if_neg (fun e => hc e.symm)]
  | cons d r => rfl
/-- In front of a "<" the marks are those of the text by itself. -/
theorem mark_sep {c : UInt8} (hc : c ≠ 60) (r b : List UInt8) : Tk.mark (c :: r ++ 60 :: b) = Tk.mark (c :: r) := by
  have hb : ∀ d k, d ≠ 60 → Tk.braces d k (c :: r ++ 60 :: b) = Tk.braces d k (c :: r) := fun d k hd => by
    unfold Tk.braces
    rw [run_sep (fun e => hd e.symm)]
  rcases Tk.byte_cases c with h | h | h | h | h | h | h | h | ⟨h1, h2, h3, h4, h5, h6, h7, h8⟩
  · exact absurd h hc
  · subst h; rw [List.cons_append, Tk.m123, Tk.m123, ← List.cons_append, hb _ _ (by decide)]
  · subst h; rw [List.cons_append, Tk.m125, Tk.m125, ← List.cons_append, hb _ _ (by decide)]
  · subst h; rw [List.cons_append, Tk.m91, Tk.m91, ← List.cons_append, pair_sep hc]
  · subst h; rw [List.cons_append, Tk.m93, Tk.m93, ← List.cons_append, pair_sep hc]
  · subst h; rfl
  · subst h; rfl
  · subst h; rfl
  · rw [List.cons_append, Tk.mo _ h1 h2 h3 h4 h5 h6 h7 h8, Tk.mo _ h1 h2 h3 h4 h5 h6 h7 h8]
/-- Kinds of marks that are no angle. -/
theorem mark_low {c : UInt8} (hc : c ≠ 60) (r : List UInt8) : (Tk.mark (c :: r)).1 ≤ 8 := by
  have hb : ∀ d k, k ≤ 8 → (Tk.braces d k (c :: r)).1 ≤ 8 := fun d k hk => by
    unfold Tk.braces; split
    · exact Nat.zero_le _
    · exact hk
  have hp : ∀ k, k ≤ 8 → (Tk.pair k (c :: r)).1 ≤ 8 := fun k hk => by
    cases r with
    | nil => exact Nat.zero_le _
    | cons d r =>
      show (if d = c then (k, 2) else (0, 0)).1 ≤ 8
      split
      · exact hk
      · exact Nat.zero_le _
  rcases Tk.byte_cases c with h | h | h | h | h | h | h | h | ⟨h1, h2, h3, h4, h5, h6, h7, h8⟩
  · exact absurd h hc
  · subst h; rw [Tk.m123]; exact hb _ _ (by decide)
  · subst h; rw [Tk.m125]; exact hb _ _ (by decide)
  · subst h; rw [Tk.m91]; exact hp _ (by decide)
  · subst h; rw [Tk.m93]; exact hp _ (by decide)
  · subst h; rw [Tk.m124]; decide
  · subst h; rw [Tk.m61]; decide
  · subst h; rw [Tk.m10]; decide
  · rw [Tk.mo _ h1 h2 h3 h4 h5 h6 h7 h8]; decide
theorem tk_app (s q : List UInt8) (x : Tk.Tok) (h : x.2.1 ≤ s.length) (h2 : x.2.2 ≤ s.length) : tk (s ++ q) x = tk s x := by
  have e : ((s ++ q).drop x.2.1).take (x.2.2 - x.2.1) = (s.drop x.2.1).take (x.2.2 - x.2.1) := by
    rw [List.drop_append_of_le_length h, List.take_append_of_le_length (by rw [List.length_drop]; omega)]
  unfold tk
  rw [e]
theorem gap_app (s q : List UInt8) {a b : Nat} (ha : a ≤ s.length) (hb : b ≤ s.length) : (Tk.gap a b).map (tk (s ++ q)) = (Tk.gap a b).map (tk s) := by
  unfold Tk.gap
  split
  · rfl
  · show [tk (s ++ q) (1, a, b)] = [tk s (1, a, b)]
    rw [tk_app s q _ ha hb]
theorem scan_sep {s q : List UInt8} {k : Nat} (hs : ∀ c ∈ s, c ≠ 60) (hq : ∃ b, q = 60 :: b) (hm : Tk.mark q = (k, q.length)) : ∀ (n text i : Nat), s.length - i ≤ n → text ≤ i → i ≤ s.length →
    (Tk.scanL (s ++ q) text i).map (tk (s ++ q)) = (Tk.scanL s text i).map (tk s) ++ [tk (s ++ q) (k, s.length, s.length + q.length)] := by
  obtain ⟨b, hb⟩ := hq
  have hq1 : 1 ≤ q.length := by rw [hb]; simp
  have hdrop : (s ++ q).drop s.length = q := by simp
  have hend : ∀ text, text ≤ s.length → (Tk.scanL (s ++ q) text s.length).map (tk (s ++ q)) = (Tk.gap text s.length).map (tk s) ++ [tk (s ++ q) (k, s.length, s.length + q.length)] := fun text ht => by
    rw [Tk.scan_yes (by rw [List.length_append]; omega) (by rw [hdrop, hm]; show q.length ≠ 0; omega), hdrop, hm]
    show (Tk.gap text s.length ++ (k, s.length, s.length + q.length) :: Tk.scanL (s ++ q) (s.length + q.length) (s.length + q.length)).map _ = _
    rw [Tk.scan_end (by rw [List.length_append]; omega), show Tk.gap (s.length + q.length) (s ++ q).length = [] from by unfold Tk.gap; rw [List.length_append, if_pos rfl], List.map_append, gap_app s q ht (Nat.le_refl _)]
    rfl
  intro n
  induction n with
  | zero =>
    intro text i hn ht hi
    obtain rfl : i = s.length := by omega
    rw [hend text ht, Tk.scan_end (by omega)]
  | succ n ih =>
    intro text i hn ht hi
    by_cases hlt : i < s.length
    · have hd : (s ++ q).drop i = s.drop i ++ q := List.drop_append_of_le_length hi
      have hc : s.drop i = s[i] :: s.drop (i + 1) := List.drop_eq_getElem_cons hlt
      have hmk : Tk.mark ((s ++ q).drop i) = Tk.mark (s.drop i) := by
        rw [hd, hc, hb, mark_sep (hs _ (List.getElem_mem hlt))]
      have hlen : i < (s ++ q).length := by rw [List.length_append]; omega
      by_cases h0 : (Tk.mark (s.drop i)).2 = 0
      · rw [Tk.scan_no hlen (by rw [hmk]; exact h0), Tk.scan_no hlt h0]
        exact ih text (i + 1) (by omega) (by omega) (by omega)
      · have hle := Tk.mark_le (s.drop i)
        rw [List.length_drop] at hle
        rw [Tk.scan_yes hlen (by rw [hmk]; exact h0), Tk.scan_yes hlt h0, hmk, List.map_append, List.map_cons, List.map_append, List.map_cons, gap_app s q (by omega) hi, tk_app s q _ hi (by show i + _ ≤ _; omega), ih _ _ (by omega) (Nat.le_refl _) (by omega), List.append_assoc]
        rfl
    · obtain rfl : i = s.length := by omega
      rw [hend text ht, Tk.scan_end (by omega)]
theorem scan_low {s : List UInt8} (hs : ∀ c ∈ s, c ≠ 60) : ∀ (n text i : Nat), s.length - i ≤ n → ∀ x ∈ Tk.scanL s text i, x.1 ≤ 8 := by
  have hg : ∀ a b, ∀ x ∈ Tk.gap a b, x.1 ≤ 8 := fun a b x hx => by
    unfold Tk.gap at hx
    split at hx
    · cases hx
    · rw [List.mem_singleton] at hx; subst hx; show (1 : Nat) ≤ 8; decide
  intro n
  induction n with
  | zero => intro text i hn x hx; rw [Tk.scan_end (by omega)] at hx; exact hg _ _ x hx
  | succ n ih =>
    intro text i hn x hx
    by_cases hlt : i < s.length
    · have hc : s.drop i = s[i] :: s.drop (i + 1) := List.drop_eq_getElem_cons hlt
      by_cases h0 : (Tk.mark (s.drop i)).2 = 0
      · rw [Tk.scan_no hlt h0] at hx; exact ih _ _ (by omega) x hx
      · rw [Tk.scan_yes hlt h0, List.mem_append, List.mem_cons] at hx
        rcases hx with hx | rfl | hx
        · exact hg _ _ x hx
        · show (Tk.mark (s.drop i)).1 ≤ 8
          rw [hc]; exact mark_low (hs _ (List.getElem_mem hlt)) _
        · exact ih _ _ (by omega) x hx
    · rw [Tk.scan_end hlt] at hx; exact hg _ _ x hx
theorem mark_open {t : Nat} (h1 : 1 ≤ t) (h3 : t ≤ 3) (X : List UInt8) : Tk.mark (Tk.tO t ++ X) = (11, (Tk.tO t).length) := by
  have h : t = 1 ∨ t = 2 ∨ t = 3 := by omega
  rcases h with rfl | rfl | rfl <;> rfl
theorem mark_shut {t : Nat} (h1 : 1 ≤ t) (h3 : t ≤ 3) : Tk.mark (Tk.tE t) = (12, (Tk.tE t).length) := by
  have h : t = 1 ∨ t = 2 ∨ t = 3 := by omega
  rcases h with rfl | rfl | rfl <;> rfl
theorem toks_tag {s : List UInt8} (hs : ∀ c ∈ s, c ≠ 60) {t : Nat} (h1 : 1 ≤ t) (h3 : t ≤ 3) : toks (Tk.tO t ++ (s ++ Tk.tE t)) = (11, Tk.tO t, (t : Int)) :: (toks s ++ [(12, Tk.tE t, (t : Int))]) := by
  obtain ⟨q, hq⟩ : ∃ b, Tk.tE t = 60 :: b := by
    have h : t = 1 ∨ t = 2 ∨ t = 3 := by omega
    rcases h with rfl | rfl | rfl <;> exact ⟨_, rfl⟩
  have hlo : (Tk.tO t).length ≠ 0 := by
    have h : t = 1 ∨ t = 2 ∨ t = 3 := by omega
    rcases h with rfl | rfl | rfl <;> decide
  have hg := tgOf_open t h1 h3
  have h2 := scan_sep (k := 12) hs ⟨q, hq⟩ (mark_shut h1 h3) s.length 0 0 (by omega) (Nat.le_refl _) (Nat.zero_le _)
  have hsh := Tk.scan_shift (Tk.tO t) (s ++ Tk.tE t) (s ++ Tk.tE t).length 0 0 (by omega)
  unfold toks
  rw [Tk.scan_yes (by rw [List.length_append]; omega) (by rw [List.drop_zero, mark_open h1 h3]; exact hlo), List.drop_zero, mark_open h1 h3]
  show (Tk.gap 0 0 ++ (11, 0, 0 + (Tk.tO t).length) :: Tk.scanL _ (0 + (Tk.tO t).length) (0 + (Tk.tO t).length)).map _ = _
  rw [Nat.zero_add, show Tk.scanL (Tk.tO t ++ (s ++ Tk.tE t)) (Tk.tO t).length (Tk.tO t).length = _ from hsh, show Tk.gap 0 0 = [] from rfl, List.nil_append, List.map_cons, List.map_map]
  have e1 : tk (Tk.tO t ++ (s ++ Tk.tE t)) (11, 0, (Tk.tO t).length) = (11, Tk.tO t, (t : Int)) := by
    unfold tk
    simp only [List.drop_zero, Nat.sub_zero]
    rw [show (Tk.tO t ++ (s ++ Tk.tE t)).take (Tk.tO t).length = Tk.tO t from by simp, hg.1]
  have e2 : (tk (Tk.tO t ++ (s ++ Tk.tE t)) ∘ Tk.shift (Tk.tO t).length) = tk (s ++ Tk.tE t) := by
    funext x
    show tk _ (Tk.shift _ x) = _
    have : ((Tk.tO t ++ (s ++ Tk.tE t)).drop (x.2.1 + (Tk.tO t).length)).take (x.2.2 + (Tk.tO t).length - (x.2.1 + (Tk.tO t).length)) = ((s ++ Tk.tE t).drop x.2.1).take (x.2.2 - x.2.1) := by
      rw [Nat.add_comm x.2.1, ← List.drop_drop, show (Tk.tO t ++ (s ++ Tk.tE t)).drop (Tk.tO t).length = s ++ Tk.tE t from by simp]
      congr 1; omega
    unfold tk Tk.shift
    rw [this]
  have e3 : tk (s ++ Tk.tE t) (12, s.length, s.length + (Tk.tE t).length) = (12, Tk.tE t, (t : Int)) := by
    unfold tk
    simp only [Nat.add_sub_cancel_left]
    rw [show (s ++ Tk.tE t).drop s.length = Tk.tE t from by simp, List.take_length, hg.2]
  rw [e1, e2, h2, e3]

/-! ### The stack -/
/-- The stack with a tag in the place of the root, above another root. -/
def em (t : Int) (op : List UInt8) : List El → List El
  | [] => []
  | [e] => [⟨2, op, t, e.nodes, []⟩, root]
  | e :: f :: st => e :: em t op (f :: st)
def N2 (st : List El) : Prop := ∀ e ∈ st, e.kind ≠ 2
variable {t : Int} {op : List UInt8}
theorem em_cons {e : El} {st : List El} (h : st ≠ []) : em t op (e :: st) = e :: em t op st := by
  cases st with
  | nil => exact absurd rfl h
  | cons f st => rfl
theorem em_len : ∀ {st : List El}, st ≠ [] → (em t op st).length = st.length + 1
  | [], h => absurd rfl h
  | [e], _ => rfl
  | e :: f :: st, _ => by rw [em, List.length_cons, em_len (by simp)]; rfl
theorem addN_nn {st : List El} (h : st ≠ []) (l : List Nd) : addN st l ≠ [] := by
  cases st with
  | nil => exact absurd rfl h
  | cons e st => simp [addN]
theorem em_addN : ∀ {st : List El}, Inv st → ∀ l, em t op (addN st l) = addN (em t op st) l
  | [], h, _ => h.elim
  | [e], h, l => by
    show em t op [addE e l] = [addE ⟨2, op, t, e.nodes, []⟩ l, root]
    have h1 : addE e l = { e with nodes := e.nodes ++ l } := by unfold addE; rw [h.2.1]; rfl
    rw [h1]; rfl
  | e :: f :: st, h, l => rfl
theorem em_addT {st : List El} (h : Inv st) (s : List UInt8) : em t op (addT st s) = addT (em t op st) s := em_addN h _
theorem em_flatten : ∀ {e f : El} {st : List El}, Inv (e :: f :: st) → em t op (flatten (e :: f :: st)) = flatten (em t op (e :: f :: st)) := fun {e f st} h => by
  show em t op (addN (f :: st) (flatE e)) = addN (em t op (f :: st)) (flatE e)
  exact em_addN h.2.2 _
theorem em_flats : ∀ (n : Nat) {st : List El}, Inv st → n < st.length → em t op (flats n st) = flats n (em t op st)
  | 0, _, _, _ => rfl
  | n + 1, e :: f :: st, h, hn => by
    rw [flats, flats, ← em_flatten h]
    exact em_flats n h.flatten (by rw [len_flatten]; simp only [List.length_cons] at *; omega)
  | n + 1, [e], _, hn => by simp at hn
theorem em_brace : ∀ {st : List El}, Inv st → braceAt (em t op st) = braceAt st
  | [e], h => by
    show braceAt [⟨2, op, t, e.nodes, []⟩, root] = braceAt [e]
    unfold braceAt
    rw [if_neg (show ¬ (2 : Nat) = 3 by decide), if_pos rfl, if_neg (by rw [h.1]; decide), if_neg (by rw [h.1]; decide)]
    rfl
  | e :: f :: st, h => by
    have ih := em_brace h.2.2
    show braceAt (e :: em t op (f :: st)) = braceAt (e :: f :: st)
    rw [braceAt, ih]
    rfl
theorem em_tag : ∀ {st : List El}, Inv st → N2 st → tagAt t (em t op st) = some (st.length - 1)
  | [e], h, _ => by
    show tagAt t [⟨2, op, t, e.nodes, []⟩, root] = some 0
    unfold tagAt
    rw [if_pos ⟨rfl, rfl⟩]
  | e :: f :: st, h, hn => by
    have ih := em_tag h.2.2 (fun x hx => hn x (List.mem_cons_of_mem _ hx))
    show tagAt t (e :: em t op (f :: st)) = _
    rw [tagAt, if_neg (fun q => hn e List.mem_cons_self q.1), ih]
    simp
theorem N2.add {st : List El} (h : N2 st) (l : List Nd) : N2 (addN st l) := by
  cases st with
  | nil => exact h
  | cons e st =>
    intro x hx
    rcases List.mem_cons.1 hx with rfl | hx
    · rw [(addE_kind e l).1]; exact h e List.mem_cons_self
    · exact h x (List.mem_cons_of_mem _ hx)
theorem N2.tail {e : El} {st : List El} (h : N2 (e :: st)) : N2 st := fun x hx => h x (List.mem_cons_of_mem _ hx)
theorem N2.flats : ∀ (n : Nat) {st : List El}, N2 st → N2 (flats n st)
  | 0, _, h => h
  | n + 1, [], h => N2.flats n h
  | n + 1, e :: st, h => N2.flats n (h.tail.add _)
theorem N2.cons {e : El} {st : List El} (he : e.kind ≠ 2) (h : N2 st) : N2 (e :: st) := fun x hx => by
  rcases List.mem_cons.1 hx with rfl | hx
  · exact he
  · exact h x hx
theorem em_close1 {e f : El} {st : List El} (h : Inv (e :: f :: st)) (c : Nat) : (close1 (em t op (e :: f :: st)) c) = (em t op (close1 (e :: f :: st) c).1, (close1 (e :: f :: st) c).2) := by
  show close1 (e :: em t op (f :: st)) c = _
  unfold close1
  simp only
  generalize (if 3 ≤ c ∧ 3 ≤ e.op.length then 3 else 2) = k
  split
  · rfl
  · have e1 := em_addN (t := t) (op := op) (h.2.2.add [tx (e.op.drop k)]) [Nd.mk (if k = 3 then 5 else 4) 0 ⟨#[]⟩ e.nodes e.args]
    have e2 := em_addT (t := t) (op := op) h.2.2 (e.op.drop k)
    show (addN (addT (em t op (f :: st)) (e.op.drop k)) _, k) = (em t op (addN (addT (f :: st) (e.op.drop k)) _), k)
    rw [← e2]
    exact congrArg (·, k) e1.symm
theorem N2.close1 {e : El} {st : List El} (h : N2 (e :: st)) (c : Nat) : N2 (close1 (e :: st) c).1 := by
  unfold Pa.close1
  simp only
  generalize (if 3 ≤ c ∧ 3 ≤ e.op.length then 3 else 2) = k
  split
  · exact N2.cons (show (3 : Nat) ≠ 2 by decide) h.tail
  · exact (h.tail.add _).add _
theorem len_close1 (e : El) (st : List El) (c : Nat) : (close1 (e :: st) c).1.length ≤ st.length + 1 := by
  unfold Pa.close1
  simp only
  generalize (if 3 ≤ c ∧ 3 ≤ e.op.length then 3 else 2) = k
  split
  · exact Nat.le_refl _
  · rw [len_addN, show (addT st (e.op.drop k)).length = st.length from len_addN _ _]; omega
theorem em_closeB : ∀ (f : Nat) {st : List El}, Inv st → N2 st → ∀ (n : Nat), em t op (closeB f st (List.replicate n 125)) = closeB f (em t op st) (List.replicate n 125) ∧ N2 (closeB f st (List.replicate n 125)) ∧ (closeB f st (List.replicate n 125)).length ≤ st.length
  | 0, st, h, h2, n => ⟨em_addT h _, h2.add _, by rw [closeB, addT, len_addN]; exact Nat.le_refl _⟩
  | f + 1, st, h, h2, n => by
    unfold closeB
    rw [em_brace h]
    split
    · exact ⟨em_addT h _, h2.add _, by rw [addT, len_addN]; exact Nat.le_refl _⟩
    · rename_i hl2
      rw [List.length_replicate] at hl2
      cases hq : braceAt st with
      | none => exact ⟨em_addT h _, h2.add _, by rw [addT, len_addN]; exact Nat.le_refl _⟩
      | some i =>
        have hl := braceAt_lt h hq
        have hf := flats_src i st (by omega)
        have hi := h.flats i (by omega)
        have ht := braceAt_flats h hq
        have hn2 := h2.flats i
        obtain ⟨e, r, e1, ho, hk, hr⟩ := top2 hi (by omega)
        have hrl : r.length + 1 ≤ st.length := by
          have := hf.2; rw [e1, List.length_cons] at this; omega
        dsimp only
        rw [← em_flats i h (by omega)]
        rw [e1] at ht hn2
        simp only [e1, List.length_replicate, List.drop_replicate]
        obtain ⟨g, r', rfl⟩ : ∃ g r', r = g :: r' := by
          cases r with
          | nil => exact hr.elim
          | cons g r' => exact ⟨g, r', rfl⟩
        rw [em_close1 ⟨hk, ho, hr⟩]
        have c1 := close1_src hr ho (brace_top ht) n (by omega)
        have ih := em_closeB f (st := (Pa.close1 (e :: g :: r') n).1) c1.2.1 (hn2.close1 n) (n - (Pa.close1 (e :: g :: r') n).2)
        have hlc := len_close1 e (g :: r') n
        exact ⟨ih.1, ih.2.1, by have := ih.2.2; omega⟩
/-- One token. -/
theorem em_take {st : List El} (h : Inv st) (h2 : N2 st) {k : Nat} {s : List UInt8} {u : Int} (hf : TF k s u) (hk : k ≤ 8) (hl : k = 3 ∨ k = 5 → st.length ≤ 19) :
    em t op (take st k s u) = take (em t op st) k s u ∧ N2 (take st k s u) ∧ (take st k s u).length ≤ st.length + (if k = 3 ∨ k = 5 then 1 else 0) := by
  have htx : em t op (addT st s) = addT (em t op st) s ∧ N2 (addT st s) ∧ ∀ m, (addT st s).length ≤ st.length + m := ⟨em_addT h s, h2.add _, fun m => by rw [addT, len_addN]; omega⟩
  have hpush : ∀ e : El, e.kind ≠ 2 → st.length ≤ 19 → em t op (push st e) = push (em t op st) e ∧ N2 (push st e) ∧ (push st e).length ≤ st.length + 1 := fun e he hs => by
    unfold push
    rw [if_neg (by omega), if_neg (by rw [em_len h.ne]; omega), em_cons h.ne]
    exact ⟨rfl, N2.cons he h2, Nat.le_refl _⟩
  by_cases k3 : k = 3
  · subst k3
    exact hpush ⟨3, s, 0, [], []⟩ (show (3 : Nat) ≠ 2 by decide) (hl (.inl rfl))
  by_cases k5 : k = 5
  · subst k5
    exact hpush ⟨1, s, 0, [], []⟩ (show (1 : Nat) ≠ 2 by decide) (hl (.inr rfl))
  rw [if_neg (show ¬ (k = 3 ∨ k = 5) by omega)]
  by_cases k7 : k = 7
  · subst k7
    match st, h, h2, htx with
    | [e], h, h2, htx =>
      show em t op (bar [e] s) = bar [⟨2, op, t, e.nodes, []⟩, root] s ∧ N2 (bar [e] s) ∧ (bar [e] s).length ≤ _
      have hb : bar [e] s = addT [e] s := if_neg (by rw [h.1]; decide)
      rw [hb]
      exact ⟨htx.1, htx.2.1, htx.2.2 0⟩
    | e :: f :: r, h, h2, htx =>
      show em t op (bar (e :: f :: r) s) = bar (e :: em t op (f :: r)) s ∧ N2 (bar (e :: f :: r) s) ∧ (bar (e :: f :: r) s).length ≤ _
      by_cases hk3 : e.kind = 3
      · have hb : ∀ q, bar (e :: q) s = { e with args := e.args ++ [.mk false [] []] } :: q := fun q => if_pos hk3
        rw [hb, hb]
        exact ⟨rfl, N2.cons (h2 e List.mem_cons_self) h2.tail, Nat.le_refl _⟩
      · have hb : ∀ q, bar (e :: q) s = addT (e :: q) s := fun q => if_neg hk3
        rw [hb, hb]
        exact ⟨htx.1, htx.2.1, htx.2.2 0⟩
  by_cases k8 : k = 8
  · subst k8
    match st, h, h2, htx with
    | [e], h, h2, htx =>
      show em t op (equal [e] s) = equal [⟨2, op, t, e.nodes, []⟩, root] s ∧ N2 (equal [e] s) ∧ (equal [e] s).length ≤ _
      have hb : equal [e] s = addT [e] s := if_pos (by rw [h.2.1]; rfl)
      rw [hb]
      exact ⟨htx.1, htx.2.1, htx.2.2 0⟩
    | e :: f :: r, h, h2, htx =>
      show em t op (equal (e :: f :: r) s) = equal (e :: em t op (f :: r)) s ∧ N2 (equal (e :: f :: r) s) ∧ (equal (e :: f :: r) s).length ≤ _
      cases hln : lastNamed e.args
      · have hb : ∀ q, equal (e :: q) s = { e with args := nameA e.args } :: q := fun q => if_neg (by rw [hln]; exact Bool.false_ne_true)
        rw [hb, hb]
        exact ⟨rfl, N2.cons (h2 e List.mem_cons_self) h2.tail, Nat.le_refl _⟩
      · have hb : ∀ q, equal (e :: q) s = addT (e :: q) s := fun q => if_pos hln
        rw [hb, hb]
        exact ⟨htx.1, htx.2.1, htx.2.2 0⟩
  by_cases k6 : k = 6
  · subst k6
    match st, h, h2, htx with
    | [e], h, h2, htx =>
      show em t op (linkEnd [e] s) = linkEnd [⟨2, op, t, e.nodes, []⟩, root] s ∧ N2 (linkEnd [e] s) ∧ (linkEnd [e] s).length ≤ _
      have hb : linkEnd [e] s = addT [e] s := if_neg (by rw [h.1]; decide)
      rw [hb]
      exact ⟨htx.1, htx.2.1, htx.2.2 0⟩
    | e :: f :: r, h, h2, htx =>
      show em t op (linkEnd (e :: f :: r) s) = linkEnd (e :: em t op (f :: r)) s ∧ N2 (linkEnd (e :: f :: r) s) ∧ (linkEnd (e :: f :: r) s).length ≤ _
      by_cases hk1 : e.kind = 1
      · have hb : ∀ q, linkEnd (e :: q) s = addT (flatten (e :: q)) s := fun q => if_pos hk1
        rw [hb, hb]
        refine ⟨?_, (h2.tail.add _).add _, ?_⟩
        · rw [em_addT h.flatten, em_flatten h]; rfl
        · rw [addT, len_addN, len_flatten]; simp
      · have hb : ∀ q, linkEnd (e :: q) s = addT (e :: q) s := fun q => if_neg hk1
        rw [hb, hb]
        exact ⟨htx.1, htx.2.1, htx.2.2 0⟩
  by_cases k4 : k = 4
  · subst k4
    have e := hf.c4 rfl
    have := em_closeB (t := t) (op := op) s.length h h2 s.length
    rw [← e] at this
    exact this
  · have hT : ∀ q, take q k s u = addT q s := fun q => by
      unfold take
      rw [if_neg (show ¬ k = 9 by omega), if_neg (show ¬ k = 10 by omega), if_neg k3, if_neg k5, if_neg (show ¬ k = 11 by omega), if_neg k7, if_neg k8, if_neg k6, if_neg (show ¬ k = 12 by omega), if_neg k4]
    rw [hT, hT]
    exact ⟨htx.1, htx.2.1, htx.2.2 0⟩
/-- How many elements the tokens open. -/
def opn? (k : Nat) : Bool := k == 3 || k == 5
def opens (l : List (Nat × List UInt8 × Int)) : Nat := (l.filter (fun x => opn? x.1)).length
theorem em_takes : ∀ (l : List (Nat × List UInt8 × Int)) {st : List El}, Inv st → N2 st → (∀ x ∈ l, TF x.1 x.2.1 x.2.2 ∧ x.1 ≤ 8) → st.length + opens l ≤ 20 →
    em t op (takes l st) = takes l (em t op st) ∧ N2 (takes l st)
  | [], st, h, h2, _, _ => ⟨rfl, h2⟩
  | x :: l, st, h, h2, hf, hl => by
    obtain ⟨hx, hk⟩ := hf x List.mem_cons_self
    have ho : opens (x :: l) = (if x.1 = 3 ∨ x.1 = 5 then 1 else 0) + opens l := by
      unfold opens
      rw [List.filter_cons]
      by_cases hq : x.1 = 3 ∨ x.1 = 5
      · have : opn? x.1 = true := by unfold opn?; rcases hq with hq | hq <;> rw [hq] <;> rfl
        rw [if_pos this, if_pos hq, List.length_cons]; omega
      · have : opn? x.1 = false := by
          unfold opn?
          rw [Bool.or_eq_false_iff, beq_eq_false_iff_ne, beq_eq_false_iff_ne]; omega
        rw [this, if_neg hq, Nat.zero_add]; rfl
    have h1 := em_take (t := t) (op := op) h h2 hx hk (fun hq => by rw [if_pos hq] at ho; omega)
    have hi := (take_src h hx).2
    have ih := em_takes l hi h1.2.1 (fun y hy => hf y (List.mem_cons_of_mem _ hy)) (by have := h1.2.2; omega)
    show em t op (takes l (take st x.1 x.2.1 x.2.2)) = takes l (take (em t op st) x.1 x.2.1 x.2.2) ∧ _
    rw [← h1.1]
    exact ih
/-- The tree of a text within a tag. -/
theorem tree_tag {s : List UInt8} (hs : ∀ c ∈ s, c ≠ 60) {t : Nat} (h1 : 1 ≤ t) (h3 : t ≤ 3) (ho : opens (toks s) < 20) : tree (toks (Tk.tO t ++ (s ++ Tk.tE t))) = [.mk 6 (t : Int) ⟨#[]⟩ (tree (toks s)) []] := by
  have h0 : Inv [root] := ⟨rfl, rfl, rfl⟩
  have hn0 : N2 [root] := N2.cons (show (0 : Nat) ≠ 2 by decide) (fun x hx => by cases hx)
  have hok := scan_ok s s.length 0 0 (by omega) (Nat.le_refl _) (Nat.zero_le _)
  have hlow : ∀ x ∈ toks s, TF x.1 x.2.1 x.2.2 ∧ x.1 ≤ 8 := fun x hx => by
    refine ⟨hok.1 x hx, ?_⟩
    obtain ⟨y, hy, rfl⟩ := List.mem_map.1 hx
    exact scan_low hs s.length 0 0 (by omega) y hy
  obtain ⟨hA, hN⟩ := em_takes (t := (t : Int)) (op := Tk.tO t) (toks s) h0 hn0 hlow (by show 1 + _ ≤ 20; omega)
  have hI := (takes_src (toks s) h0 (fun x hx => (hlow x hx).1)).2
  have e1 : takes (toks (Tk.tO t ++ (s ++ Tk.tE t))) [root] = tagEnd (em (t : Int) (Tk.tO t) (takes (toks s) [root])) (Tk.tE t) (t : Int) := by
    rw [toks_tag hs h1 h3, hA]
    show takes (toks s ++ [_]) (take [root] 11 (Tk.tO t) (t : Int)) = _
    unfold takes
    rw [List.foldl_append]
    rfl
  have e2 : tree (toks s) = join (nodesOf (flats ((takes (toks s) [root]).length - 1) (takes (toks s) [root]))) := rfl
  generalize takes (toks s) [root] = A at hI hN e1 e2
  have hpos : 0 < A.length := List.length_pos_iff.2 hI.ne
  have hft := em_tag (t := (t : Int)) (op := Tk.tO t) hI hN
  have hem := em_flats (t := (t : Int)) (op := Tk.tO t) (A.length - 1) hI (by omega)
  have hfl := (flats_src (A.length - 1) A (by omega)).2
  have e3 : tagEnd (em (t : Int) (Tk.tO t) A) (Tk.tE t) (t : Int) = addN [root] [.mk 6 (t : Int) ⟨#[]⟩ (nodesOf (flats (A.length - 1) A)) []] := by
    unfold tagEnd
    rw [hft]
    simp only
    rw [← hem]
    match hq : flats (A.length - 1) A, hfl with
    | [e], _ => rfl
    | [], hfl => simp at hfl; omega
    | e :: f :: r, hfl => simp at hfl; omega
  unfold tree at e2 ⊢
  rw [e1, e3, e2]
  show join [.mk 6 (t : Int) ⟨#[]⟩ (nodesOf (flats (A.length - 1) A)) []] = _
  rw [join_cons, join_nil, joinN_eq]
  refine (if_neg (show ¬ (6 : Int) = 1 by decide)).trans ?_
  unfold jb
  simp only [Nd.kind, Nd.tag, Nd.text, Nd.kids, Nd.args, joinA_nil]
end Go.Proofs.YtdojbnngdlmbgaaGreatDoor.Pa

namespace Go.Proofs.YtdojbnngdlmbgaaGreatDoor.Pa
open Go.RowKit

theorem quiet_add_same {P : Program} {f : FuncId} {args : Array Value} {w : World} {a n : Nat} {v : Value}
    (h : Calls P f args (w.drewN (a + n)) fun e w' => e = .returned v ∧ w' = w.drewN (a + n)) :
    Calls P f args (w.drewN (a + n)) fun e w'' => e = .returned v ∧ ∃ m, w'' = w.drewN (a + m) :=
  h.mono fun _ _ ⟨he, hm⟩ => ⟨he, n, hm⟩
theorem below_drewN' {w : World} (n : Nat) : Below w.heap.size w (w.drewN n) := ⟨rfl, rfl, rfl, Nat.le_refl _, fun _ _ => rfl⟩
/-- Bytes below 128 alone. -/
def Asc (s : ByteArray) : Prop := ∀ (j : Nat) b, s.data.toList[j]? = some b → b.toNat < 128
theorem Asc.at {s : ByteArray} (h : Asc s) (i : Nat) (hi : i < s.size) : (s[i]'hi).toNat < 128 := h i _ (Lib.data_getElem? s i hi)
theorem indexByte_asc {s : ByteArray} (h : Asc s) (i : Nat) (c : UInt8) (hc : 128 ≤ c.toNat) : Lib.indexByte (s.data.toList.drop i) c = -1 := by
  have hn : (s.data.toList.drop i).contains c = false := by
    rw [Bool.eq_false_iff]
    intro hh
    rw [List.contains_iff_mem] at hh
    obtain ⟨j, hj⟩ := List.mem_iff_getElem?.1 hh
    rw [List.getElem?_drop] at hj
    have := h _ _ hj
    omega
  have h1 := Lib.contains_iff_indexByte (s.data.toList.drop i) c
  rw [hn] at h1
  have h2 : ¬ (0 : Int) ≤ Lib.indexByte (s.data.toList.drop i) c := of_decide_eq_false h1.symm
  have h3 := Lib.indexByte_ge (s.data.toList.drop i) c
  omega
/-- The bytes of a rune from 128 on. -/
theorem toNat_hi (n : Nat) : (UInt8.ofNat (0x80 + n % 64)).toNat = 128 + n % 64 := by
  simp; omega
theorem enc_high {r : Int} (h : 128 ≤ r) : 2 ≤ (Utf8.encode r).size ∧ (Utf8.encode r).size ≤ 4 ∧ ∀ (k : Nat) (hi : k < (Utf8.encode r).size), (Utf8.encode r).size = k + 1 → 128 ≤ ((Utf8.encode r)[k]'hi).toNat := by
  obtain ⟨c, hc, hc2⟩ : ∃ c : Nat, (if Utf8.valid r then r.toNat else Utf8.runeError) = c ∧ 128 ≤ c := by
    refine ⟨_, rfl, ?_⟩
    split
    · omega
    · decide
  have key : ∀ (a : Array UInt8) (L : List UInt8) (m : Nat), a = (L ++ [UInt8.ofNat (0x80 + m % 64)]).toArray → Utf8.encode r = ⟨a⟩ → 1 ≤ L.length → L.length ≤ 3 → 2 ≤ (Utf8.encode r).size ∧ (Utf8.encode r).size ≤ 4 ∧ ∀ (k : Nat) (hi : k < (Utf8.encode r).size), (Utf8.encode r).size = k + 1 → 128 ≤ ((Utf8.encode r)[k]'hi).toNat := by
    intro a L m ha he h1 h3
    subst ha
    rw [he]
    have hs : (⟨(L ++ [UInt8.ofNat (0x80 + m % 64)]).toArray⟩ : ByteArray).size = L.length + 1 := by
      show (L ++ [UInt8.ofNat (0x80 + m % 64)]).toArray.size = _
      simp
    refine ⟨by omega, by omega, fun k hi hk => ?_⟩
    have hkl : k = L.length := by omega
    subst hkl
    have : (⟨(L ++ [UInt8.ofNat (0x80 + m % 64)]).toArray⟩ : ByteArray)[L.length]'hi = UInt8.ofNat (0x80 + m % 64) := by
      show ((L ++ [UInt8.ofNat (0x80 + m % 64)]).toArray)[L.length]'_ = _
      simp
    rw [this, toNat_hi]; omega
  have he : Utf8.encode r = (if c < 0x80 then ⟨#[UInt8.ofNat c]⟩ else if c < 0x800 then ⟨#[UInt8.ofNat (0xC0 + c / 64), UInt8.ofNat (0x80 + c % 64)]⟩ else if c < 0x10000 then ⟨#[UInt8.ofNat (0xE0 + c / 4096), UInt8.ofNat (0x80 + c / 64 % 64), UInt8.ofNat (0x80 + c % 64)]⟩ else ⟨#[UInt8.ofNat (0xF0 + c / 262144), UInt8.ofNat (0x80 + c / 4096 % 64), UInt8.ofNat (0x80 + c / 64 % 64), UInt8.ofNat (0x80 + c % 64)]⟩) := by
    unfold Utf8.encode
    simp only [hc]
  rw [if_neg (by omega)] at he
  split at he
  · exact key _ [UInt8.ofNat (0xC0 + c / 64)] c rfl he (by simp) (by simp)
  · split at he
    · exact key _ [UInt8.ofNat (0xE0 + c / 4096), UInt8.ofNat (0x80 + c / 64 % 64)] c rfl he (by simp) (by simp)
    · exact key _ [UInt8.ofNat (0xF0 + c / 262144), UInt8.ofNat (0x80 + c / 4096 % 64), UInt8.ofNat (0x80 + c / 64 % 64)] c rfl he (by simp) (by simp)
set_option maxRecDepth 100000 in
set_option maxHeartbeats 2000000 in
theorem IndexRune_error (s : ByteArray) (w : World) (ha : Asc s) (hs : s.size ≤ 100) : Calls Tryz.prog 100 #[.string s, .int .i32 65533] w fun e w' => e = .returned (.int .i64 (-1)) ∧ Below w.heap.size w w' := by
  have HA := Lib.hid ha; clear ha
  go_enter Tryz.func100, Tryz.ntmps100
  go_wp2
  go_loopw [5, 6] (fun _ _ w' => ∃ pos : Nat, w' = w.iter s pos ∧ pos ≤ s.size) (fun _ _ w' => s.size - w'.iterPos w.heap.size)
  case atStart => exact ⟨0, rfl, by omega⟩
  case round =>
    obtain ⟨pos, rfl, hp⟩ := hrel
    by_cases hlt : pos < s.size
    · have hx := HA.out.at pos hlt
      have hnx := fun ty => run_next_ascii (P := Tryz.prog) w s pos ty hlt hx
      have hne : ((s[pos].toNat : Int) == 65533) = false := by rw [beq_eq_false_iff_ne]; omega
      go_wp2
      go_roundw
      case rel => exact ⟨pos + 1, rfl, by omega⟩
      case measure => simp; omega
    · have hnx := fun ty => run_next_end (P := Tryz.prog) w s pos ty hlt
      go_wp2
      go_ret
      exact ⟨rfl, (Below.refl _ _).alloc (Nat.le_refl _) _⟩
set_option maxRecDepth 100000 in
set_option maxHeartbeats 2000000 in
theorem IndexRune_high (s : ByteArray) (r : Int) (w : World) (ha : Asc s) (hs : s.size ≤ 100) (h5 : 5 ≤ s.size) (h : 128 ≤ r) (hne : r ≠ 65533) : Calls Tryz.prog 100 #[.string s, .int .i32 r] w fun e w' => e = .returned (.int .i64 (-1)) ∧ Below w.heap.size w w' := by
  have h1 : decide (r < 128) = false := by rw [decide_eq_false_iff_not]; omega
  have h2 : (r == 65533) = false := by rw [beq_eq_false_iff_ne]; exact hne
  cases hv : Lib.validRune r
  · clear hne
    go_enter Tryz.func100, Tryz.ntmps100
    go_wp2_with fail
    refine (Tryz.utf8_ValidRune _ _).mono ?_
    rintro e w' ⟨rfl, hw⟩
    go_wp2
    go_ret
    exact ⟨rfl, by subst hw; exact Below.refl _ _⟩
  · clear hne
    obtain ⟨e1, e2, e3⟩ := enc_high h
    obtain ⟨R, hR⟩ : ∃ R : ByteArray, R = Utf8.encode r := ⟨_, rfl⟩
    rw [← hR] at e1 e2 e3
    have hR2 : Utf8.encode r = R := hR.symm
    clear hR
    have hz3 : R.size = 2 ∨ R.size = 3 ∨ R.size = 4 := by omega
    rcases hz3 with hz | hz | hz
    · have hz : R.size = 2 := hz
      have x1 := ha.at 1 (by omega)
      have x2 : 128 ≤ (R[1]'(by omega)).toNat := e3 1 (by omega) (by omega)
      have hi1 : 1 < s.size := by omega
      have hi2 : 2 ≤ s.size := by omega
      have hi4 : (2 : Int) ≤ (s.size : Int) := by omega
      have hi5 : ¬ (s.size : Int) < 2 := by omega
      have hi6 : ¬ s.size < 2 := by omega
      have hi3 : 1 < R.size := by omega
      have hne2 : ((s[1].toNat : Int) != (R[1].toNat : Int)) = true := by rw [bne_iff_ne]; omega
      have hIB : ∀ W : World, Calls Tryz.prog 132 #[.string (s.extract 2 s.size), .int .u8 (R[1].toNat : Int)] W fun e w' => e = .returned (.int .i64 (-1)) ∧ w' = W := fun W => by
        have c := Tryz.strings_IndexByte (s.extract 2 s.size) (R[1].toNat : Int) W
        rw [Lib.extract_to_end, show ((R[1].toNat : Int)).toNat.toUInt8 = R[1] by simp, indexByte_asc ha _ _ x2] at c
        exact c
      have HI := Lib.hid hIB; clear hIB e3 e1 e2 ha x1 x2
      go_enter Tryz.func100, Tryz.ntmps100
      go_wp2_with fail
      refine (Tryz.utf8_ValidRune _ _).mono ?_
      rintro e w' ⟨rfl, hw⟩
      subst hw
      go_wp2
      go_step3
      go_wp2
      go_loop [9, 10] (fun x y => x = .int .i64 1 ∧ y = .int .i64 0) (fun _ _ => 0)
      case atStart => exact ⟨rfl, rfl⟩
      case round =>
        obtain ⟨rfl, rfl⟩ := hrel
        go_wp2
        go_step3
        go_wp2
        go_region
        go_wp2
        go_quiet ((go_at_call 132; exact (quiet_add_same (HI.out _))))
        go_wp2
        change bodyPost Tryz.prog Tryz.f100 (fun e w'_1 => e = .returned (.int .i64 (-1)) ∧ Below w'.heap.size w' w'_1) Exit.ret _ _
        go_ret
        exact ⟨rfl, below_drewN' _⟩
    · have hz : R.size = 3 := hz
      have x1 := ha.at 2 (by omega)
      have x2 : 128 ≤ (R[2]'(by omega)).toNat := e3 2 (by omega) (by omega)
      have hi1 : 2 < s.size := by omega
      have hi2 : 3 ≤ s.size := by omega
      have hi4 : (3 : Int) ≤ (s.size : Int) := by omega
      have hi5 : ¬ (s.size : Int) < 3 := by omega
      have hi6 : ¬ s.size < 3 := by omega
      have hi3 : 2 < R.size := by omega
      have hne2 : ((s[2].toNat : Int) != (R[2].toNat : Int)) = true := by rw [bne_iff_ne]; omega
      have hIB : ∀ W : World, Calls Tryz.prog 132 #[.string (s.extract 3 s.size), .int .u8 (R[2].toNat : Int)] W fun e w' => e = .returned (.int .i64 (-1)) ∧ w' = W := fun W => by
        have c := Tryz.strings_IndexByte (s.extract 3 s.size) (R[2].toNat : Int) W
        rw [Lib.extract_to_end, show ((R[2].toNat : Int)).toNat.toUInt8 = R[2] by simp, indexByte_asc ha _ _ x2] at c
        exact c
      have HI := Lib.hid hIB; clear hIB e3 e1 e2 ha x1 x2
      go_enter Tryz.func100, Tryz.ntmps100
      go_wp2_with fail
      refine (Tryz.utf8_ValidRune _ _).mono ?_
      rintro e w' ⟨rfl, hw⟩
      subst hw
      go_wp2
      go_step3
      go_wp2
      go_loop [9, 10] (fun x y => x = .int .i64 2 ∧ y = .int .i64 0) (fun _ _ => 0)
      case atStart => exact ⟨rfl, rfl⟩
      case round =>
        obtain ⟨rfl, rfl⟩ := hrel
        go_wp2
        go_step3
        go_wp2
        go_region
        go_wp2
        go_quiet ((go_at_call 132; exact (quiet_add_same (HI.out _))))
        go_wp2
        change bodyPost Tryz.prog Tryz.f100 (fun e w'_1 => e = .returned (.int .i64 (-1)) ∧ Below w'.heap.size w' w'_1) Exit.ret _ _
        go_ret
        exact ⟨rfl, below_drewN' _⟩
    · have hz : R.size = 4 := hz
      have x1 := ha.at 3 (by omega)
      have x2 : 128 ≤ (R[3]'(by omega)).toNat := e3 3 (by omega) (by omega)
      have hi1 : 3 < s.size := by omega
      have hi2 : 4 ≤ s.size := by omega
      have hi4 : (4 : Int) ≤ (s.size : Int) := by omega
      have hi5 : ¬ (s.size : Int) < 4 := by omega
      have hi6 : ¬ s.size < 4 := by omega
      have hi3 : 3 < R.size := by omega
      have hne2 : ((s[3].toNat : Int) != (R[3].toNat : Int)) = true := by rw [bne_iff_ne]; omega
      have hIB : ∀ W : World, Calls Tryz.prog 132 #[.string (s.extract 4 s.size), .int .u8 (R[3].toNat : Int)] W fun e w' => e = .returned (.int .i64 (-1)) ∧ w' = W := fun W => by
        have c := Tryz.strings_IndexByte (s.extract 4 s.size) (R[3].toNat : Int) W
        rw [Lib.extract_to_end, show ((R[3].toNat : Int)).toNat.toUInt8 = R[3] by simp, indexByte_asc ha _ _ x2] at c
        exact c
      have HI := Lib.hid hIB; clear hIB e3 e1 e2 ha x1 x2
      go_enter Tryz.func100, Tryz.ntmps100
      go_wp2_with fail
      refine (Tryz.utf8_ValidRune _ _).mono ?_
      rintro e w' ⟨rfl, hw⟩
      subst hw
      go_wp2
      go_step3
      go_wp2
      go_loop [9, 10] (fun x y => x = .int .i64 3 ∧ y = .int .i64 0) (fun _ _ => 0)
      case atStart => exact ⟨rfl, rfl⟩
      case round =>
        obtain ⟨rfl, rfl⟩ := hrel
        go_wp2
        go_step3
        go_wp2
        go_region
        go_wp2
        go_quiet ((go_at_call 132; exact (quiet_add_same (HI.out _))))
        go_wp2
        change bodyPost Tryz.prog Tryz.f100 (fun e w'_1 => e = .returned (.int .i64 (-1)) ∧ Below w'.heap.size w' w'_1) Exit.ret _ _
        go_ret
        exact ⟨rfl, below_drewN' _⟩
end Go.Proofs.YtdojbnngdlmbgaaGreatDoor.Pa

namespace Go.Proofs.YtdojbnngdlmbgaaGreatDoor.Pa
open Go.RowKit

theorem dec_N (n b0 b1 b2 b3 : Nat) (h : 128 ≤ b0) : 1 ≤ (Lib.decodeN n b0 b1 b2 b3).2 ∧ (Lib.decodeN n b0 b1 b2 b3).2 ≤ 4 ∧ (2 ≤ (Lib.decodeN n b0 b1 b2 b3).2 → 128 ≤ b1 ∧ 1 < n) ∧ (3 ≤ (Lib.decodeN n b0 b1 b2 b3).2 → 128 ≤ b2 ∧ 2 < n) ∧ (4 ≤ (Lib.decodeN n b0 b1 b2 b3).2 → 128 ≤ b3 ∧ 3 < n) := by
  unfold Lib.decodeN
  rw [if_neg (by omega)]
  repeat' split
  all_goals
    refine ⟨?_, ?_, ?_, ?_, ?_⟩ <;> simp only <;> omega
theorem get_list {s : ByteArray} {j : Nat} {b : UInt8} (h : s.data.toList[j]? = some b) : s.get! j = b ∧ j < s.size := by
  obtain ⟨hj, he⟩ := List.getElem?_eq_some_iff.1 h
  have hj2 : j < s.size := by simpa using hj
  have := get_at s j hj2
  rw [Nat.add_zero] at this
  refine ⟨?_, hj2⟩
  rw [this, ← he]; rfl
theorem dec_skip (s : ByteArray) (pos : Nat) (h : pos < s.size) (hb : 128 ≤ (s[pos]'h).toNat) (j : Nat) (b : UInt8) (h1 : pos ≤ j) (h2 : j < pos + (Utf8.decode s pos).2) (hj : s.data.toList[j]? = some b) : 128 ≤ b.toNat := by
  obtain ⟨hg, hl⟩ := get_list hj
  have h0 := get_at s pos h
  rw [Nat.add_zero] at h0
  rw [Lib.decode_at] at h2
  have hb2 : 128 ≤ (s.get! pos).toNat := by rw [h0]; exact hb
  obtain ⟨w1, w4, q2, q3, q4⟩ := dec_N (s.size - pos) (s.get! pos).toNat (s.get! (pos + 1)).toNat (s.get! (pos + 2)).toNat (s.get! (pos + 3)).toNat hb2
  generalize (Lib.decodeN (s.size - pos) (s.get! pos).toNat (s.get! (pos + 1)).toNat (s.get! (pos + 2)).toNat (s.get! (pos + 3)).toNat).2 = W at h2 w1 w4 q2 q3 q4
  have hk : j = pos ∨ j = pos + 1 ∨ j = pos + 2 ∨ j = pos + 3 := by omega
  rcases hk with rfl | rfl | rfl | rfl
  · rw [hg] at hb2; exact hb2
  · have := (q2 (by omega)).1; rw [hg] at this; exact this
  · have := (q3 (by omega)).1; rw [hg] at this; exact this
  · have := (q4 (by omega)).1; rw [hg] at this; exact this
theorem dec_end (s : ByteArray) (pos : Nat) (h : pos < s.size) (hb : 128 ≤ (s[pos]'h).toNat) : pos + (Utf8.decode s pos).2 ≤ s.size ∧ 1 ≤ (Utf8.decode s pos).2 := by
  have h0 := get_at s pos h
  rw [Nat.add_zero] at h0
  rw [Lib.decode_at]
  have hb2 : 128 ≤ (s.get! pos).toNat := by rw [h0]; exact hb
  obtain ⟨w1, w4, q2, q3, q4⟩ := dec_N (s.size - pos) (s.get! pos).toNat (s.get! (pos + 1)).toNat (s.get! (pos + 2)).toNat (s.get! (pos + 3)).toNat hb2
  generalize (Lib.decodeN (s.size - pos) (s.get! pos).toNat (s.get! (pos + 1)).toNat (s.get! (pos + 2)).toNat (s.get! (pos + 3)).toNat).2 = W at w1 w4 q2 q3 q4 ⊢
  have hk : W = 1 ∨ W = 2 ∨ W = 3 ∨ W = 4 := by omega
  rcases hk with rfl | rfl | rfl | rfl
  · omega
  · have := (q2 (by omega)).2; omega
  · have := (q3 (by omega)).2; omega
  · have := (q4 (by omega)).2; omega
theorem noAny_skip {s chars : ByteArray} {pos : Nat} (hc : Asc chars) (h : Lib.NoAny s.data.toList chars.data.toList pos) (hp : pos < s.size) (hb : 128 ≤ (s[pos]'hp).toNat) : Lib.NoAny s.data.toList chars.data.toList (pos + (Utf8.decode s pos).2) := by
  intro j b hj hjb
  by_cases h1 : j < pos
  · exact h j b h1 hjb
  · have h2 := dec_skip s pos hp hb j b (by omega) hj hjb
    rw [Bool.eq_false_iff]
    intro hh
    rw [List.contains_iff_mem] at hh
    obtain ⟨i, hi⟩ := List.mem_iff_getElem?.1 hh
    have := hc _ _ hi
    omega
/-- IndexRune at any rune from 128 on. -/
theorem IndexRune_far (s : ByteArray) (r : Int) (w : World) (ha : Asc s) (hs : s.size ≤ 100) (h5 : 5 ≤ s.size) (h : 128 ≤ r) : Calls Tryz.prog 100 #[.string s, .int .i32 r] w fun e w' => e = .returned (.int .i64 (-1)) ∧ Below w.heap.size w w' := by
  by_cases hr : r = 65533
  · subst hr; exact IndexRune_error s w ha hs
  · exact IndexRune_high s r w ha hs h5 h hr
theorem below_iterAt {w W : World} (h : Below w.heap.size w W) (s : ByteArray) (pos : Nat) : Below w.heap.size w (W.iterAt w.heap.size s pos) :=
  ⟨h.os, h.tape, h.output, by show w.heap.size ≤ (W.heap.setIfInBounds _ _).size; rw [Array.size_setIfInBounds]; exact h.size, fun k hk => by
    show (W.heap.setIfInBounds w.heap.size (.stringIter s pos))[k]? = _
    rw [Array.getElem?_setIfInBounds_ne (by omega)]; exact h.block k hk⟩
theorem iterPos_of {W : World} {k p : Nat} {s : ByteArray} (h : W.heap[k]? = some (.stringIter s p)) : W.iterPos k = p := by simp [World.iterPos, h]
theorem iter_past {W W' : World} {k p : Nat} {s : ByteArray} (h : W.heap[k]? = some (.stringIter s p)) (hb : Below W.heap.size W W') : W'.heap[k]? = some (.stringIter s p) :=
  (hb.block k (Array.getElem?_eq_some_iff.1 h).1).trans h
set_option maxRecDepth 100000 in
set_option maxHeartbeats 2000000 in
theorem IndexAny_short (s chars : ByteArray) (w : World) (hc : Asc chars) (hcs : chars.size ≤ 100) (h5 : 5 ≤ chars.size) (h8 : s.size ≤ 8) :
    Calls Tryz.prog 49 #[.string s, .string chars] w fun e w' => e = .returned (.int .i64 (Lib.indexAny s.data.toList chars.data.toList)) ∧ Below w.heap.size w w' := by
  have hemp : chars.toList.isEmpty = false := by
    rw [Lib.toList_data]
    cases h : chars.data.toList with
    | nil => have := Lib.size_eq chars; rw [h, List.length_nil] at this; omega
    | cons _ _ => rfl
  have hn1 : ((chars.size : Int) == 1) = false := beq_eq_false_iff_ne.2 (by omega)
  have h8z : decide ((8 : Int) < (s.size : Int)) = false := decide_eq_false (by omega)
  have HC := Lib.hid hc; clear hc
  go_enter Tryz.func49, Tryz.ntmps49
  go_wp2_with fail
  refine (Tryz.strings_shouldUseASCIISet _ _).mono ?_
  rintro e w' ⟨rfl, hw⟩
  have hw2 := hw.symm
  subst hw2
  clear hw
  go_wp2
  go_loopw [9, 10] (fun _ _ wr => ∃ pos : Nat, pos ≤ s.size ∧ Hid (wr.heap[w.heap.size]? = some (.stringIter s pos)) ∧ Hid (Below w.heap.size w wr) ∧ Hid (Lib.NoAny s.data.toList chars.data.toList pos)) (fun _ _ wr => s.size - wr.iterPos w.heap.size)
  case atStart => exact ⟨0, Nat.zero_le _, Lib.hid (World.iter_heap w s 0), Lib.hid ((Below.refl _ _).alloc (Nat.le_refl _) _), Lib.hid (Lib.NoAny.zero _ _)⟩
  case round =>
    obtain ⟨pos, hp, HT, HB, HN⟩ := hrel
    have HP := Lib.hid (iterPos_of HT.out)
    by_cases hlt : pos < s.size
    · obtain ⟨x, hx⟩ : ∃ x : UInt8, s[pos]'hlt = x := ⟨_, rfl⟩
      have hxl : s.data.toList[pos]? = some x := by rw [← hx]; exact Lib.data_getElem? s pos hlt
      by_cases h128 : x.toNat < 128
      · have hnx := fun ty => Lib.run_next_ascii_at (P := Tryz.prog) wr w.heap.size s pos ty HT.out hlt (by rw [hx]; exact h128)
        rw [hx] at hnx
        have HB2 := Lib.hid (below_iterAt HB.out s (pos + 1))
        have HT2 := Lib.hid (Lib.iterAt_heap wr w.heap.size s pos (pos + 1) HT.out)
        have Hx := Lib.hid hxl
        have hback : ((x.toNat : Int)).toNat.toUInt8 = x := by simp
        have hcon := Lib.contains_iff_indexByte chars.data.toList x
        have CR := Lib.hid (Tryz.strings_IndexRune_ascii chars (x.toNat : Int) (wr.iterAt w.heap.size s (pos + 1)) (by omega) (by omega))
        rw [hback] at CR
        clear hxl hx hback
        cases hin : chars.data.toList.contains x
        · rw [hin] at hcon
          have hlt2 : ¬ ((0 : Int) ≤ Lib.indexByte chars.data.toList x) := of_decide_eq_false hcon.symm
          have HI := Lib.hid hin
          clear hcon hin
          go_wp2_with fail
          refine CR.out.mono ?_
          rintro e w' ⟨rfl, hw⟩
          have hw2 := hw.symm
          subst hw2
          clear hw
          go_wp2
          go_roundw
          case rel => exact ⟨pos + 1, by omega, HT2, HB2, Lib.hid (HN.out.succ Hx.out HI.out)⟩
          case measure => rw [iterPos_of HT2.out, HP.out]; omega
        · rw [hin] at hcon
          have hge : (0 : Int) ≤ Lib.indexByte chars.data.toList x := of_decide_eq_true hcon.symm
          have HI := Lib.hid hin
          clear hcon hin
          go_wp2_with fail
          refine CR.out.mono ?_
          rintro e w' ⟨rfl, hw⟩
          have hw2 := hw.symm
          subst hw2
          clear hw
          go_wp2
          go_ret
          exact ⟨by rw [Lib.indexAny_hit HN.out Hx.out HI.out]; rfl, HB2.out⟩
      · have hnx := fun ty => Lib.run_next_any_at (P := Tryz.prog) wr w.heap.size s pos ty HT.out hlt
        have hh := (decode_high s pos hlt (by rw [hx]; omega)).1
        obtain ⟨q1, q2⟩ := dec_end s pos hlt (by rw [hx]; omega)
        have HN2 := Lib.hid (noAny_skip HC.out HN.out hlt (by rw [hx]; omega))
        obtain ⟨D, hD⟩ : ∃ D, D = Utf8.decode s pos := ⟨_, rfl⟩
        rw [← hD] at hnx hh q1 q2 HN2
        have HB2 := Lib.hid (below_iterAt HB.out s (pos + D.2))
        have HT2 := Lib.hid (Lib.iterAt_heap wr w.heap.size s pos (pos + D.2) HT.out)
        have CR := Lib.hid (IndexRune_far chars (D.1 : Int) (wr.iterAt w.heap.size s (pos + D.2)) HC.out hcs h5 (by omega))
        clear hxl hx hD
        go_wp2_with fail
        refine CR.out.mono ?_
        rintro e w2 ⟨rfl, hb⟩
        have HT3 := Lib.hid (iter_past HT2.out hb)
        have HB3 := Lib.hid (HB2.out.trans (hb.mono HB2.out.size))
        clear hb
        go_wp2
        go_roundw
        case rel => exact ⟨pos + D.2, q1, HT3, HB3, HN2⟩
        case measure => rw [iterPos_of HT3.out, HP.out]; omega
    · obtain rfl : pos = s.size := by omega
      have hnx := fun ty => Lib.run_next_end_at (P := Tryz.prog) wr w.heap.size s s.size ty HT.out hlt
      go_wp2
      go_ret
      exact ⟨by rw [Lib.indexAny_none (by rw [← Lib.size_eq]; exact HN.out)]; rfl, HB.out⟩
/-- strings.ContainsAny at strings of any bytes. -/
theorem ContainsAny_any (s chars : ByteArray) (w : World) (hc : Asc chars) (hcs : chars.size ≤ 100) (h5 : 5 ≤ chars.size) (hs : s.size < 4294967281) :
    Calls Tryz.prog 22 #[.string s, .string chars] w fun e w' => e = .returned (.bool (Lib.containsAny s.data.toList chars.data.toList)) ∧ Below w.heap.size w w' := by
  have c : Calls Tryz.prog 49 #[.string s, .string chars] w fun e w' => e = .returned (.int .i64 (Lib.indexAny s.data.toList chars.data.toList)) ∧ Below w.heap.size w w' := by
    by_cases h8 : s.size ≤ 8
    · exact IndexAny_short s chars w hc hcs h5 h8
    · refine (Tryz.strings_IndexAny_long (zero_of_info (n := 256) (by kernel_rfl)).1 s chars w (by omega) (by omega) hs (by omega) hc).mono fun e w' ⟨h1, h2⟩ => ⟨h1, ?_⟩
      rw [h2]
      exact ((Below.refl _ _).alloc (Nat.le_refl _) _).alloc (by simp) _
  have C := Lib.hid c
  clear c
  go_enter Tryz.func22, Tryz.ntmps22
  go_wp2_with fail
  refine C.out.mono ?_
  rintro e w' ⟨rfl, hb⟩
  go_wp2
  go_ret
  exact ⟨rfl, hb⟩
end Go.Proofs.YtdojbnngdlmbgaaGreatDoor.Pa
