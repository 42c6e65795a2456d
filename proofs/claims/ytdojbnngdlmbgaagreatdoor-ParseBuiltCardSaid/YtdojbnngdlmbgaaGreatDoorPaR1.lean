/-
  The reference's parser as a function on lists, and that it gives the joined tree of the program's.
  The reference's parser in memory: its stack is copied for every change, so that only the block of the parser changes.
  The contracts of the reference's top, replace and pop.
  The contract of the reference's replace.
  The contract of the reference's pop.
  The contract of the reference's joined.
-/
import Derived.Test.YtdojbnngdlmbgaaGreatDoorPaF
import Derived.Test.YtdojbnngdlmbgaaGreatDoorPaA
import Derived.BigRegion
import Derived.StillTailTactics
namespace Go.Proofs.YtdojbnngdlmbgaaGreatDoor.Pa
open Go.Proofs.YtdojbnngdlmbgaaGreatDoor.Tr
set_option linter.unusedVariables false

/-! ### Lists with a further node -/
def jn (l : List Nd) (n : Nd) : List Nd :=
  if n.kind = 1 then (if n.text.size = 0 then l else match l.getLast? with
    | some m => if m.kind = 1 then l.dropLast ++ [txN (m.text ++ n.text)] else l ++ [n]
    | none => l ++ [n]) else l ++ [n]
def jns (X l : List Nd) : List Nd := l.foldl jn X
def jx (n : Nd) : Nd := if n.kind = 1 then txN n.text else jb n
theorem jn_empty {X : List Nd} {s : ByteArray} (h : s.size = 0) : jn X (txN s) = X := by
  exact (if_pos (show (txN s).kind = 1 from rfl)).trans (if_pos h)
theorem jn_snoc {X : List Nd} {m : Nd} {s : ByteArray} (hs : s.size ≠ 0) (hm : m.kind = 1) : jn (X ++ [m]) (txN s) = X ++ [txN (m.text ++ s)] := by
  unfold jn
  rw [if_pos (show (txN s).kind = 1 from rfl), if_neg (show ¬ (txN s).text.size = 0 from hs)]
  simp only [List.getLast?_concat, List.dropLast_concat]
  rw [if_pos hm]; rfl
theorem jn_other {X : List Nd} {s : ByteArray} (hs : s.size ≠ 0) (h : ∀ m ∈ X.getLast?, m.kind ≠ 1) : jn X (txN s) = X ++ [txN s] := by
  unfold jn
  rw [if_pos (show (txN s).kind = 1 from rfl), if_neg (show ¬ (txN s).text.size = 0 from hs)]
  cases hq : X.getLast? with
  | none => rfl
  | some m => simp only; rw [if_neg (h m hq)]
theorem jn_node {X : List Nd} {n : Nd} (h : n.kind ≠ 1) : jn X n = X ++ [n] := if_neg h
theorem snoc_cases (X : List Nd) : X = [] ∨ ∃ Y m, X = Y ++ [m] := by
  rcases List.eq_nil_or_concat X with h | ⟨Y, m, h⟩
  · exact .inl h
  · exact .inr ⟨Y, m, by simpa using h⟩
theorem jn_jn {X : List Nd} {s t : ByteArray} (hs : s.size ≠ 0) (ht : t.size ≠ 0) : jn (jn X (txN s)) (txN t) = jn X (txN (s ++ t)) := by
  have hst : (s ++ t).size ≠ 0 := by rw [ByteArray.size_append]; omega
  rcases snoc_cases X with rfl | ⟨Y, m, rfl⟩
  · rw [jn_other hs (by simp), jn_other hst (by simp), jn_snoc ht rfl]; rfl
  · by_cases hm : m.kind = 1
    · rw [jn_snoc hs hm, jn_snoc hst hm, jn_snoc ht rfl]
      show _ ++ [txN (m.text ++ s ++ t)] = _
      rw [ByteArray.append_assoc]
    · have h : ∀ x ∈ (Y ++ [m]).getLast?, x.kind ≠ 1 := fun x hx => by
        rw [List.getLast?_concat] at hx; cases hx; exact hm
      rw [jn_other hs h, jn_other hst h, jn_snoc ht rfl]; rfl
theorem tx_of {n : Nd} (h : JnN n) (hk : n.kind = 1) : n = txN n.text ∧ n.text.size ≠ 0 := by
  obtain ⟨k, t, s, kids, args⟩ := n
  rw [JnN] at h
  obtain ⟨a, b, c, d⟩ := h.1 hk
  have : k = 1 := hk
  subst this b c d
  exact ⟨rfl, a⟩
theorem jns_addT (X : List Nd) (s : ByteArray) {Y : List Nd} (hY : Jn Y) : jns X (Tr.addT s Y) = jns (jn X (txN s)) Y := by
  unfold Tr.addT
  by_cases hs : s.size = 0
  · rw [if_pos hs, jn_empty hs]
  · rw [if_neg hs]
    cases Y with
    | nil => rfl
    | cons n r =>
      simp only
      by_cases hk : n.kind = 1
      · rw [if_pos hk]
        obtain ⟨e, ht⟩ := tx_of (Jn_cons.1 hY).1 hk
        show jns (jn X (txN (s ++ n.text))) r = jns (jn (jn X (txN s)) n) r
        rw [e, jn_jn hs ht]; rfl
      · rw [if_neg hk]; rfl
theorem jns_join : ∀ (l X : List Nd), jns X (join l) = l.foldl (fun X n => jn X (jx n)) X
  | [], X => by rw [join_nil]; rfl
  | n :: r, X => by
    rw [join_cons, joinN_eq, List.foldl_cons]
    by_cases hk : n.kind = 1
    · rw [if_pos hk, jns_addT X _ (Jn_join r), jns_join r]
      congr 1
      unfold jx; rw [if_pos hk]
    · rw [if_neg hk]
      show jns (jn X (jb n)) (join r) = _
      rw [jns_join r]
      congr 1
      unfold jx; rw [if_neg hk]
theorem jns_id : ∀ {l X : List Nd}, Jn l → (∀ m ∈ X.getLast?, m.kind = 1 → headT l = false) → jns X l = X ++ l
  | [], X, _, _ => by simp [jns]
  | n :: r, X, h, hx => by
    obtain ⟨h1, h2, h3⟩ := Jn_cons.1 h
    have e : jn X n = X ++ [n] := by
      by_cases hk : n.kind = 1
      · obtain ⟨e, ht⟩ := tx_of h1 hk
        rw [e]
        refine jn_other ht (fun m hm hq => ?_)
        have := hx m hm hq
        simp [headT, hk] at this
      · exact jn_node hk
    show jns (jn X n) r = _
    rw [e, jns_id h3 (fun m hm hq => ?_), List.append_assoc]; rfl
    rw [List.getLast?_concat] at hm
    cases hm
    exact h2 hq
theorem join_jns (l : List Nd) : join l = l.foldl (fun X n => jn X (jx n)) [] := by
  rw [← jns_join, jns_id (Jn_join l) (by simp)]; rfl
theorem join_append (l m : List Nd) : join (l ++ m) = jns (join l) (join m) := by
  rw [join_jns (l ++ m), List.foldl_append, ← join_jns l, jns_join]
theorem join_tx (s : List UInt8) : join [tx s] = if s = [] then [] else [tx s] := by
  rw [join_cons, joinN_eq, join_nil, if_pos (show (tx s).kind = 1 from rfl)]
  unfold Tr.addT
  by_cases h : s = []
  · subst h; rfl
  · have : ¬ (tx s).text.size = 0 := fun q => h (by simpa [tx, txN, Nd.text, ByteArray.size] using q)
    rw [if_neg this, if_neg h]; rfl
theorem join_jb {n : Nd} (h : n.kind ≠ 1) : join [n] = [jb n] := by
  rw [join_cons, joinN_eq, join_nil, if_neg h]
theorem joinA_append : ∀ (l m : List Ar), joinA (l ++ m) = joinA l ++ joinA m
  | [], m => by rw [joinA_nil]; rfl
  | a :: r, m => by rw [List.cons_append, joinA_cons, joinA_append r m, joinA_cons]; rfl
theorem joinA_len : ∀ (l : List Ar), (joinA l).length = l.length
  | [] => by rw [joinA_nil]
  | a :: r => by rw [joinA_cons, List.length_cons, joinA_len r, List.length_cons]
theorem joinA_empty (l : List Ar) : (joinA l).isEmpty = l.isEmpty := by
  cases l with
  | nil => rw [joinA_nil]
  | cons a r => rw [joinA_cons]; rfl

/-! ### The reference's stack -/
structure Rl where
  kind : Nat
  tag : Int
  count : Nat
  list : List Nd
  args : List Ar
def lastA (n : Nd) : List Ar → List Ar
  | [] => []
  | [a] => [.mk a.named a.name (jn a.value n)]
  | a :: b :: r => a :: lastA n (b :: r)
def nodeE (e : Rl) (n : Nd) : Rl := if e.kind = 3 ∧ e.args.isEmpty = false then { e with args := lastA n e.args } else { e with list := jn e.list n }
def nodeR : List Rl → Nd → List Rl
  | [], _ => []
  | e :: st, n => nodeE e n :: st
def textR (st : List Rl) (s : List UInt8) : List Rl := nodeR st (tx s)
def nodesR (st : List Rl) (l : List Nd) : List Rl := l.foldl nodeR st
def argR (st : List Rl) (a : Ar) : List Rl := nodesR (if a.named then textR (nodesR (textR st [124]) a.name) [61] else textR st [124]) a.value
def flatR : List Rl → List Rl
  | [] => []
  | e :: st =>
    if e.kind = 1 then nodesR (textR st [91, 91]) e.list
    else if e.kind = 2 then nodesR (textR st (tO e.tag)) e.list
    else if e.kind = 3 then e.args.foldl argR (nodesR (textR st (List.replicate e.count 123)) e.list) else st
def flatsR : Nat → List Rl → List Rl
  | 0, st => st
  | n + 1, st => flatsR n (flatR st)
def pushR (st : List Rl) (e : Rl) (s : List UInt8) : List Rl := if 20 < st.length then textR st s else e :: st
def barR (st : List Rl) (s : List UInt8) : List Rl := match st with
  | e :: r => if e.kind = 3 then { e with args := e.args ++ [.mk false [] []] } :: r else textR st s
  | [] => []
def equalR (st : List Rl) : List Rl := match st with
  | e :: r => if e.kind = 3 ∧ lastNamed e.args = false then { e with args := nameA e.args } :: r else textR st [61]
  | [] => []
def linkEndR (st : List Rl) (s : List UInt8) : List Rl := match st with
  | e :: r => if e.kind = 1 then textR (nodesR (textR r [91, 91]) e.list) [93, 93] else textR st s
  | [] => []
def tagAtR (t : Int) : List Rl → Option Nat
  | [] => none
  | e :: st => if e.kind = 2 ∧ e.tag = t then some 0 else (tagAtR t st).map (· + 1)
def braceAtR : List Rl → Option Nat
  | [] => none
  | e :: st => if e.kind = 3 then some 0 else if e.kind = 2 then none else (braceAtR st).map (· + 1)
def tagEndR (st : List Rl) (s : List UInt8) (t : Int) : List Rl := match tagAtR t st with
  | none => textR st s
  | some i => match flatsR i st with
    | e :: r => nodeR r (.mk 6 e.tag ⟨#[]⟩ e.list [])
    | [] => []
def usedR (e : Rl) (c : Nat) : Nat := if 3 ≤ c ∧ 3 ≤ e.count then 3 else 2
def close1R (st : List Rl) (c : Nat) : List Rl × Nat := match st with
  | e :: r =>
    let k := usedR e c
    let n : Nd := .mk (if k = 3 then 5 else 4) 0 ⟨#[]⟩ e.list e.args
    if 2 ≤ e.count - k then (⟨3, 0, e.count - k, [n], []⟩ :: r, k) else (nodeR (if e.count - k = 1 then textR r [123] else r) n, k)
  | [] => ([], 2)
def closeR : Nat → List Rl → Nat → List Rl
  | 0, st, c => textR st (List.replicate c 125)
  | f + 1, st, c => if c < 2 then textR st (List.replicate c 125) else match braceAtR st with
    | none => textR st (List.replicate c 125)
    | some i => closeR f (close1R (flatsR i st) c).1 (c - (close1R (flatsR i st) c).2)
def takeR (st : List Rl) (k : Nat) (s : List UInt8) (t : Int) : List Rl :=
  if k = 9 then nodeR st (.mk 2 0 ⟨s.toArray⟩ [] [])
  else if k = 10 then nodeR st (.mk 3 0 ⟨(within s).toArray⟩ [] [])
  else if k = 3 then pushR st ⟨3, 0, s.length, [], []⟩ s
  else if k = 5 then pushR st ⟨1, 0, 0, [], []⟩ s
  else if k = 11 then pushR st ⟨2, t, 0, [], []⟩ s
  else if k = 7 then barR st s
  else if k = 8 then equalR st
  else if k = 6 then linkEndR st s
  else if k = 12 then tagEndR st s t
  else if k = 4 then closeR s.length st s.length
  else textR st s

/-! ### It follows the program's -/
def J (e : El) : Rl := ⟨e.kind, e.tag, if e.kind = 3 then e.op.length else 0, join e.nodes, joinA e.args⟩
/-- What holds of every element besides. -/
def Kk (st : List El) : Prop := ∀ e ∈ st, e.kind ≤ 3 ∧ (e.kind = 1 → e.op = [91, 91])
theorem lastA_join : ∀ (l : List Ar) (m : List Nd), l ≠ [] → joinA (addA l m) = (join m).foldl (fun x n => lastA n x) (joinA l)
  | [], m, h => absurd rfl h
  | [a], m, _ => by
    have h : ∀ (k X : List Nd), k.foldl (fun x n => lastA n x) [Ar.mk a.named (join a.name) X] = [.mk a.named (join a.name) (jns X k)] := fun k => by
      induction k with
      | nil => intro X; rfl
      | cons n r ih => intro X; exact ih (jn X n)
    cases a with | mk b nm v =>
    rw [joinA_cons, joinA_nil, addA, joinA_cons, joinA_nil, joinG, joinG]
    simp only [Ar.named, Ar.name, Ar.value] at h ⊢
    rw [h, join_append]
  | a :: b :: r, m, _ => by
    have ih := lastA_join (b :: r) m (by simp)
    have h : ∀ (k : List Nd) (X : List Ar), X ≠ [] → k.foldl (fun x n => lastA n x) (joinG a :: X) = joinG a :: k.foldl (fun x n => lastA n x) X := fun k => by
      induction k with
      | nil => intro X _; rfl
      | cons n r ih =>
        intro X hX
        cases X with
        | nil => exact absurd rfl hX
        | cons x X =>
          have hne : lastA n (x :: X) ≠ [] := by cases X <;> simp [lastA]
          exact ih _ hne
    rw [addA, joinA_cons a, ih, joinA_cons a (b :: r), h _ _ (by rw [joinA_cons]; simp)]
theorem nodesR_cons : ∀ (l : List Nd) (e : Rl) (st : List Rl), nodesR (e :: st) l = l.foldl nodeE e :: st
  | [], _, _ => rfl
  | n :: r, e, st => nodesR_cons r (nodeE e n) st
theorem lastA_ne {n : Nd} {l : List Ar} (h : l ≠ []) : lastA n l ≠ [] := by
  match l, h with
  | [a], _ => simp [lastA]
  | a :: b :: r, _ => simp [lastA]
theorem J_addE {e : El} (h : e.kind ≠ 3 → e.args = []) (l : List Nd) : (join l).foldl nodeE (J e) = J (addE e l) := by
  by_cases ha : e.args.isEmpty = true
  · have hb : e.args = [] := List.isEmpty_iff.1 ha
    have g : ∀ (k X : List Nd), k.foldl nodeE (⟨e.kind, e.tag, if e.kind = 3 then e.op.length else 0, X, []⟩ : Rl) = ⟨e.kind, e.tag, if e.kind = 3 then e.op.length else 0, jns X k, []⟩ := fun k => by
      induction k with
      | nil => intro X; rfl
      | cons n r ih =>
        intro X
        have : nodeE (⟨e.kind, e.tag, if e.kind = 3 then e.op.length else 0, X, []⟩ : Rl) n = ⟨e.kind, e.tag, if e.kind = 3 then e.op.length else 0, jn X n, []⟩ := if_neg (by simp)
        rw [List.foldl_cons, this]; exact ih _
    have e1 : addE e l = { e with nodes := e.nodes ++ l } := if_pos ha
    rw [e1]
    unfold J
    simp only [hb, joinA_nil]
    rw [g, join_append]
  · have hk : e.kind = 3 := Classical.byContradiction fun q => ha (by rw [h q]; rfl)
    have hne : e.args ≠ [] := fun q => ha (by rw [q]; rfl)
    have g : ∀ (k : List Nd) (X : List Ar), X ≠ [] → k.foldl nodeE (⟨e.kind, e.tag, if e.kind = 3 then e.op.length else 0, join e.nodes, X⟩ : Rl) = ⟨e.kind, e.tag, if e.kind = 3 then e.op.length else 0, join e.nodes, k.foldl (fun x n => lastA n x) X⟩ := fun k => by
      induction k with
      | nil => intro X _; rfl
      | cons n r ih =>
        intro X hX
        have : nodeE (⟨e.kind, e.tag, if e.kind = 3 then e.op.length else 0, join e.nodes, X⟩ : Rl) n = ⟨e.kind, e.tag, if e.kind = 3 then e.op.length else 0, join e.nodes, lastA n X⟩ := if_pos ⟨hk, by cases X with | nil => exact absurd rfl hX | cons _ _ => rfl⟩
        rw [List.foldl_cons, this]; exact ih _ (lastA_ne hX)
    have e1 : addE e l = { e with args := addA e.args l } := if_neg ha
    rw [e1]
    unfold J
    simp only
    rw [g _ _ (fun q => by have := joinA_len e.args; rw [q] at this; exact hne (List.length_eq_zero_iff.1 this.symm)), lastA_join _ _ hne]
theorem k1_of : ∀ {e : El} {st : List El}, Inv (e :: st) → e.kind ≠ 3 → e.args = []
  | e, [], h, _ => h.2.1
  | e, f :: st, h, q => h.2.1.k1 q
theorem J_addN {st : List El} (h : Inv st) (l : List Nd) : nodesR (st.map J) (join l) = (addN st l).map J := by
  cases st with
  | nil => exact h.elim
  | cons e st => rw [List.map_cons, nodesR_cons, J_addE (k1_of h), addN, List.map_cons]
theorem lastA_empty : ∀ (l : List Ar), lastA (tx []) l = l
  | [] => rfl
  | [a] => by
    rw [lastA, show tx [] = txN ⟨#[]⟩ from rfl, jn_empty rfl]
    cases a; rfl
  | a :: b :: r => by rw [lastA, lastA_empty (b :: r)]
theorem textR_join (X : List Rl) (s : List UInt8) : nodesR X (join [tx s]) = textR X s := by
  rw [join_tx]
  by_cases h : s = []
  · subst h
    rw [if_pos rfl]
    show X = _
    cases X with
    | nil => rfl
    | cons e st =>
      show e :: st = nodeE e (tx []) :: st
      congr 1
      unfold nodeE
      split
      · rw [lastA_empty]
      · rw [show tx [] = txN ⟨#[]⟩ from rfl, jn_empty rfl]
  · rw [if_neg h]; rfl
theorem J_addT {st : List El} (h : Inv st) (s : List UInt8) : textR (st.map J) s = (addT st s).map J := by
  rw [← textR_join, J_addN h]; rfl
theorem J_node {st : List El} (h : Inv st) {n : Nd} (hn : n.kind ≠ 1) : nodeR (st.map J) (jb n) = (addN st [n]).map J := by
  rw [← J_addN h, join_jb hn]; rfl
theorem addA_append : ∀ (a : List Ar) (l m : List Nd), addA a (l ++ m) = addA (addA a l) m
  | [], _, _ => rfl
  | [a], l, m => by
    show [Ar.mk a.named a.name (a.value ++ (l ++ m))] = [.mk _ _ (_ ++ m)]
    rw [← List.append_assoc]; rfl
  | a :: b :: r, l, m => by
    have hne : addA (b :: r) l ≠ [] := by cases r <;> simp [addA]
    have e : ∀ q : List Ar, q ≠ [] → addA (a :: q) m = a :: addA q m := fun q hq => by
      cases q with
      | nil => exact absurd rfl hq
      | cons _ _ => rfl
    rw [addA, addA, addA_append (b :: r) l m, e _ hne]
theorem addA_len : ∀ (a : List Ar) (l : List Nd), (addA a l).length = a.length
  | [], _ => rfl
  | [a], l => rfl
  | a :: b :: r, l => by rw [addA, List.length_cons, addA_len (b :: r) l]; rfl
theorem addN_append (st : List El) (l m : List Nd) : addN st (l ++ m) = addN (addN st l) m := by
  cases st with
  | nil => rfl
  | cons e st =>
    show addE e (l ++ m) :: st = addE (addE e l) m :: st
    congr 1
    by_cases h : e.args.isEmpty = true
    · have h1 : ∀ k, addE e k = { e with nodes := e.nodes ++ k } := fun k => if_pos h
      rw [h1, h1]
      have h2 : addE { e with nodes := e.nodes ++ l } m = { e with nodes := (e.nodes ++ l) ++ m } := if_pos h
      rw [h2, List.append_assoc]
    · have h1 : ∀ k, addE e k = { e with args := addA e.args k } := fun k => if_neg h
      rw [h1, h1]
      have h3 : ¬ (addA e.args l).isEmpty = true := fun q => h (by
        have := addA_len e.args l
        rw [List.isEmpty_iff.1 q] at this
        rw [List.length_eq_zero_iff.1 this.symm]; rfl)
      have h2 : addE { e with args := addA e.args l } m = { e with args := addA (addA e.args l) m } := if_neg h3
      rw [h2, addA_append]
theorem addN_nil (st : List El) : addN st [] = st := by
  cases st with
  | nil => rfl
  | cons e st =>
    show addE e [] :: st = e :: st
    congr 1
    unfold addE
    have hA : ∀ q : List Ar, addA q [] = q := fun q => by
      induction q with
      | nil => rfl
      | cons x q ih => cases q with
        | nil => cases x; simp [addA, Ar.named, Ar.name, Ar.value]
        | cons y q => rw [addA, ih]
    split
    · rw [List.append_nil]
    · rw [hA]
theorem J_arg {st : List El} (h : Inv st) (a : Ar) : argR (st.map J) (joinG a) = (addN st (flatA a)).map J := by
  cases a with | mk b nm v =>
  rw [joinG]
  have h1 := J_addT h [124]
  have i1 : Inv (addT st [124]) := h.add _
  have key : ∀ q : List Nd, addN st (tx [124] :: (q ++ v)) = addN (addN (addT st [124]) q) v := fun q => by
    rw [show tx [124] :: (q ++ v) = [tx [124]] ++ (q ++ v) from rfl, addN_append, addN_append]; rfl
  cases b with
  | false =>
    show nodesR (textR (st.map J) [124]) (join v) = (addN st (tx [124] :: ([] ++ v))).map J
    rw [key, addN_nil, h1, J_addN i1]
  | true =>
    show nodesR (textR (nodesR (textR (st.map J) [124]) (join nm)) [61]) (join v) = (addN st (tx [124] :: ((nm ++ [tx [61]]) ++ v))).map J
    rw [key, h1, J_addN i1, J_addT (i1.add _), J_addN (show Inv (addT (addN (addT st [124]) nm) [61]) from (i1.add _).add _), addN_append]; rfl
theorem J_args : ∀ (l : List Ar) {st : List El}, Inv st → (joinA l).foldl argR (st.map J) = (addN st (l.flatMap flatA)).map J
  | [], st, h => by
    rw [joinA_nil]
    have := J_addN h []
    rw [join_nil] at this
    exact this
  | a :: r, st, h => by rw [joinA_cons, List.foldl_cons, J_arg h, J_args r (h.add _), List.flatMap_cons, addN_append]
theorem J_flatten {e : El} {st : List El} (h : Inv (e :: st)) (hn : st ≠ []) (hk : Kk (e :: st)) : flatR ((e :: st).map J) = (flatten (e :: st)).map J := by
  obtain ⟨k1, k2⟩ := hk e List.mem_cons_self
  cases st with
  | nil => exact absurd rfl hn
  | cons f st =>
    obtain ⟨h0, ho, hi⟩ := h
    have c : e.kind = 1 ∨ e.kind = 2 ∨ e.kind = 3 := by omega
    have key : ∀ s, addN (f :: st) (tx s :: (e.nodes ++ e.args.flatMap flatA)) = addN (addN (addT (f :: st) s) e.nodes) (e.args.flatMap flatA) := fun s => by
      rw [show tx s :: (e.nodes ++ e.args.flatMap flatA) = [tx s] ++ (e.nodes ++ e.args.flatMap flatA) from rfl, addN_append, addN_append]; rfl
    have i1 : ∀ s, Inv (addT (f :: st) s) := fun s => hi.add _
    have nil_ : ∀ {q : List El}, Inv q → (addN q []).map J = q.map J := fun {q} hq => by rw [← J_addN hq, join_nil]; rfl
    show (if (J e).kind = 1 then nodesR (textR ((f :: st).map J) [91, 91]) (J e).list
      else if (J e).kind = 2 then nodesR (textR ((f :: st).map J) (tO (J e).tag)) (J e).list
      else if (J e).kind = 3 then (J e).args.foldl argR (nodesR (textR ((f :: st).map J) (List.replicate (J e).count 123)) (J e).list) else (f :: st).map J) = (addN (f :: st) (flatE e)).map J
    rw [flatE, key]
    rcases c with c | c | c
    · rw [if_pos (show (J e).kind = 1 from c), J_addT hi, ← k2 c, show (J e).list = join e.nodes from rfl, J_addN (i1 _), ho.k1 (by omega)]
      exact (nil_ ((i1 _).add _)).symm
    · rw [if_neg (show ¬ (J e).kind = 1 by rw [show (J e).kind = e.kind from rfl]; omega), if_pos (show (J e).kind = 2 from c), J_addT hi, show (J e).tag = e.tag from rfl, ← (ho.k2 c).1, show (J e).list = join e.nodes from rfl, J_addN (i1 _), ho.k1 (by omega)]
      exact (nil_ ((i1 _).add _)).symm
    · have hc : (J e).count = e.op.length := if_pos c
      rw [if_neg (show ¬ (J e).kind = 1 by rw [show (J e).kind = e.kind from rfl]; omega), if_neg (show ¬ (J e).kind = 2 by rw [show (J e).kind = e.kind from rfl]; omega), if_pos (show (J e).kind = 3 from c), J_addT hi, hc, ← (ho.k3 c).1, show (J e).list = join e.nodes from rfl, J_addN (i1 _), show (J e).args = joinA e.args from rfl, J_args _ ((i1 _).add _)]
theorem Kk.add {st : List El} (h : Kk st) (l : List Nd) : Kk (addN st l) := by
  cases st with
  | nil => exact h
  | cons e st =>
    intro x hx
    rcases List.mem_cons.1 hx with rfl | hx
    · obtain ⟨q1, q2, _⟩ := addE_kind e l
      rw [q1, q2]; exact h e List.mem_cons_self
    · exact h x (List.mem_cons_of_mem _ hx)
theorem Kk.tail {e : El} {st : List El} (h : Kk (e :: st)) : Kk st := fun x hx => h x (List.mem_cons_of_mem _ hx)
theorem Kk.cons {e : El} {st : List El} (he : e.kind ≤ 3 ∧ (e.kind = 1 → e.op = [91, 91])) (h : Kk st) : Kk (e :: st) := fun x hx => by
  rcases List.mem_cons.1 hx with rfl | hx
  · exact he
  · exact h x hx
theorem Kk.flatten {st : List El} (h : Kk st) : Kk (Pa.flatten st) := by
  cases st with
  | nil => exact h
  | cons e st => exact h.tail.add _
theorem Kk.flats : ∀ (n : Nat) {st : List El}, Kk st → Kk (flats n st)
  | 0, _, h => h
  | n + 1, st, h => Kk.flats n h.flatten
theorem Kk.close1 {st : List El} (h : Kk st) (c : Nat) : Kk (close1 st c).1 := by
  cases st with
  | nil => exact h
  | cons e st =>
    unfold Pa.close1
    simp only
    generalize (if 3 ≤ c ∧ 3 ≤ e.op.length then 3 else 2) = k
    split
    · exact Kk.cons ⟨Nat.le_refl _, fun q => by cases q⟩ h.tail
    · exact (h.tail.add _).add _
theorem Kk.closeB : ∀ (f : Nat) {st : List El}, Kk st → ∀ (s : List UInt8), Kk (closeB f st s)
  | 0, st, h, s => h.add _
  | f + 1, st, h, s => by
    unfold Pa.closeB
    split
    · exact h.add _
    · split
      · exact h.add _
      · exact Kk.closeB f ((h.flats _).close1 _) _
theorem J_flats : ∀ (n : Nat) {st : List El}, Inv st → Kk st → n < st.length → flatsR n (st.map J) = (flats n st).map J
  | 0, _, _, _, _ => rfl
  | n + 1, [e], _, _, hn => by simp at hn
  | n + 1, e :: f :: st, h, hk, hn => by
    rw [flatsR, flats, J_flatten h (by simp) hk]
    exact J_flats n h.flatten hk.flatten (by rw [len_flatten]; simp only [List.length_cons] at *; omega)
theorem J_tagAt (t : Int) : ∀ st : List El, tagAtR t (st.map J) = tagAt t st
  | [] => rfl
  | e :: st => by rw [List.map_cons, tagAtR, tagAt, J_tagAt t st]; rfl
theorem J_braceAt : ∀ st : List El, braceAtR (st.map J) = braceAt st
  | [] => rfl
  | e :: st => by rw [List.map_cons, braceAtR, braceAt, J_braceAt st]; rfl
theorem J_close1 {e : El} {r : List El} (h : Inv (e :: r)) (hr : Inv r) (hk : e.kind = 3) (ho : Ok e) {c : Nat} (hc : 2 ≤ c) : close1R ((e :: r).map J) c = ((close1 (e :: r) c).1.map J, (close1 (e :: r) c).2) := by
  obtain ⟨o1, o2⟩ := ho.k3 hk
  have hcount : (J e).count = e.op.length := if_pos hk
  have hused : usedR (J e) c = (if 3 ≤ c ∧ 3 ≤ e.op.length then 3 else 2) := by unfold usedR; rw [hcount]
  show close1R (J e :: r.map J) c = _
  unfold close1R close1
  simp only
  rw [hused, hcount]
  generalize hK : (if 3 ≤ c ∧ 3 ≤ e.op.length then 3 else 2) = k
  have hk2 : 2 ≤ k := by rw [← hK]; split <;> omega
  have hk3 : k ≤ e.op.length := by rw [← hK]; split <;> omega
  have hdl : (e.op.drop k).length = e.op.length - k := List.length_drop
  rw [hdl]
  have hj : ∀ x : Int, x ≠ 1 → Nd.mk x 0 ⟨#[]⟩ (J e).list (J e).args = jb (.mk x 0 ⟨#[]⟩ e.nodes e.args) := fun x _ => rfl
  have hx : (if k = 3 then 5 else 4 : Int) ≠ 1 := by split <;> decide
  rw [hj _ hx]
  generalize (if k = 3 then 5 else 4 : Int) = kd at hx ⊢
  by_cases hm : 2 ≤ e.op.length - k
  · rw [if_pos hm, if_pos hm]
    simp only [List.map_cons]
    congr 2
    unfold J
    simp only [if_true, joinA_nil]
    rw [hdl, join_jb (n := .mk kd 0 ⟨#[]⟩ e.nodes e.args) hx]
  · rw [if_neg hm, if_neg hm]
    simp only
    congr 1
    have hdr : e.op.drop k = List.replicate (e.op.length - k) 123 := by
      conv => lhs; rw [o1]
      rw [List.drop_replicate]
    have ht : (if e.op.length - k = 1 then textR (r.map J) [123] else r.map J) = (addT r (e.op.drop k)).map J := by
      rw [hdr]
      have : e.op.length - k = 0 ∨ e.op.length - k = 1 := by omega
      rcases this with q | q
      · rw [q, if_neg (by decide), ← J_addT hr, ← textR_join, List.replicate_zero, join_tx, if_pos rfl]; rfl
      · rw [q, if_pos rfl, J_addT hr]; rfl
    rw [ht, J_node (n := .mk kd 0 ⟨#[]⟩ e.nodes e.args) (show Inv (addT r _) from hr.add _) hx]
theorem J_closeB : ∀ (f : Nat) {st : List El}, Inv st → Kk st → ∀ (n : Nat), closeR f (st.map J) n = (closeB f st (List.replicate n 125)).map J
  | 0, st, h, _, n => J_addT h _
  | f + 1, st, h, hk, n => by
    unfold closeR closeB
    rw [List.length_replicate, J_braceAt]
    by_cases h2 : n < 2
    · rw [if_pos h2, if_pos h2, J_addT h]
    · rw [if_neg h2, if_neg h2]
      cases hq : braceAt st with
      | none => exact J_addT h _
      | some i =>
        have hl := braceAt_lt h hq
        have hi := h.flats i (by omega)
        have hf := flats_src i st (by omega)
        have ht := braceAt_flats h hq
        obtain ⟨e, r, e1, ho, hk0, hr⟩ := top2 hi (by omega)
        simp only
        rw [J_flats i h hk (by omega), e1]
        rw [e1] at ht hi
        have k1 := brace_top ht
        obtain ⟨c1, c2, c3, c4⟩ := close1_src hr ho k1 n (by omega)
        have kf := hk.flats i
        rw [e1] at kf
        rw [J_close1 hi hr k1 ho (by omega)]
        simp only
        rw [J_closeB f c2 (kf.close1 n), List.drop_replicate]
/-- What is known of a token besides. -/
structure TG (k : Nat) (s : List UInt8) : Prop where
  c5 : k = 5 → s = [91, 91]
  c6 : k = 6 → s = [93, 93]
theorem Kk.take {st : List El} (h : Kk st) {k : Nat} {s : List UInt8} {t : Int} (hg : TG k s) : Kk (take st k s t) := by
  have hp : ∀ e : El, e.kind ≤ 3 ∧ (e.kind = 1 → e.op = [91, 91]) → Kk (push st e) := fun e he => by
    unfold push; split
    · exact h.add _
    · exact Kk.cons he h
  unfold Pa.take
  split
  · exact h.add _
  split
  · exact h.add _
  split
  · exact hp _ ⟨Nat.le_refl _, fun q => by cases q⟩
  split
  · rename_i hk; exact hp _ ⟨(show (1 : Nat) ≤ 3 by decide), fun _ => hg.c5 hk⟩
  split
  · exact hp _ ⟨(show (2 : Nat) ≤ 3 by decide), fun q => by cases q⟩
  split
  · cases st with
    | nil => exact h
    | cons e st =>
      unfold bar; simp only; split
      · exact Kk.cons (h e List.mem_cons_self) h.tail
      · exact h.add _
  split
  · cases st with
    | nil => exact h
    | cons e st =>
      unfold equal; simp only; split
      · exact h.add _
      · exact Kk.cons (h e List.mem_cons_self) h.tail
  split
  · cases st with
    | nil => exact h
    | cons e st =>
      unfold linkEnd; simp only; split
      · exact h.flatten.add _
      · exact h.add _
  split
  · unfold tagEnd; split
    · exact h.add _
    · rename_i i _
      have := h.flats i
      split
      · rename_i e r hq; rw [hq] at this; exact this.tail.add _
      · exact fun x hx => by cases hx
  split
  · exact h.closeB _ _
  · exact h.add _
theorem joinA_nameA : ∀ l : List Ar, joinA (nameA l) = nameA (joinA l)
  | [] => by rw [nameA, joinA_nil]; rfl
  | [a] => by
    cases a with | mk b n v =>
    rw [nameA, joinA_cons, joinA_nil, joinG, joinA_cons, joinA_nil, joinG, nameA, join_nil]; rfl
  | a :: b :: r => by
    rw [nameA, joinA_cons a, joinA_nameA (b :: r), joinA_cons a (b :: r), joinA_cons b r, nameA]
theorem lastNamed_join : ∀ l : List Ar, lastNamed (joinA l) = lastNamed l
  | [] => by rw [joinA_nil]
  | [a] => by
    cases a with | mk b n v => rw [joinA_cons, joinA_nil, joinG]; rfl
  | a :: b :: r => by
    have ih := lastNamed_join (b :: r)
    have e : ∀ (x : Ar) (q : List Ar), q ≠ [] → lastNamed (x :: q) = lastNamed q := fun x q hq => by
      unfold lastNamed
      cases q with
      | nil => exact absurd rfl hq
      | cons y q => rw [List.getLast?_cons_cons]
    rw [joinA_cons a (b :: r), e (joinG a) _ (by rw [joinA_cons]; simp), e a _ (by simp)]
    exact ih
/-- A token. -/
theorem J_take {st : List El} (h : Inv st) (hk : Kk st) {k : Nat} {s : List UInt8} {t : Int} (hf : TF k s t) (hg : TG k s) : takeR (st.map J) k s t = (take st k s t).map J := by
  have hlen : (st.map J).length = st.length := List.length_map ..
  have hpush : ∀ e : El, e.op = s → pushR (st.map J) (J e) s = (push st e).map J := fun e he => by
    unfold pushR push
    rw [hlen]
    split
    · rw [J_addT h, he]
    · rfl
  unfold takeR take
  split
  · exact J_node h (n := .mk 2 0 ⟨s.toArray⟩ [] []) (show (2 : Int) ≠ 1 by decide) ▸ by
      congr 1
  split
  · exact J_node h (n := .mk 3 0 ⟨(within s).toArray⟩ [] []) (show (3 : Int) ≠ 1 by decide) ▸ by
      congr 1
  split
  · have := hpush ⟨3, s, 0, [], []⟩ rfl
    unfold J at this
    simp only [if_true, join_nil, joinA_nil] at this
    exact this
  split
  · have := hpush ⟨1, s, 0, [], []⟩ rfl
    unfold J at this
    simp only [join_nil, joinA_nil] at this
    exact this
  split
  · have := hpush ⟨2, s, t, [], []⟩ rfl
    unfold J at this
    simp only [join_nil, joinA_nil] at this
    exact this
  split
  · cases st with
    | nil => exact h.elim
    | cons e st =>
      show barR (J e :: st.map J) s = _
      unfold barR bar
      simp only
      rw [show (J e).kind = e.kind from rfl]
      split
      · rename_i q
        simp only [List.map_cons]
        congr 1
        unfold J
        simp only
        rw [joinA_append, joinA_cons, joinA_nil, joinG, join_nil]
      · exact J_addT h s
  split
  · rename_i k8
    have hs := hf.c8 k8
    cases st with
    | nil => exact h.elim
    | cons e st =>
      show equalR (J e :: st.map J) = _
      unfold equalR equal
      simp only
      rw [show (J e).kind = e.kind from rfl, show (J e).args = joinA e.args from rfl, lastNamed_join]
      cases hln : lastNamed e.args
      · have h3 : e.kind = 3 := Classical.byContradiction fun q => by
          rw [k1_of h q] at hln; cases hln
        rw [if_pos ⟨h3, rfl⟩, if_neg (by decide)]
        simp only [List.map_cons]
        congr 1
        unfold J
        simp only
        rw [joinA_nameA]
      · rw [if_neg (by simp), if_pos rfl, hs]
        exact J_addT h _
  split
  · rename_i k6
    cases st with
    | nil => exact h.elim
    | cons e st =>
      show linkEndR (J e :: st.map J) s = _
      unfold linkEndR linkEnd
      simp only
      rw [show (J e).kind = e.kind from rfl]
      split
      · rename_i q
        cases st with
        | nil => rw [h.1] at q; cases q
        | cons f st =>
          have hfl := J_flatten h (by simp) hk
          have hi : Inv (flatten (e :: f :: st)) := h.flatten
          rw [← J_addT hi, ← hfl, hg.c6 k6]
          have e1 : flatR (J e :: (f :: st).map J) = nodesR (textR ((f :: st).map J) [91, 91]) (J e).list := if_pos (show (J e).kind = 1 from q)
          show _ = textR (flatR (J e :: (f :: st).map J)) _
          rw [e1]
      · exact J_addT h s
  split
  · unfold tagEndR tagEnd
    rw [J_tagAt]
    cases hq : tagAt t st with
    | none => exact J_addT h s
    | some i =>
      have hl := tagAt_lt t h hq
      have hi := h.flats i (by omega)
      have hf2 := flats_src i st (by omega)
      obtain ⟨e, r, e1, ho, hk0, hr⟩ := top2 hi (by omega)
      have ht := tagAt_flats h hq
      simp only
      rw [J_flats i h hk (by omega), e1]
      rw [e1] at ht
      have ha := ho.k1 (by rw [(tag_top ht).1]; decide)
      show nodeR (r.map J) (.mk 6 e.tag ⟨#[]⟩ (join e.nodes) []) = (addN r _).map J
      rw [← J_node (n := .mk 6 e.tag ⟨#[]⟩ e.nodes []) hr (show (6 : Int) ≠ 1 by decide)]
      congr 1
  split
  · rename_i k4
    have e := hf.c4 k4
    conv => rhs; rw [e]
    rw [J_closeB _ h hk, List.length_replicate]
  · exact J_addT h s
/-- The tokens one after the other. -/
def takesR (l : List (Nat × List UInt8 × Int)) (st : List Rl) : List Rl := l.foldl (fun st x => takeR st x.1 x.2.1 x.2.2) st
theorem J_takes : ∀ (l : List (Nat × List UInt8 × Int)) {st : List El}, Inv st → Kk st → (∀ x ∈ l, TF x.1 x.2.1 x.2.2 ∧ TG x.1 x.2.1) → takesR l (st.map J) = (takes l st).map J ∧ Inv (takes l st) ∧ Kk (takes l st)
  | [], st, h, hk, _ => ⟨rfl, h, hk⟩
  | x :: l, st, h, hk, hx => by
    obtain ⟨h1, h2⟩ := hx x List.mem_cons_self
    have := J_takes l (take_src h h1).2 (hk.take (t := x.2.2) h2) (fun y hy => hx y (List.mem_cons_of_mem _ hy))
    rw [← J_take h hk h1 h2] at this
    exact this
theorem TG.gap (s : List UInt8) (a b : Nat) : ∀ x ∈ (Tk.gap a b).map (tk s), TG x.1 x.2.1 := fun x hx => by
  unfold Tk.gap at hx
  split at hx
  · cases hx
  · simp only [List.map_cons, List.map_nil, List.mem_singleton] at hx
    subst hx
    exact ⟨(fun q => by cases q), (fun q => by cases q)⟩
theorem TG.mark (l : List UInt8) (h : (Tk.mark l).2 ≠ 0) : TG (Tk.mark l).1 (l.take (Tk.mark l).2) := by
  cases l with
  | nil => exact absurd rfl h
  | cons c r =>
    have hb : ∀ d k, k ≠ 5 → k ≠ 6 → TG (Tk.braces d k (c :: r)).1 ((c :: r).take (Tk.braces d k (c :: r)).2) := fun d k h5 h6 => by
      unfold Tk.braces; split
      · exact ⟨(fun q => by cases q), (fun q => by cases q)⟩
      · exact ⟨fun q => absurd q h5, fun q => absurd q h6⟩
    rcases Tk.byte_cases c with q | q | q | q | q | q | q | q | ⟨h1, h2, h3, h4, h5, h6, h7, h8⟩
    · subst q
      have ha : (Tk.mark (60 :: r)).1 ≠ 5 ∧ (Tk.mark (60 :: r)).1 ≠ 6 := by
        have : Tk.mark (60 :: r) = Tk.angle (60 :: r) := rfl
        rw [this]
        have ht : ∀ n j, (Tk.tagFrom (60 :: r) n j).1 ≠ 5 ∧ (Tk.tagFrom (60 :: r) n j).1 ≠ 6 := fun n => by
          induction n with
          | zero => intro j; exact ⟨by simp [Tk.tagFrom], by simp [Tk.tagFrom]⟩
          | succ n ih =>
            intro j
            unfold Tk.tagFrom
            split
            · exact ⟨by simp, by simp⟩
            · split
              · exact ⟨by simp, by simp⟩
              · exact ih _
        unfold Tk.angle
        split
        · exact ⟨by simp, by simp⟩
        · split
          · exact ⟨by simp, by simp⟩
          · exact ht _ _
      exact ⟨fun q => absurd q ha.1, fun q => absurd q ha.2⟩
    · subst q; rw [Tk.m123] at h ⊢; exact hb _ _ (by decide) (by decide)
    · subst q; rw [Tk.m125] at h ⊢; exact hb _ _ (by decide) (by decide)
    · subst q; rw [Tk.m91] at h ⊢
      cases r with
      | nil => exact absurd rfl h
      | cons d r =>
        have e : Tk.pair 5 (91 :: d :: r) = if d = 91 then (5, 2) else (0, 0) := rfl
        rw [e] at h ⊢
        by_cases q : d = 91
        · rw [if_pos q, q]; exact ⟨fun _ => rfl, fun q => by cases q⟩
        · rw [if_neg q] at h; exact absurd rfl h
    · subst q; rw [Tk.m93] at h ⊢
      cases r with
      | nil => exact absurd rfl h
      | cons d r =>
        have e : Tk.pair 6 (93 :: d :: r) = if d = 93 then (6, 2) else (0, 0) := rfl
        rw [e] at h ⊢
        by_cases q : d = 93
        · rw [if_pos q, q]; exact ⟨(fun q => by cases q), fun _ => rfl⟩
        · rw [if_neg q] at h; exact absurd rfl h
    · subst q; exact ⟨(fun q => by cases q), (fun q => by cases q)⟩
    · subst q; exact ⟨(fun q => by cases q), (fun q => by cases q)⟩
    · subst q; exact ⟨(fun q => by cases q), (fun q => by cases q)⟩
    · rw [Tk.mo _ h1 h2 h3 h4 h5 h6 h7 h8] at h; exact absurd rfl h
theorem TG.scan (s : List UInt8) : ∀ (n text i : Nat), s.length - i ≤ n → ∀ x ∈ (Tk.scanL s text i).map (tk s), TG x.1 x.2.1 := by
  intro n
  induction n with
  | zero => intro text i hn; rw [Tk.scan_end (by omega)]; exact TG.gap s _ _
  | succ n ih =>
    intro text i hn x hx
    by_cases hlt : i < s.length
    · by_cases h0 : (Tk.mark (s.drop i)).2 = 0
      · rw [Tk.scan_no hlt h0] at hx; exact ih _ _ (by omega) x hx
      · rw [Tk.scan_yes hlt h0, List.map_append, List.mem_append, List.map_cons, List.mem_cons] at hx
        rcases hx with hx | rfl | hx
        · exact TG.gap s _ _ x hx
        · have e : i + (Tk.mark (s.drop i)).2 - i = (Tk.mark (s.drop i)).2 := by omega
          simp only [tk, e]
          exact TG.mark _ h0
        · exact ih _ _ (by omega) x hx
    · rw [Tk.scan_end hlt] at hx; exact TG.gap s _ _ x hx
theorem toks_ok (s : List UInt8) : ∀ x ∈ toks s, TF x.1 x.2.1 x.2.2 ∧ TG x.1 x.2.1 := fun x hx =>
  ⟨(scan_ok s s.length 0 0 (by omega) (Nat.le_refl _) (Nat.zero_le _)).1 x hx, TG.scan s s.length 0 0 (by omega) x hx⟩
def rootR : Rl := ⟨0, 0, 0, [], []⟩
/-- The reference's tree. -/
def treeR (l : List (Nat × List UInt8 × Int)) : List Nd := match flatsR ((takesR l [rootR]).length - 1) (takesR l [rootR]) with
  | e :: _ => e.list
  | [] => []
theorem treeR_eq (s : List UInt8) : treeR (toks s) = tree (toks s) := by
  have h0 : Inv [root] := ⟨rfl, rfl, rfl⟩
  have k0 : Kk [root] := fun x hx => by
    rw [List.mem_singleton] at hx; subst hx; exact ⟨Nat.zero_le _, fun q => by cases q⟩
  obtain ⟨h1, h2, h3⟩ := J_takes (toks s) h0 k0 (toks_ok s)
  have hr : [root].map J = [rootR] := by
    simp only [List.map_cons, List.map_nil, J, root, rootR, join_nil, joinA_nil]; rfl
  rw [hr] at h1
  have hpos : 0 < (takes (toks s) [root]).length := List.length_pos_iff.2 h2.ne
  have hf := flats_src ((takes (toks s) [root]).length - 1) (takes (toks s) [root]) (by omega)
  unfold treeR tree
  rw [h1, List.length_map, J_flats _ h2 h3 (by omega)]
  match hq : flats ((takes (toks s) [root]).length - 1) (takes (toks s) [root]), hf.2 with
  | [], q => simp at q; omega
  | e :: r, _ => rfl
end Go.Proofs.YtdojbnngdlmbgaaGreatDoor.Pa

namespace Go.Proofs.YtdojbnngdlmbgaaGreatDoor.Pa
open Go.RowKit Go.Proofs.YtdojbnngdlmbgaaGreatDoor.Tr
set_option linter.unusedVariables false

theorem infoR : (Tryz.prog.info? 82).map (fun i => (i.zero, i.size, i.bytes)) = some (some (.agg #[.int .i64 0, .int .i64 0, .int .i64 0, .slice none 0 0, .slice none 0 0]), 5, 72) := by kernel_rfl
/-- An element's five cells. -/
def EX (w : World) (X : Nat → Prop) (c : List Value) (e : Rl) : Prop := ∃ vl va, c = [.int .i64 e.kind, .int .i64 e.tag, .int .i64 e.count, vl, va] ∧ LX w X vl e.list ∧ AX w X va e.args
def CE (w : World) (X : Nat → Prop) : List Rl → List Value → Prop
  | [], xs => xs = []
  | e :: st, xs => ∃ ys c, xs = ys ++ c ∧ CE w X st ys ∧ EX w X c e
section
variable {w w' : World} {X X' : Nat → Prop} {c xs : List Value} {e : Rl} {st : List Rl}
theorem EX.imp (h : EX w X c e) (hX : ∀ g, X g → X' g) (hk : ∀ g, X g → w'.heap[g]? = w.heap[g]?) : EX w' X' c e := by
  obtain ⟨vl, va, h1, h2, h3⟩ := h
  exact ⟨vl, va, h1, h2.imp hX hk, h3.imp hX hk⟩
theorem CE.imp : ∀ {st : List Rl} {xs : List Value}, CE w X st xs → (∀ g, X g → X' g) → (∀ g, X g → w'.heap[g]? = w.heap[g]?) → CE w' X' st xs
  | [], _, h, _, _ => h
  | e :: st, _, ⟨ys, c, rfl, h1, h2⟩, hX, hk => ⟨ys, c, rfl, CE.imp h1 hX hk, h2.imp hX hk⟩
theorem EX.len (h : EX w X c e) : c.length = 5 := by obtain ⟨_, _, rfl, _⟩ := h; rfl
theorem EX.one (h : EX w X c e) : ∀ u ∈ c, u.oneCell' = true := by
  obtain ⟨vl, va, rfl, h2, h3⟩ := h
  intro u hu
  simp only [List.mem_cons, List.not_mem_nil, or_false] at hu
  rcases hu with rfl | rfl | rfl | rfl | rfl
  · rfl
  · rfl
  · rfl
  · exact h2.one
  · exact h3.one
theorem CE.len : ∀ {st : List Rl} {xs : List Value}, CE w X st xs → xs.length = st.length * 5
  | [], _, h => by rw [show _ = [] from h]; simp
  | e :: st, _, ⟨ys, c, rfl, h1, h2⟩ => by rw [List.length_append, h1.len, h2.len, List.length_cons]; omega
theorem CE.one : ∀ {st : List Rl} {xs : List Value}, CE w X st xs → ∀ u ∈ xs, u.oneCell' = true
  | [], _, h, u, hu => by rw [show _ = [] from h] at hu; cases hu
  | e :: st, _, ⟨ys, c, rfl, h1, h2⟩, u, hu => (List.mem_append.1 hu).elim (h1.one u) (h2.one u)
/-- The k-th element from the top. -/
theorem CE.at : ∀ {st : List Rl} {xs : List Value}, CE w X st xs → ∀ {k : Nat} (hk : k < st.length), ∃ vl va, (∀ j u, [Value.int .i64 st[k].kind, .int .i64 st[k].tag, .int .i64 st[k].count, vl, va][j]? = some u → xs[(st.length - 1 - k) * 5 + j]? = some u) ∧ LX w X vl st[k].list ∧ AX w X va st[k].args
  | e :: st, _, ⟨ys, c, rfl, h1, h5⟩, 0, _ => by
    obtain ⟨vl, va, rfl, h2, h3⟩ := h5
    refine ⟨vl, va, fun j u hj => ?_, h2, h3⟩
    rw [show (e :: st).length - 1 - 0 = st.length by simp, ← h1.len, List.getElem?_append_right (by omega)]
    simpa using hj
  | e :: st, _, ⟨ys, c, rfl, h1, h2⟩, k + 1, hk => by
    have hk' : k < st.length := by simpa using hk
    obtain ⟨vl, va, a, b, d⟩ := h1.at hk'
    refine ⟨vl, va, fun j u hj => ?_, b, d⟩
    have hj5 : j < 5 := by have := (List.getElem?_eq_some_iff.1 hj).1; simpa using this
    rw [show (e :: st).length - 1 - (k + 1) = st.length - 1 - k by simp; omega, List.getElem?_append_left (by rw [h1.len]; omega)]
    exact a j u hj
end
/-- All blocks but the parser's. -/
def Xg (gp : Nat) (w : World) : Nat → Prop := fun b => b < w.heap.size ∧ b ≠ gp
/-- The stack st of the parser at block gp lies in block g. -/
structure Sq (gp : Nat) (w : World) (st : List Rl) (g cap : Nat) (xs : List Value) : Prop where
  hp : w.heap[gp]? = some (.cells #[.slice (some ⟨g, 0, none⟩) st.length cap] 85)
  hc : st.length ≤ cap
  hm : cap ≤ 9223372036854775807
  hg : g < w.heap.size
  hn : g ≠ gp
  cl : ∀ j u, xs[j]? = some u → w.cell? ⟨g, j, none⟩ = some u
  ce : CE w (Xg gp w) st xs
def SP (gp : Nat) (w : World) (st : List Rl) : Prop := ∃ g cap xs, Sq gp w st g cap xs
/-- Only the parser's block has changed. -/
structure Fq (gp : Nat) (w w' : World) : Prop where
  bl : Below gp w w'
  kp : ∀ b, b < w.heap.size → b ≠ gp → w'.heap[b]? = w.heap[b]?
section
variable {gp g cap : Nat} {w w' w'' : World} {st : List Rl} {xs : List Value} {v : Value} {l : List Nd} {la : List Ar} {e : Rl}
theorem Fq.refl (gp : Nat) (w : World) : Fq gp w w := ⟨Below.refl _ _, fun _ _ _ => rfl⟩
theorem Fq.trans (h : Fq gp w w') (k : Fq gp w' w'') : Fq gp w w'' := ⟨h.bl.trans k.bl, fun b h1 h2 => (k.kp b (Nat.lt_of_lt_of_le h1 h.bl.size) h2).trans (h.kp b h1 h2)⟩
theorem Fq.of (h : Below w.heap.size w w') (hg : gp ≤ w.heap.size) : Fq gp w w' := ⟨h.mono hg, fun b hb _ => h.block b hb⟩
theorem Fq.x (h : Fq gp w w') : ∀ b, Xg gp w b → Xg gp w' b := fun b q => ⟨Nat.lt_of_lt_of_le q.1 h.bl.size, q.2⟩
theorem Fq.k (h : Fq gp w w') : ∀ b, Xg gp w b → w'.heap[b]? = w.heap[b]? := fun b q => h.kp b q.1 q.2
theorem Fq.lx (h : Fq gp w w') (q : LX w (Xg gp w) v l) : LX w' (Xg gp w') v l := q.imp h.x h.k
theorem Fq.ax (h : Fq gp w w') (q : AX w (Xg gp w) v la) : AX w' (Xg gp w') v la := q.imp h.x h.k
theorem Sq.glt (h : Sq gp w st g cap xs) : gp < w.heap.size := (Array.getElem?_eq_some_iff.1 h.hp).1
theorem SP.glt (h : SP gp w st) : gp < w.heap.size := by obtain ⟨g, cap, xs, h⟩ := h; exact h.glt
theorem Sq.keep (h : Sq gp w st g cap xs) (hb : Below w.heap.size w w') : Sq gp w' st g cap xs :=
  ⟨(hb.block gp h.glt).trans h.hp, h.hc, h.hm, Nat.lt_of_lt_of_le h.hg hb.size, h.hn, fun j u hj => (World.cell?_of_block (hb.block g h.hg)).trans (h.cl j u hj), h.ce.imp (fun b q => ⟨Nat.lt_of_lt_of_le q.1 hb.size, q.2⟩) fun b q => hb.block b q.1⟩
theorem SP.keep (h : SP gp w st) (hb : Below w.heap.size w w') : SP gp w' st ∧ Fq gp w w' := by
  obtain ⟨g, cap, xs, h⟩ := h
  exact ⟨⟨g, cap, xs, h.keep hb⟩, Fq.of hb (Nat.le_of_lt h.glt)⟩
theorem Sq.pc (h : Sq gp w st g cap xs) : w.cell? ⟨gp, 0, none⟩ = some (.slice (some ⟨g, 0, none⟩) st.length cap) := cell_heap h.hp rfl
theorem Sq.pz (h : Sq gp w st g cap xs) : w.frozen? ⟨gp, 0, none⟩ = false := by simp [World.frozen?, h.hp]
theorem Sq.len (h : Sq gp w st g cap xs) : xs.length = st.length * 5 := h.ce.len
/-- The k-th element from the top, in memory. -/
theorem Sq.at (h : Sq gp w st g cap xs) {k : Nat} (hk : k < st.length) : ∃ vl va, w.cell? ⟨g, (st.length - 1 - k) * 5, none⟩ = some (.int .i64 st[k].kind) ∧ w.cell? ⟨g, (st.length - 1 - k) * 5 + 1, none⟩ = some (.int .i64 st[k].tag) ∧ w.cell? ⟨g, (st.length - 1 - k) * 5 + 2, none⟩ = some (.int .i64 st[k].count) ∧ w.cell? ⟨g, (st.length - 1 - k) * 5 + 3, none⟩ = some vl ∧ w.cell? ⟨g, (st.length - 1 - k) * 5 + 4, none⟩ = some va ∧ LX w (Xg gp w) vl st[k].list ∧ AX w (Xg gp w) va st[k].args := by
  obtain ⟨vl, va, a, b, c⟩ := h.ce.at hk
  exact ⟨vl, va, h.cl _ _ (a 0 _ rfl), h.cl _ _ (a 1 _ rfl), h.cl _ _ (a 2 _ rfl), h.cl _ _ (a 3 _ rfl), h.cl _ _ (a 4 _ rfl), b, c⟩
/-- A new row is laid into the parser's block. -/
theorem Sq.put {st2 : List Rl} {W : World} {r n c2 base : Nat} {ys : List Value} (h : Sq gp w st g cap xs) (hb : Below w.heap.size w W) (hbase : w.heap.size ≤ base) (hrow : W.ownsRow base 82 5 (.slice (some ⟨r, 0, none⟩) n c2) n ys) (hn : n = st2.length) (hce : CE w (Xg gp w) st2 ys) : SP gp (W.setCell ⟨gp, 0, none⟩ (.slice (some ⟨r, 0, none⟩) n c2)) st2 ∧ Fq gp w (W.setCell ⟨gp, 0, none⟩ (.slice (some ⟨r, 0, none⟩) n c2)) := by
  subst hn
  have hglt := h.glt
  have hr := own_lt hrow r rfl
  have hrn : r ≠ gp := by omega
  have hpW : W.heap[gp]? = some (.cells #[.slice (some ⟨g, 0, none⟩) st.length cap] 85) := (hb.block gp hglt).trans h.hp
  have hsz : (W.setCell ⟨gp, 0, none⟩ (.slice (some ⟨r, 0, none⟩) st2.length c2)).heap.size = W.heap.size := World.size_setCell ..
  have hk : ∀ b, b < w.heap.size → b ≠ gp → (W.setCell ⟨gp, 0, none⟩ (.slice (some ⟨r, 0, none⟩) st2.length c2)).heap[b]? = w.heap[b]? := fun b h1 h2 => (heap_set_ne (fun q => h2 q.symm)).trans (hb.block b h1)
  obtain ⟨h1, h2⟩ := hrow
  rcases h2 with ⟨q, _⟩ | ⟨g', cap', cur, q, k1, k2, k3, k4, k5, k6⟩
  · cases q
  · injection q with q1 q2 q3
    injection q1 with q1
    injection q1 with q1
    subst q1 q3
    have hrW : (W.setCell ⟨gp, 0, none⟩ (.slice (some ⟨r, 0, none⟩) st2.length c2)).heap[r]? = W.heap[r]? := heap_set_ne (fun q => hrn q.symm)
    refine ⟨⟨r, c2, ys, ?_, k3, by simpa [maxLen] using k4, by rw [hsz]; exact hr.2, hrn, fun j u hj => ?_, hce.imp (fun b q => ⟨by rw [hsz]; exact Nat.lt_of_lt_of_le q.1 hb.size, q.2⟩) fun b q => hk b q.1 q.2⟩, ⟨(hb.mono (Nat.le_of_lt hglt)).setCell (Nat.le_refl _) _, hk⟩⟩
    · rw [heap_set hpW]; rfl
    · have := cell_row (hrW.trans k2) k6 hj
      rwa [Nat.zero_add] at this
end
/-- A copy of the first elements of a row. -/
theorem run_copyE (w : World) (ty : TypeId) (g m cap B : Nat) (ys : List Value) (hl : ys.length = m * 5) (hcl : ∀ j u, ys[j]? = some u → w.cell? ⟨g, j, none⟩ = some u) (h1 : ∀ u ∈ ys, u.oneCell' = true) (hm : 0 < m) (hm2 : m ≤ 8388608) (hB : w.heap.size = B) :
    ∃ cap' w', (Builtin.append_ #[83, 83] ty #[.slice none 0 0, .slice (some ⟨g, 0, none⟩) m cap]).run Tryz.prog w = .ok (.slice (some ⟨B, 0, none⟩) m cap') w' ∧ w'.ownsRow B 82 5 (.slice (some ⟨B, 0, none⟩) m cap') m ys ∧ Below B w w' ∧ B < w'.heap.size := by
  subst hB
  obtain ⟨i0, hi, hz0, hz1, hz2⟩ := info_parts infoR
  have hne : ∀ j u, ys[j]? = some u → w.cell? ((⟨g, 0, none⟩ : Addr).add j) = some u := fun j u hj => by
    have := hcl j u hj
    unfold Addr.add
    split
    · rename_i e; subst e; exact this
    · simpa using this
  obtain ⟨g', cap', w', r0, r1, r2, r3, r4⟩ := run_append_lies (P := Tryz.prog) w 83 ty w.heap.size 82 i0 _ 5 72 Tryz.underlying83 hi hz0 hz1 hz2 rfl (by omega) (.slice none 0 0) 0 [] (ownNil _ _ _ _) ⟨g, 0, none⟩ m cap ys hl hne h1 hm (by simp only [maxLen]; omega) (by omega) (Nat.le_refl _) w.heap.size rfl
  rw [Nat.zero_add] at r0
  rw [Nat.zero_add, List.nil_append] at r1
  have hg : g' = w.heap.size := by
    rcases r3 with q | q
    · cases q
    · exact q
  subst hg
  exact ⟨cap', w', r0, r1, (Below.refl _ _).grown r2 (Nat.le_refl _) (fun k q => by cases q), r4⟩
/-- One element behind a row of the call's own. -/
theorem run_pushE (w : World) (ty : TypeId) (v : Value) (m base b B : Nat) (ys : List Value) (c0 c1 c2 c3 c4 : Value) (hrow : w.ownsRow base 82 5 v m ys) (hb : w.heap[b]? = some (.cells #[c0, c1, c2, c3, c4] 82)) (h1 : ∀ u ∈ [c0, c1, c2, c3, c4], u.oneCell' = true) (hm2 : m ≤ 8388608) (hbase : base ≤ w.heap.size) (hB : B ≤ base) :
    ∃ r cap' w', (Builtin.append_ #[83, 83] ty #[v, .slice (some ⟨b, 0, none⟩) 1 1]).run Tryz.prog w = .ok (.slice (some ⟨r, 0, none⟩) (m + 1) cap') w' ∧ w'.ownsRow base 82 5 (.slice (some ⟨r, 0, none⟩) (m + 1) cap') (m + 1) (ys ++ [c0, c1, c2, c3, c4]) ∧ Below B w w' := by
  obtain ⟨i0, hi, hz0, hz1, hz2⟩ := info_parts infoR
  obtain ⟨g', cap', w', r0, r1, r2, r3, r4⟩ := run_append_lies (P := Tryz.prog) w 83 ty base 82 i0 _ 5 72 Tryz.underlying83 hi hz0 hz1 hz2 rfl (by omega) v m ys hrow ⟨b, 0, none⟩ 1 1 [c0, c1, c2, c3, c4] rfl (World.news_of_block (cs := #[c0, c1, c2, c3, c4]) hb) h1 (by omega) (by simp only [maxLen]; omega) (by omega) hbase w.heap.size rfl
  exact ⟨g', cap', w', r0, r1, (Below.refl _ _).grown r2 (Nat.le_trans hB hbase) (fun k q => Nat.le_trans hB (own_lt hrow k q).1)⟩
/-- An append whose run is known, as an operation of a region. -/
theorem step_run {ops : Array Oper} {o : Oper} {a : Act} {w w' : World} {v u v' : Value} {K : Act → World → Prop} {Q : Exit → Act → World → Prop} {E : Prop} (hr : (Builtin.append_ #[83, 83] 83 #[v, u]).run Tryz.prog w = .ok v' w') (hgd : o.guard = none) (hty : o.type = 83) (s x : Operand)
    (ho : o.op = .call { callee := .builtin .append, args := #[s, x], argTypes := #[83, 83] }) (hs : a.eval s = v) (hx : a.eval x = u) (h : K (a.put o.dst v') w') :
    if Region.wanted o (yielded ops a.tmps) = true then Oper.wp Tryz.prog o a w K Q else E := by
  have hw : Region.wanted o (yielded ops a.tmps) = true := by simp [Region.wanted, hgd]
  rw [if_pos hw]
  unfold Oper.wp execOp
  simp only [ho, hty, resolve, invoke, builtin, Sem.run_bind, Sem.run_pure, Result.andThen_ok, List.map_toArray, List.map_cons, List.map_nil, hs, hx, hr]
  exact h
theorem run_copy0 (w : World) (ty : TypeId) (ad : Option Addr) (c : Nat) : (Builtin.append_ #[83, 83] ty #[.slice none 0 0, .slice ad 0 c]).run Tryz.prog w = .ok (.slice none 0 0) w := by
  obtain ⟨i0, hi, hz0, hz1, hz2⟩ := info_parts infoR
  cases ad with
  | none => simp [Builtin.append_, run_underlying Tryz.underlying83, sizeOf, typeInfo, hi, Builtin.lenOf, Builtin.firstCells]
  | some ad => simp [Builtin.append_, run_underlying Tryz.underlying83, sizeOf, typeInfo, hi, Builtin.lenOf, Builtin.firstCells, loadCells, loadCellsFrom]
end Go.Proofs.YtdojbnngdlmbgaaGreatDoor.Pa

namespace Go.Proofs.YtdojbnngdlmbgaaGreatDoor.Pa
open Go.RowKit Go.Proofs.YtdojbnngdlmbgaaGreatDoor.Tr
set_option linter.unusedVariables false

/-- An element as a value, its parts elsewhere than in the parser's block. -/
def EV (gp : Nat) (w : World) (v : Value) (e : Rl) : Prop := ∃ vl va, v = .agg #[.int .i64 e.kind, .int .i64 e.tag, .int .i64 e.count, vl, va] ∧ LX w (Xg gp w) vl e.list ∧ AX w (Xg gp w) va e.args
section
variable {gp : Nat} {w w' : World} {e e' : Rl} {st : List Rl} {v : Value}
theorem EV.on (h : EV gp w v e) (hf : Fq gp w w') : EV gp w' v e := by
  obtain ⟨vl, va, h1, h2, h3⟩ := h
  exact ⟨vl, va, h1, hf.lx h2, hf.ax h3⟩
/-- The top, as it lies in memory. -/
theorem Sq.top {g cap : Nat} {xs : List Value} (q : Sq gp w (e :: st) g cap xs) : ∃ ys vl va, xs = ys ++ [.int .i64 e.kind, .int .i64 e.tag, .int .i64 e.count, vl, va] ∧ CE w (Xg gp w) st ys ∧ LX w (Xg gp w) vl e.list ∧ AX w (Xg gp w) va e.args := by
  obtain ⟨ys, c, h1, h2, vl, va, rfl, h3, h4⟩ := q.ce
  exact ⟨ys, vl, va, h1, h2, h3, h4⟩
set_option maxRecDepth 100000 in
set_option maxHeartbeats 4000000 in
theorem top_q {g cap : Nat} {ys : List Value} {vl va : Value} (q : Sq gp w (e :: st) g cap (ys ++ [.int .i64 e.kind, .int .i64 e.tag, .int .i64 e.count, vl, va])) (hl : LX w (Xg gp w) vl e.list) (ha : AX w (Xg gp w) va e.args) : Calls Tryz.prog 39 #[.pointer (some ⟨gp, 0, none⟩)] w fun x w' => x = .returned (.agg #[.int .i64 e.kind, .int .i64 e.tag, .int .i64 e.count, vl, va]) ∧ Below w.heap.size w w' := by
  have c0 := q.pc
  have k1 := q.hc
  have k2 := q.hm
  have hyl : ys.length = st.length * 5 := by have := q.len; simp only [List.length_append, List.length_cons, List.length_nil] at this; omega
  have hx : ∀ j u, [Value.int .i64 e.kind, .int .i64 e.tag, .int .i64 e.count, vl, va][j]? = some u → w.cell? ⟨g, st.length * 5 + j, none⟩ = some u := fun j u hj => q.cl _ _ (by rw [← hyl, List.getElem?_append_right (by omega)]; simpa using hj)
  have a0 : w.cell? ⟨g, st.length * 5, none⟩ = _ := hx 0 _ rfl
  have a1 : w.cell? ⟨g, st.length * 5 + 1, none⟩ = _ := hx 1 _ rfl
  have a2 : w.cell? ⟨g, st.length * 5 + 2, none⟩ = _ := hx 2 _ rfl
  have a3 : w.cell? ⟨g, st.length * 5 + 3, none⟩ = _ := hx 3 _ rfl
  have a4 : w.cell? ⟨g, st.length * 5 + 4, none⟩ = _ := hx 4 _ rfl
  have hg := q.hg
  have hgl := q.glt
  rw [show (e :: st).length = st.length + 1 from rfl] at c0 k1
  obtain ⟨Al, cl, rfl⟩ := hl.form
  obtain ⟨Aa, ca, rfl⟩ := ha.form
  clear q hl ha hx
  go_enter Tryz.func39, Tryz.ntmps39
  go_wp2_with fail
  go_region
  go_wp2_with fail
  obtain ⟨O, hO⟩ : ∃ O, Obj.cells #[Value.int .i64 e.kind, .int .i64 e.tag, .int .i64 e.count, .slice Al e.list.length cl, .slice Aa e.args.length ca] 82 = O := ⟨_, rfl⟩
  rw [hO]
  have r2 : (w.alloc O).drew.heap[w.heap.size]? = some O := heap_alloc_new w O
  have hb : Below w.heap.size w (w.alloc O).drew := ((Below.refl _ _).alloc (Nat.le_refl _) _).drew
  generalize (w.alloc O).drew = W at r2 hb ⊢
  subst hO
  have o0 : W.cell? ⟨w.heap.size, 0, none⟩ = some (Value.int .i64 e.kind) := cell_heap r2 rfl
  have o1 : W.cell? ⟨w.heap.size, 1, none⟩ = some (Value.int .i64 e.tag) := cell_heap r2 rfl
  have o2 : W.cell? ⟨w.heap.size, 2, none⟩ = some (Value.int .i64 e.count) := cell_heap r2 rfl
  have o3 : W.cell? ⟨w.heap.size, 3, none⟩ = some (Value.slice Al e.list.length cl) := cell_heap r2 rfl
  have o4 : W.cell? ⟨w.heap.size, 4, none⟩ = some (Value.slice Aa e.args.length ca) := cell_heap r2 rfl
  try simp only [Exit.inBlock, Exit.then]
  exact bodyPost_ret (v := .agg #[.int .i64 e.kind, .int .i64 e.tag, .int .i64 e.count, .slice Al e.list.length cl, .slice Aa e.args.length ca]) (by simp [results, Tryz.results39, go_sem, o0, o1, o2, o3, o4]) rfl ⟨rfl, hb⟩
theorem top_r (h : SP gp w (e :: st)) : Calls Tryz.prog 39 #[.pointer (some ⟨gp, 0, none⟩)] w fun x w' => ∃ v, x = .returned v ∧ EV gp w' v e ∧ SP gp w' (e :: st) ∧ Fq gp w w' ∧ Below w.heap.size w w' := by
  obtain ⟨g, cap, xs, q⟩ := h
  obtain ⟨ys, vl, va, rfl, hy, hl, ha⟩ := q.top
  refine (top_q q hl ha).mono ?_
  rintro x w' ⟨h1, hb⟩
  have hf : Fq gp w w' := Fq.of hb (Nat.le_of_lt q.glt)
  exact ⟨_, h1, ⟨_, _, rfl, hf.lx hl, hf.ax ha⟩, ⟨g, cap, _, q.keep hb⟩, hf, hb⟩
end
end Go.Proofs.YtdojbnngdlmbgaaGreatDoor.Pa

namespace Go.Proofs.YtdojbnngdlmbgaaGreatDoor.Pa
open Go.RowKit Go.Proofs.YtdojbnngdlmbgaaGreatDoor.Tr
set_option linter.unusedVariables false

theorem step_copy {ops : Array Oper} {o : Oper} {a : Act} {w : World} {K : Act → World → Prop} {Q : Exit → Act → World → Prop} {E : Prop} (hgd : o.guard = none) (hty : o.type = 83) (s x : Operand)
    (ho : o.op = .call { callee := .builtin .append, args := #[s, x], argTypes := #[83, 83] }) (g m cap B : Nat) (ys : List Value) (hs : a.eval s = .slice none 0 0) (hx : a.eval x = .slice (some ⟨g, 0, none⟩) m cap) (hl : ys.length = m * 5) (hcl : ∀ j u, ys[j]? = some u → w.cell? ⟨g, j, none⟩ = some u) (h1 : ∀ u ∈ ys, u.oneCell' = true) (hm : 0 < m) (hm2 : m ≤ 8388608) (hB : w.heap.size = B)
    (h : ∀ cap' w', w'.ownsRow B 82 5 (.slice (some ⟨B, 0, none⟩) m cap') m ys → Below B w w' → B < w'.heap.size → K (a.put o.dst (.slice (some ⟨B, 0, none⟩) m cap')) w') :
    if Region.wanted o (yielded ops a.tmps) = true then Oper.wp Tryz.prog o a w K Q else E := by
  obtain ⟨cap', w', h0, h2, h3, h4⟩ := run_copyE w 83 g m cap B ys hl hcl h1 hm hm2 hB
  exact step_run h0 hgd hty s x ho hs hx (h cap' w' h2 h3 h4)
theorem step_push {ops : Array Oper} {o : Oper} {a : Act} {w : World} {K : Act → World → Prop} {Q : Exit → Act → World → Prop} {E : Prop} (hgd : o.guard = none) (hty : o.type = 83) (s x : Operand)
    (ho : o.op = .call { callee := .builtin .append, args := #[s, x], argTypes := #[83, 83] }) (v : Value) (m base b B : Nat) (ys : List Value) (c0 c1 c2 c3 c4 : Value) (hs : a.eval s = v) (hrow : w.ownsRow base 82 5 v m ys) (hx : a.eval x = .slice (some ⟨b, 0, none⟩) 1 1) (hb : w.heap[b]? = some (.cells #[c0, c1, c2, c3, c4] 82)) (h1 : ∀ u ∈ [c0, c1, c2, c3, c4], u.oneCell' = true) (hm2 : m ≤ 8388608) (hbase : base ≤ w.heap.size) (hB : B ≤ base)
    (h : ∀ r cap' w', w'.ownsRow base 82 5 (.slice (some ⟨r, 0, none⟩) (m + 1) cap') (m + 1) (ys ++ [c0, c1, c2, c3, c4]) → Below B w w' → K (a.put o.dst (.slice (some ⟨r, 0, none⟩) (m + 1) cap')) w') :
    if Region.wanted o (yielded ops a.tmps) = true then Oper.wp Tryz.prog o a w K Q else E := by
  obtain ⟨r, cap', w', h0, h2, h3⟩ := run_pushE w 83 v m base b B ys c0 c1 c2 c3 c4 hrow hb h1 hm2 hbase hB
  exact step_run h0 hgd hty s x ho hs hx (h r cap' w' h2 h3)
theorem step_copy0 {ops : Array Oper} {o : Oper} {a : Act} {w : World} {K : Act → World → Prop} {Q : Exit → Act → World → Prop} {E : Prop} (hgd : o.guard = none) (hty : o.type = 83) (s x : Operand)
    (ho : o.op = .call { callee := .builtin .append, args := #[s, x], argTypes := #[83, 83] }) (ad : Option Addr) (cap : Nat) (hs : a.eval s = .slice none 0 0) (hx : a.eval x = .slice ad 0 cap)
    (h : K (a.put o.dst (.slice none 0 0)) w) : if Region.wanted o (yielded ops a.tmps) = true then Oper.wp Tryz.prog o a w K Q else E :=
  step_run (run_copy0 w _ ad cap) hgd hty s x ho hs hx h
section
variable {gp : Nat} {w w' : World} {e e' : Rl} {st : List Rl} {v : Value}
set_option maxRecDepth 100000 in
set_option maxHeartbeats 4000000 in
theorem replace_r (h : SP gp w (e :: st)) (hv : EV gp w v e') (hz : st.length ≤ 2000) : Calls Tryz.prog 78 #[.pointer (some ⟨gp, 0, none⟩), v] w fun x w' => x = .returned (.tuple #[]) ∧ SP gp w' (e' :: st) ∧ Fq gp w w' := by
  obtain ⟨g, cap, xs, q⟩ := h
  obtain ⟨vl, va, rfl, hl, ha⟩ := hv
  obtain ⟨Al, cl, rfl⟩ := hl.form
  obtain ⟨Aa, ca, rfl⟩ := ha.form
  obtain ⟨ys, c, rfl, hy, hce⟩ := q.ce
  have hone := Lib.hid hy.one
  have hyl := hy.len
  have HCE : Hid (CE w (Xg gp w) (e' :: st) (ys ++ [.int .i64 e'.kind, .int .i64 e'.tag, .int .i64 e'.count, .slice Al e'.list.length cl, .slice Aa e'.args.length ca])) := Lib.hid ⟨ys, _, rfl, hy, _, _, rfl, hl, ha⟩
  have hcy : ∀ j u, ys[j]? = some u → w.cell? ⟨g, j, none⟩ = some u := fun j u hj => q.cl j u (by rw [List.getElem?_append_left (List.getElem?_eq_some_iff.1 hj).1]; exact hj)
  obtain ⟨O, hO⟩ : ∃ O, Obj.cells #[Value.int .i64 e'.kind, .int .i64 e'.tag, .int .i64 e'.count, .slice Al e'.list.length cl, .slice Aa e'.args.length ca] 82 = O := ⟨_, rfl⟩
  obtain ⟨w1, hw1⟩ : ∃ w1, w.alloc O = w1 := ⟨_, rfl⟩
  have b01 : Below w.heap.size w w1 := by rw [← hw1]; exact (Below.refl _ _).alloc (Nat.le_refl _) _
  have hbox : w1.heap[w.heap.size]? = some O := by rw [← hw1]; exact heap_alloc_new w O
  rw [← hO] at hbox
  have x0 : w1.cell? ⟨w.heap.size, 0, none⟩ = some (.int .i64 e'.kind) := cell_heap hbox rfl
  have x1 : w1.cell? ⟨w.heap.size, 1, none⟩ = some (.int .i64 e'.tag) := cell_heap hbox rfl
  have x2 : w1.cell? ⟨w.heap.size, 2, none⟩ = some (.int .i64 e'.count) := cell_heap hbox rfl
  have x3 : w1.cell? ⟨w.heap.size, 3, none⟩ = some (.slice Al e'.list.length cl) := cell_heap hbox rfl
  have x4 : w1.cell? ⟨w.heap.size, 4, none⟩ = some (.slice Aa e'.args.length ca) := cell_heap hbox rfl
  have q1 := q.keep b01
  have c0 := q1.pc
  have z0 := q1.pz
  have k1 := q.hc
  have k2 := q.hm
  rw [show (e :: st).length = st.length + 1 from rfl] at c0 k1
  have HC : Hid (∀ W, Below w1.heap.size w1 W → ∀ j u, ys[j]? = some u → W.cell? ⟨g, j, none⟩ = some u) := Lib.hid fun W hW j u hj => (World.cell?_of_block (hW.block g q1.hg)).trans ((World.cell?_of_block (b01.block g q.hg)).trans (hcy j u hj))
  have HN : Hid (∀ W : World, (W.alloc O).heap[W.heap.size]? = some (Obj.cells #[Value.int .i64 e'.kind, .int .i64 e'.tag, .int .i64 e'.count, .slice Al e'.list.length cl, .slice Aa e'.args.length ca] 82)) := Lib.hid fun W => by rw [hO]; exact heap_alloc_new W O
  have H1 : Hid (∀ u ∈ [Value.int .i64 e'.kind, .int .i64 e'.tag, .int .i64 e'.count, .slice Al e'.list.length cl, .slice Aa e'.args.length ca], u.oneCell' = true) := Lib.hid (EX.one ⟨_, _, rfl, hl, ha⟩)
  have Bd : Hid (Below w1.heap.size w1 w1.drew) := Lib.hid (Below.refl _ _).drew
  have Ba : Hid (Below w1.heap.size w1 (w1.alloc O).drew) := Lib.hid ((Below.refl _ _).alloc (Nat.le_refl _) _).drew
  have Sd : Hid (w1.drew.heap.size = w1.heap.size) := Lib.hid rfl
  have Sa : Hid ((w1.alloc O).drew.heap.size = w1.heap.size + 1) := Lib.hid (by show (w1.alloc O).heap.size = _; simp)
  have G1 : Hid (gp < w1.heap.size) := Lib.hid q1.glt
  have FIN : Hid (∀ (W : World) (r n c2 base : Nat), Below w1.heap.size w1 W → w1.heap.size ≤ base → n = st.length + 1 → W.ownsRow base 82 5 (.slice (some ⟨r, 0, none⟩) n c2) n (ys ++ [.int .i64 e'.kind, .int .i64 e'.tag, .int .i64 e'.count, .slice Al e'.list.length cl, .slice Aa e'.args.length ca]) → SP gp (W.setCell ⟨gp, 0, none⟩ (.slice (some ⟨r, 0, none⟩) n c2)) (e' :: st) ∧ Fq gp w (W.setCell ⟨gp, 0, none⟩ (.slice (some ⟨r, 0, none⟩) n c2))) := Lib.hid fun W r n c2 base hW hbs hn hrow => q.put (b01.trans (hW.mono b01.size)) (Nat.le_trans b01.size hbs) hrow hn HCE.out
  have PC : Hid (∀ W, Below w1.heap.size w1 W → W.cell? ⟨gp, 0, none⟩ = some (.slice (some ⟨g, 0, none⟩) (st.length + 1) cap) ∧ W.frozen? ⟨gp, 0, none⟩ = false) := Lib.hid fun W hW => ⟨(World.cell?_of_block (hW.block gp q1.glt)).trans c0, (World.frozen?_of_block (hW.block gp q1.glt)).trans z0⟩
  have XB : Hid (∀ W, Below w1.heap.size w1 W → W.cell? ⟨w.heap.size, 0, none⟩ = some (.int .i64 e'.kind) ∧ W.cell? ⟨w.heap.size, 1, none⟩ = some (.int .i64 e'.tag) ∧ W.cell? ⟨w.heap.size, 2, none⟩ = some (.int .i64 e'.count) ∧ W.cell? ⟨w.heap.size, 3, none⟩ = some (.slice Al e'.list.length cl) ∧ W.cell? ⟨w.heap.size, 4, none⟩ = some (.slice Aa e'.args.length ca)) := Lib.hid fun W hW => by
    have k := (hW.block w.heap.size (Array.getElem?_eq_some_iff.1 hbox).1).trans hbox
    exact ⟨cell_heap k rfl, cell_heap k rfl, cell_heap k rfl, cell_heap k rfl, cell_heap k rfl⟩
  clear hl ha hy hce hcy hbox HCE q q1 z0
  obtain ⟨oa, ob⟩ := PC.out (w1.alloc O) ((Below.refl _ _).alloc (Nat.le_refl _) _)
  have k3 : st.length ≤ cap := by omega
  have hwk : IntKind.i64.wrap (st.length : Int) = (st.length : Int) := by rw [IntKind.wrap_i64]; omega
  by_cases hst : 0 < st.length
  · go_enter Tryz.func78, Tryz.ntmps78
    go_wp2_with fail
    go_region_law (first
      | (refine step_copy rfl rfl (.const (.slice none 0 0)) (.tmp 15) rfl g st.length cap w1.heap.size ys rfl rfl hyl (HC.out w1.drew Bd.out) hone.out hst (by omega) Sd.out ?_
         intro cap1 w2 r1 b1 l1
         have rA := r1.alloc O
         have bA : Below w1.heap.size w1 (w2.alloc O) := (Bd.out.trans b1).alloc (Nat.le_of_lt l1) O
         have sA : w1.heap.size ≤ (w2.alloc O).heap.size := bA.size
         have nA := HN.out w2
         obtain ⟨y0, y1, y2, y3, y4⟩ := XB.out w2 (Bd.out.trans b1))
      | (refine step_copy rfl rfl (.const (.slice none 0 0)) (.tmp 15) rfl g st.length cap (w1.heap.size + 1) ys rfl rfl hyl (HC.out _ Ba.out) hone.out hst (by omega) Sa.out ?_
         intro cap1 w2 r1 b1 l1
         have bB : Below w1.heap.size w1 w2 := Ba.out.trans (b1.mono (Nat.le_succ _))
         have sB : w1.heap.size + 1 ≤ w2.heap.size := Nat.le_of_lt l1
         have nB := (b1.block w1.heap.size (Nat.lt_succ_self _)).trans (HN.out w1))
      | (refine step_push rfl rfl (.tmp 16) (.tmp 18) rfl _ st.length w1.heap.size w2.heap.size w1.heap.size ys _ _ _ _ _ rfl rA rfl nA H1.out (by omega) sA (Nat.le_refl _) ?_
         intro r3 cap3 w3 r4 b3
         have R := FIN.out w3 r3 _ cap3 _ (bA.trans b3) (Nat.le_refl _) rfl r4
         obtain ⟨c3, z3⟩ := PC.out w3 (bA.trans b3))
      | (refine step_push rfl rfl (.tmp 16) (.tmp 18) rfl _ st.length (w1.heap.size + 1) w1.heap.size (w1.heap.size + 1) ys _ _ _ _ _ rfl r1 rfl nB H1.out (by omega) sB (Nat.le_refl _) ?_
         intro r3 cap3 w3 r4 b3
         have R := FIN.out w3 r3 _ cap3 _ (bB.trans (b3.mono (Nat.le_succ _))) (Nat.le_succ _) rfl r4
         obtain ⟨c3, z3⟩ := PC.out w3 (bB.trans (b3.mono (Nat.le_succ _)))))
    all_goals
      go_wp2_with fail
      go_end0
      exact ⟨rfl, R⟩
  · obtain rfl : st = [] := List.length_eq_zero_iff.1 (by omega)
    obtain rfl : ys = [] := List.length_eq_zero_iff.1 (by simpa using hyl)
    simp only [List.length_nil, Nat.zero_add] at c0 k1 PC FIN oa
    have nE := HN.out w1
    have nE' : (w1.alloc O).drew.heap[w1.heap.size]? = _ := nE
    have sE : w1.heap.size ≤ (w1.alloc O).drew.heap.size := by rw [Sa.out]; omega
    clear HC hone hyl hwk hst
    have hwk0 : IntKind.i64.wrap 0 = 0 := by decide
    go_enter Tryz.func78, Tryz.ntmps78
    go_wp2_with fail
    go_region_law (first
      | (refine step_copy0 rfl rfl (.const (.slice none 0 0)) (.tmp 15) rfl (some ⟨g, 0, none⟩) cap rfl rfl ?_)
      | (refine step_push rfl rfl (.tmp 16) (.tmp 18) rfl (.slice none 0 0) 0 w1.heap.size w1.heap.size w1.heap.size [] _ _ _ _ _ rfl (ownNil _ _ _ _) rfl nE' H1.out (by omega) sE (Nat.le_refl _) ?_
         intro r3 cap3 w3 r4 b3
         have R := FIN.out w3 r3 _ cap3 _ (Ba.out.trans b3) (Nat.le_refl _) rfl r4
         obtain ⟨c3, z3⟩ := PC.out w3 (Ba.out.trans b3)))
    all_goals
      go_wp2_with fail
      go_end0
      exact ⟨rfl, R⟩
end
end Go.Proofs.YtdojbnngdlmbgaaGreatDoor.Pa

namespace Go.Proofs.YtdojbnngdlmbgaaGreatDoor.Pa
open Go.RowKit Go.Proofs.YtdojbnngdlmbgaaGreatDoor.Tr
set_option linter.unusedVariables false

section
variable {gp : Nat} {w w' : World} {e e' : Rl} {st : List Rl} {v : Value}
/-- A struct of five cells, written whole. -/
theorem set5 {w : World} {b : Nat} {c0 c1 c2 c3 c4 : Value} {t : TypeId} (h : w.heap[b]? = some (.cells #[c0, c1, c2, c3, c4] t)) (d0 d1 d2 d3 d4 : Value) : ∃ W, (((((w.setCell ⟨b, 0, none⟩ d0).setCell ⟨b, 1, none⟩ d1).setCell ⟨b, 2, none⟩ d2).setCell ⟨b, 3, none⟩ d3).setCell ⟨b, 4, none⟩ d4) = W ∧ W.heap[b]? = some (.cells #[d0, d1, d2, d3, d4] t) ∧ (∀ g, g ≠ b → W.heap[g]? = w.heap[g]?) ∧ Below b w W := by
  have k1 : Below b w (w.setCell ⟨b, 0, none⟩ d0) := (Below.refl b w).setCell (p := ⟨b, 0, none⟩) (Nat.le_refl b) d0
  have k2 := k1.setCell (p := ⟨b, 1, none⟩) (Nat.le_refl b) d1
  have k3 := k2.setCell (p := ⟨b, 2, none⟩) (Nat.le_refl b) d2
  have k4 := k3.setCell (p := ⟨b, 3, none⟩) (Nat.le_refl b) d3
  have k5 := k4.setCell (p := ⟨b, 4, none⟩) (Nat.le_refl b) d4
  refine ⟨_, rfl, ?_, fun g hg => ?_, k5⟩
  · have h1 := heap_set (j := 0) (v := d0) h
    have h2 := heap_set (j := 1) (v := d1) h1
    have h3 := heap_set (j := 2) (v := d2) h2
    have h4 := heap_set (j := 3) (v := d3) h3
    have h5 := heap_set (j := 4) (v := d4) h4
    rw [h5]; rfl
  · rw [heap_set_ne (fun z => hg z.symm), heap_set_ne (fun z => hg z.symm), heap_set_ne (fun z => hg z.symm), heap_set_ne (fun z => hg z.symm), heap_set_ne (fun z => hg z.symm)]
/-- A stack whose row lies in memory. -/
theorem SP.of_row {W : World} {r n c2 base : Nat} {ys : List Value} (hF : Fq gp w W) (hp : W.heap[gp]? = some (.cells #[.slice (some ⟨r, 0, none⟩) n c2] 85)) (hrow : W.ownsRow base 82 5 (.slice (some ⟨r, 0, none⟩) n c2) n ys) (hr : r ≠ gp) (hn : n = st.length) (hce : CE w (Xg gp w) st ys) : SP gp W st := by
  subst hn
  have hlt := own_lt hrow r rfl
  obtain ⟨h1, h2⟩ := hrow
  rcases h2 with ⟨q, _⟩ | ⟨g', cap', cur, q, k1, k2, k3, k4, k5, k6⟩
  · cases q
  · injection q with q1 q2 q3
    injection q1 with q1
    injection q1 with q1
    subst q1 q3
    exact ⟨r, c2, ys, hp, k3, by simpa [maxLen] using k4, hlt.2, hr, fun j u hj => by have := cell_row k2 k6 hj; rwa [Nat.zero_add] at this, hce.imp hF.x hF.k⟩
set_option maxRecDepth 100000 in
set_option maxHeartbeats 4000000 in
theorem pop_r (h : SP gp w (e :: st)) (hst : 0 < st.length) (hz : st.length ≤ 2000) : Calls Tryz.prog 81 #[.pointer (some ⟨gp, 0, none⟩)] w fun x w' => ∃ v, x = .returned v ∧ EV gp w' v e ∧ SP gp w' st ∧ Fq gp w w' := by
  have hgl := h.glt
  have hwk : IntKind.i64.wrap (st.length : Int) = (st.length : Int) := by rw [IntKind.wrap_i64]; omega
  obtain ⟨g, cap, xs, q⟩ := h
  obtain ⟨ys, vl, va, rfl, hy, hl, ha⟩ := q.top
  obtain ⟨OZ, hOZ⟩ : ∃ O, Obj.cells #[Value.int .i64 0, .int .i64 0, .int .i64 0, .slice none 0 0, .slice none 0 0] 82 = O := ⟨_, rfl⟩
  obtain ⟨w0, hw0⟩ : ∃ w0, w.alloc OZ = w0 := ⟨_, rfl⟩
  have b0 : Below w.heap.size w w0 := by rw [← hw0]; exact (Below.refl _ _).alloc (Nat.le_refl _) _
  have hz0 : w0.heap[w.heap.size]? = some OZ := by rw [← hw0]; exact heap_alloc_new w OZ
  have s0 : w0.heap.size = w.heap.size + 1 := by rw [← hw0]; simp
  have q0 := q.keep b0
  have hgw := q.hg
  have f0 : Fq gp w w0 := Fq.of b0 (Nat.le_of_lt hgl)
  have TQ := Lib.hid (top_q q0 (f0.lx hl) (f0.ax ha))
  have hone := Lib.hid hy.one
  have hyl := hy.len
  have hcy : ∀ j u, ys[j]? = some u → w0.cell? ⟨g, j, none⟩ = some u := fun j u hj => q0.cl j u (by rw [List.getElem?_append_left (List.getElem?_eq_some_iff.1 hj).1]; exact hj)
  obtain ⟨Al, cl, rfl⟩ := hl.form
  obtain ⟨Aa, ca, rfl⟩ := ha.form
  have c00 := q0.pc
  have k1 := q.hc
  have k2 := q.hm
  have hgl0 := q0.glt
  have hgw0 := q0.hg
  rw [show (e :: st).length = st.length + 1 from rfl] at c00 k1
  have P0 := Lib.hid (And.intro hcy (And.intro c00 (And.intro q0.pz (And.intro hz0 q0.hp))))
  have DD := Lib.hid (And.intro hl (And.intro ha (And.intro hy (And.intro b0 hOZ))))
  clear q0 q f0 hl ha hy hcy c00 hz0 b0
  go_enter Tryz.func81, Tryz.ntmps81
  go_wp2_with fail
  clear hOZ hw0
  refine TQ.out.mono ?_
  rintro x w1 ⟨rfl, hb⟩
  clear TQ
  obtain ⟨O, hO⟩ : ∃ O, Obj.cells #[Value.int .i64 e.kind, .int .i64 e.tag, .int .i64 e.count, .slice Al e.list.length cl, .slice Aa e.args.length ca] 82 = O := ⟨_, rfl⟩
  obtain ⟨w2, hw2⟩ : ∃ w2, w1.alloc O = w2 := ⟨_, rfl⟩
  have b2 : Below w1.heap.size w1 w2 := by rw [← hw2]; exact (Below.refl _ _).alloc (Nat.le_refl _) _
  have hbox : w2.heap[w1.heap.size]? = some O := by rw [← hw2]; exact heap_alloc_new w1 O
  have b02 : Below w0.heap.size w0 w2 := hb.trans (b2.mono hb.size)
  have k3 : st.length ≤ cap := by omega
  have hlt1 : w.heap.size < w1.heap.size := Nat.lt_of_lt_of_le (by omega) hb.size
  have hlt2 : w1.heap.size < w2.heap.size := (Array.getElem?_eq_some_iff.1 hbox).1
  have HC : Hid (∀ j u, ys[j]? = some u → w2.drew.cell? ⟨g, j, none⟩ = some u) := Lib.hid fun j u hj => (World.cell?_of_block (w := w0) (w' := w2.drew) (a := ⟨g, j, none⟩) (b02.block g hgw0)).trans (P0.out.1 j u hj)
  have Sd : Hid (w2.drew.heap.size = w2.heap.size) := Lib.hid rfl
  have Bd : Hid (Below w2.heap.size w2 w2.drew) := Lib.hid (Below.refl _ _).drew
  have c2p : w2.cell? ⟨gp, 0, none⟩ = some (.slice (some ⟨g, 0, none⟩) (st.length + 1) cap) := (World.cell?_of_block (b02.block gp hgl0)).trans P0.out.2.1
  have z2p : w2.frozen? ⟨gp, 0, none⟩ = false := (World.frozen?_of_block (b02.block gp hgl0)).trans P0.out.2.2.1
  have PC : Hid (∀ W, Below w2.heap.size w2 W → W.cell? ⟨gp, 0, none⟩ = some (.slice (some ⟨g, 0, none⟩) (st.length + 1) cap) ∧ W.frozen? ⟨gp, 0, none⟩ = false) := Lib.hid fun W hW => ⟨(World.cell?_of_block (hW.block gp (by omega))).trans c2p, (World.frozen?_of_block (hW.block gp (by omega))).trans z2p⟩
  obtain ⟨cap1, w3, rC, r1, b1, l1⟩ := run_copyE w2.drew 83 g st.length cap w2.heap.size ys hyl HC.out hone.out hst (by omega) Sd.out
  obtain ⟨c3, z3⟩ := PC.out w3 (Bd.out.trans b1)
  have Q2 := Lib.hid (And.intro b02 (And.intro hbox (And.intro r1 (And.intro b1 l1))))
  clear hbox hb b2 b02 r1 b1 l1
  go_wp2_with fail
  go_region_law (refine step_run rC rfl rfl (.const (.slice none 0 0)) (.tmp 17) rfl rfl rfl ?_)
  all_goals
    clear c3 z3 c2p z2p rC
    obtain ⟨hl, ha, hy, b0, hOZ⟩ := DD.out
    obtain ⟨b02, hbox, r1, b1, l1⟩ := Q2.out
    have b3 : Below w2.heap.size w2 w3 := Bd.out.trans b1
    have b03 : Below w.heap.size w w3 := b0.trans ((b02.trans (b3.mono b02.size)).mono b0.size)
    have hp3 : w3.heap[gp]? = some (.cells #[.slice (some ⟨g, 0, none⟩) (e :: st).length cap] 85) := (b3.block gp (by omega)).trans ((b02.block gp hgl0).trans P0.out.2.2.2.2)
    have h3O : w3.heap[w1.heap.size]? = some O := (b3.block _ hlt2).trans hbox
    have h3Z : w3.heap[w.heap.size]? = some OZ := (b3.block _ (by omega)).trans ((b02.block _ (by omega)).trans P0.out.2.2.2.1)
    rw [← hO] at h3O
    rw [← hOZ] at h3Z
    have hk : ∀ b, b ≠ gp → (w3.setCell ⟨gp, 0, none⟩ (.slice (some ⟨w2.heap.size, 0, none⟩) st.length cap1)).heap[b]? = w3.heap[b]? := fun b h2 => heap_set_ne (fun q => h2 q.symm)
    have r3' := (hk _ (by omega)).trans h3O
    have r2' := (hk _ (by omega)).trans h3Z
    have rp' : (w3.setCell ⟨gp, 0, none⟩ (.slice (some ⟨w2.heap.size, 0, none⟩) st.length cap1)).heap[gp]? = some (.cells #[.slice (some ⟨w2.heap.size, 0, none⟩) st.length cap1] 85) := by rw [heap_set hp3]; rfl
    have rw' : (w3.setCell ⟨gp, 0, none⟩ (.slice (some ⟨w2.heap.size, 0, none⟩) st.length cap1)).ownsRow _ _ _ _ _ _ := own_keep r1 (fun b hb => by have e : w2.heap.size = b := Option.some.inj hb; subst e; exact hk _ (by omega))
    have F3 : Fq gp w (w3.setCell ⟨gp, 0, none⟩ (.slice (some ⟨w2.heap.size, 0, none⟩) st.length cap1)) := ⟨(b03.mono (Nat.le_of_lt hgl)).setCell (Nat.le_refl _) _, fun b h1 h2 => (hk b h2).trans (b03.block b h1)⟩
    clear hk hp3 h3O h3Z b3 b03 hbox b02 b0 r1 b1 l1 Q2 DD P0 PC HC hOZ hO hone
    generalize w3.setCell ⟨gp, 0, none⟩ (.slice (some ⟨w2.heap.size, 0, none⟩) st.length cap1) = W3 at r3' r2' rp' rw' F3 ⊢
    have d0 : W3.cell? ⟨w1.heap.size, 0, none⟩ = some (Value.int .i64 e.kind) := cell_heap r3' rfl
    have d1 : W3.cell? ⟨w1.heap.size, 1, none⟩ = some (Value.int .i64 e.tag) := cell_heap r3' rfl
    have d2 : W3.cell? ⟨w1.heap.size, 2, none⟩ = some (Value.int .i64 e.count) := cell_heap r3' rfl
    have d3 : W3.cell? ⟨w1.heap.size, 3, none⟩ = some (Value.slice Al e.list.length cl) := cell_heap r3' rfl
    have d4 : W3.cell? ⟨w1.heap.size, 4, none⟩ = some (Value.slice Aa e.args.length ca) := cell_heap r3' rfl
    have o0 : W3.cell? ⟨w.heap.size, 0, none⟩ = some (Value.int .i64 0) := cell_heap r2' rfl
    have o1 : W3.cell? ⟨w.heap.size, 1, none⟩ = some (Value.int .i64 0) := cell_heap r2' rfl
    have o2 : W3.cell? ⟨w.heap.size, 2, none⟩ = some (Value.int .i64 0) := cell_heap r2' rfl
    have o3 : W3.cell? ⟨w.heap.size, 3, none⟩ = some (Value.slice none 0 0) := cell_heap r2' rfl
    have o4 : W3.cell? ⟨w.heap.size, 4, none⟩ = some (Value.slice none 0 0) := cell_heap r2' rfl
    have y0 : W3.frozen? ⟨w.heap.size, 0, none⟩ = false := by simp [World.frozen?, r2']
    have y1 : W3.frozen? ⟨w.heap.size, 1, none⟩ = false := by simp [World.frozen?, r2']
    have y2 : W3.frozen? ⟨w.heap.size, 2, none⟩ = false := by simp [World.frozen?, r2']
    have y3 : W3.frozen? ⟨w.heap.size, 3, none⟩ = false := by simp [World.frozen?, r2']
    have y4 : W3.frozen? ⟨w.heap.size, 4, none⟩ = false := by simp [World.frozen?, r2']
    go_wp2_with fail
    clear d0 d1 d2 d3 d4 o0 o1 o2 o3 o4 y0 y1 y2 y3 y4
    have hwn : gp ≠ w.heap.size := by omega
    obtain ⟨W4, hW4, g9, n9, b9⟩ := set5 r2' (.int .i64 e.kind) (.int .i64 e.tag) (.int .i64 e.count) (Value.slice Al e.list.length cl) (Value.slice Aa e.args.length ca)
    rw [hW4]
    have F4 : Fq gp w W4 := ⟨F3.bl.trans (b9.mono (Nat.le_of_lt hgl)), fun b h1 h2 => (b9.block b h1).trans (F3.kp b h1 h2)⟩
    have S4 : SP gp W4 st := SP.of_row F4 ((n9 gp hwn).trans rp') (own_keep rw' (fun b hb => by have e : w2.heap.size = b := Option.some.inj hb; subst e; exact n9 _ (by omega))) (by omega) rfl hy
    have o0 : W4.cell? ⟨w.heap.size, 0, none⟩ = some (Value.int .i64 e.kind) := cell_heap g9 rfl
    have o1 : W4.cell? ⟨w.heap.size, 1, none⟩ = some (Value.int .i64 e.tag) := cell_heap g9 rfl
    have o2 : W4.cell? ⟨w.heap.size, 2, none⟩ = some (Value.int .i64 e.count) := cell_heap g9 rfl
    have o3 : W4.cell? ⟨w.heap.size, 3, none⟩ = some (Value.slice Al e.list.length cl) := cell_heap g9 rfl
    have o4 : W4.cell? ⟨w.heap.size, 4, none⟩ = some (Value.slice Aa e.args.length ca) := cell_heap g9 rfl
    try simp only [Exit.inBlock, Exit.then]
    exact bodyPost_ret (v := .agg #[.int .i64 e.kind, .int .i64 e.tag, .int .i64 e.count, .slice Al e.list.length cl, .slice Aa e.args.length ca]) (by simp [results, Tryz.results81, go_sem, o0, o1, o2, o3, o4]) rfl ⟨_, rfl, ⟨_, _, rfl, F4.lx hl, F4.ax ha⟩, S4, F4⟩
end
end Go.Proofs.YtdojbnngdlmbgaaGreatDoor.Pa

namespace Go.Proofs.YtdojbnngdlmbgaaGreatDoor.Pa
open Go.RowKit Go.Proofs.YtdojbnngdlmbgaaGreatDoor.Tr
set_option linter.unusedVariables false

/-- The kit's law of a region with a forced tail, its world under a name. -/
theorem still_tailR {P : Program} {id : Nat} {Q : Exit → Act → World → Prop} {a : Act} {w W : World} {l : List Oper} (n : Nat) (hm : P.follows .mixedOrders = true) (hB : Region.lexTailB .any l.toArray n = true) (hW : w.drewN 1 = W)
    (h : wpStill P l.toArray W (fun a' => wpList P l.toArray Q (l.drop n) a' W) (l.take n) a) : (Code.region id l.toArray true).wp P Q a w := by
  subst hW; exact wp_region_still_tail n hm hB h
/-- A node as a value. -/
def NV (w : World) (X : Nat → Prop) (v : Value) (n : Nd) : Prop := ∃ vk va, v = .agg #[.int .i64 n.kind, .int .i64 n.tag, .string n.text, vk, va] ∧ LX w X vk n.kids ∧ AX w X va n.args ∧ Fit n.kind ∧ Fit n.tag
/-- The blocks X and the new ones. -/
def Nw (X : Nat → Prop) (w w' : World) : Nat → Prop := fun b => X b ∨ (w.heap.size ≤ b ∧ b < w'.heap.size)
section
variable {w w' : World} {X : Nat → Prop} {v nv : Value} {l : List Nd} {n : Nd}
theorem NV.imp {X' : Nat → Prop} (h : NV w X v n) (hX : ∀ g, X g → X' g) (hk : ∀ g, X g → w'.heap[g]? = w.heap[g]?) : NV w' X' v n := by
  obtain ⟨vk, va, h1, h2, h3, h4⟩ := h
  exact ⟨vk, va, h1, h2.imp hX hk, h3.imp hX hk, h4⟩
/-- Five cells at the end of a row are written whole. -/
theorem row5 {base g k cap n : Nat} {e : TypeId} {xs : List Value} {c0 c1 c2 c3 c4 : Value} (h : w.ownsRow base e 5 (.slice (some ⟨g, 0, none⟩) n cap) n (xs ++ [c0, c1, c2, c3, c4])) (hk : xs.length = k) (d0 d1 d2 d3 d4 : Value) : ∃ W, (((((w.setCell ⟨g, k, none⟩ d0).setCell ⟨g, k + 1, none⟩ d1).setCell ⟨g, k + 2, none⟩ d2).setCell ⟨g, k + 3, none⟩ d3).setCell ⟨g, k + 4, none⟩ d4) = W ∧ W.ownsRow base e 5 (.slice (some ⟨g, 0, none⟩) n cap) n (xs ++ [d0, d1, d2, d3, d4]) ∧ (∀ b, b ≠ g → W.heap[b]? = w.heap[b]?) ∧ Below g w W := by
  have k1 : Below g w (w.setCell ⟨g, k, none⟩ d0) := (Below.refl g w).setCell (p := ⟨g, k, none⟩) (Nat.le_refl g) d0
  have k2 := k1.setCell (p := ⟨g, k + 1, none⟩) (Nat.le_refl g) d1
  have k3 := k2.setCell (p := ⟨g, k + 2, none⟩) (Nat.le_refl g) d2
  have k4 := k3.setCell (p := ⟨g, k + 3, none⟩) (Nat.le_refl g) d3
  have k5 := k4.setCell (p := ⟨g, k + 4, none⟩) (Nat.le_refl g) d4
  refine ⟨_, rfl, ?_, fun b hb => ?_, k5⟩
  · have r1 := own_setR h k d0
    have r2 := own_setR r1 (k + 1) d1
    have r3 := own_setR r2 (k + 2) d2
    have r4 := own_setR r3 (k + 3) d3
    have r5 := own_setR r4 (k + 4) d4
    subst hk
    have e0 : (((((xs ++ [c0, c1, c2, c3, c4]).set xs.length d0).set (xs.length + 1) d1).set (xs.length + 2) d2).set (xs.length + 3) d3).set (xs.length + 4) d4 = xs ++ [d0, d1, d2, d3, d4] := by
      rw [List.set_append_right _ _ (by omega), List.set_append_right _ _ (by omega), List.set_append_right _ _ (by omega), List.set_append_right _ _ (by omega), List.set_append_right _ _ (by omega)]
      simp [Nat.add_sub_cancel_left]
    rw [e0] at r5
    exact r5
  · rw [heap_set_ne (fun z => hb z.symm), heap_set_ne (fun z => hb z.symm), heap_set_ne (fun z => hb z.symm), heap_set_ne (fun z => hb z.symm), heap_set_ne (fun z => hb z.symm)]
theorem jn_snoc' {r : List Nd} {m n : Nd} (hn : n.kind = 1) (hs : n.text.size ≠ 0) (hm : m.kind = 1) : jn (r ++ [m]) n = r ++ [txN (m.text ++ n.text)] := by
  unfold jn
  rw [if_pos hn, if_neg hs]
  simp only [List.getLast?_concat, List.dropLast_concat]
  rw [if_pos hm]
theorem jn_plain {l : List Nd} {n : Nd} (h : n.kind ≠ 1 ∨ (n.text.size ≠ 0 ∧ ∀ m ∈ l.getLast?, m.kind ≠ 1)) : jn l n = l ++ [n] := by
  unfold jn
  rcases h with h | ⟨h1, h2⟩
  · rw [if_neg h]
  · by_cases hk : n.kind = 1
    · rw [if_pos hk, if_neg h1]
      cases hq : l.getLast? with
      | none => rfl
      | some m => simp only; rw [if_neg (h2 m hq)]
    · rw [if_neg hk]
theorem jn_none {l : List Nd} {n : Nd} (h1 : n.kind = 1) (h2 : n.text.size = 0) : jn l n = l := by
  unfold jn
  rw [if_pos h1, if_pos h2]
/-- One node behind a row of the call's own. -/
theorem RN.app1 {lo : Nat} {vk va : Value} (row : RN lo w X v l) (hlo : lo ≤ w.heap.size) (hX : ∀ g, X g → g < lo) (hk : LX w X vk n.kids) (ha : AX w X va n.args) (f1 : Fit n.kind) (f2 : Fit n.tag) (hz : sz l + szN n ≤ 16777216) : ∃ A c w', (Builtin.append_ #[27, 27] 27 #[v, .slice (some ⟨w.heap.size, 0, none⟩) 1 1]).run Tryz.prog (w.alloc (.cells #[.int .i64 n.kind, .int .i64 n.tag, .string n.text, vk, va] 62)) = .ok (.slice A (l ++ [n]).length c) w' ∧ LX w' (fun b => X b ∨ (lo ≤ b ∧ b < w'.heap.size)) (.slice A (l ++ [n]).length c) (l ++ [n]) ∧ Below lo w w' := by
  obtain ⟨O, hO⟩ : ∃ O, Obj.cells #[Value.int .i64 n.kind, .int .i64 n.tag, .string n.text, vk, va] 62 = O := ⟨_, rfl⟩
  rw [hO]
  have hb := heap_alloc_new w O
  rw [← hO] at hb
  have b0 : Below w.heap.size w (w.alloc O) := (Below.refl _ _).alloc (Nat.le_refl _) _
  have up : ∀ g, X g → (w.alloc O).heap[g]? = w.heap[g]? := fun g q => b0.block g (Nat.lt_of_lt_of_le (hX g q) hlo)
  have hlt := row.lt
  have hsz : (w.alloc O).heap.size = w.heap.size + 1 := by simp
  have row2 : RN lo (w.alloc O) (fun b => X b ∨ b = w.heap.size) v l := row.keep (fun g q => .inl q) up (fun g q => b0.block g (hlt g q).2)
  have hu : LX (w.alloc O) (fun b => X b ∨ b = w.heap.size) (.slice (some ⟨w.heap.size, 0, none⟩) 1 1) [n] := by
    rw [Nd.eta n]
    exact LX.lit (by rw [hO] at hb ⊢; exact hb) (.inr rfl) f1 f2 (hk.imp (fun g q => .inl q) up) (ha.imp (fun g q => .inl q) up) (by rw [← Nd.eta n]; omega)
  have hll : l.length ≤ 33554432 := by have := sz_len l; omega
  obtain ⟨v', w', hr, hg, ho, ys, hy, hc⟩ := row2.app 27 hu hll (Nat.le_trans hlo (by omega))
  obtain ⟨A, c, hv', _, _⟩ := own_form hy
  subst hv'
  have bl : Below lo (w.alloc O) w' := (Below.refl _ _).grown hg (Nat.le_trans hlo (by omega)) (fun k q => (hlt k (ob_mem.2 q)).1)
  refine ⟨A, c, w', hr, ?_, (b0.mono hlo).trans bl⟩
  have xk : ∀ g, (X g ∨ g = w.heap.size) → w'.heap[g]? = (w.alloc O).heap[g]? := fun g q => by
    refine hg.block g (by rcases q with q | q; exact Nat.lt_of_lt_of_le (hX g q) (Nat.le_trans hlo (by omega)); omega) (fun e => ?_)
    have := hlt g (ob_mem.2 e.symm)
    rcases q with q | q
    · have := hX g q; omega
    · omega
  have rn : RN lo w' (fun b => X b ∨ b = w.heap.size) (.slice A (l ++ [n]).length c) (l ++ [n]) := ⟨ys, hy, cellsX_imp hc (fun _ q => q) xk⟩
  refine rn.lx ?_ (fun g q => ?_) (fun g q => .inr (rn.lt g q))
  · rw [sz_append, sz_cons, sz_nil]; omega
  · rcases q with q | q
    · exact .inl q
    · exact .inr ⟨by omega, by have := bl.size; omega⟩
set_option maxRecDepth 100000 in
set_option maxHeartbeats 4000000 in
theorem joined_r (hl : LX w X v l) (hn : NV w X nv n) (hX : ∀ g, X g → g < w.heap.size) (hz : sz l + szN n ≤ 16777216) : Calls Tryz.prog 122 #[v, nv] w fun x w' => ∃ v', x = .returned v' ∧ LX w' (Nw X w w') v' (jn l n) ∧ Below w.heap.size w w' := by
  obtain ⟨A, c, rfl⟩ := hl.form
  obtain ⟨vk, va, rfl, hk, ha, f1, f2⟩ := hn
  obtain ⟨Ak, ck, rfl⟩ := hk.form
  obtain ⟨Aa, ca, rfl⟩ := ha.form
  have hlen := Nat.le_trans (sz_len l) hl.sz
  obtain ⟨O, hO⟩ : ∃ O, Obj.cells #[Value.int .i64 n.kind, .int .i64 n.tag, .string n.text, .slice Ak n.kids.length ck, .slice Aa n.args.length ca] 62 = O := ⟨_, rfl⟩
  obtain ⟨w1, hw1⟩ : ∃ w1, w.alloc O = w1 := ⟨_, rfl⟩
  have b1 : Below w.heap.size w w1 := by rw [← hw1]; exact (Below.refl _ _).alloc (Nat.le_refl _) _
  have s1 : w1.heap.size = w.heap.size + 1 := by rw [← hw1]; simp
  have hbox : w1.heap[w.heap.size]? = some O := by rw [← hw1]; exact heap_alloc_new w O
  have xk : ∀ g, X g → w1.heap[g]? = w.heap[g]? := fun g q => b1.block g (hX g q)
  have hl1 := hl.imp (X' := X) (fun _ q => q) xk
  obtain ⟨v2, w2, hr, hg, ho, ys, hy, hc⟩ := (RN.nil w1.heap.size w1 X).app 27 hl1 (by simp) (Nat.le_refl _)
  rw [List.nil_append] at hy hc
  have b2 : Below w1.heap.size w1 w2 := (Below.refl _ _).grown hg (Nat.le_refl _) (fun k q => by cases q)
  have b12 : Below w.heap.size w w2 := b1.trans (b2.mono b1.size)
  have hbox2 := (b2.block w.heap.size (by omega)).trans hbox
  rw [← hO] at hbox2
  have x0 : w2.cell? ⟨w.heap.size, 0, none⟩ = some (.int .i64 n.kind) := cell_heap hbox2 rfl
  have x1 : w2.cell? ⟨w.heap.size, 1, none⟩ = some (.int .i64 n.tag) := cell_heap hbox2 rfl
  have x2 : w2.cell? ⟨w.heap.size, 2, none⟩ = some (.string n.text) := cell_heap hbox2 rfl
  have x3 : w2.cell? ⟨w.heap.size, 3, none⟩ = some (.slice Ak n.kids.length ck) := cell_heap hbox2 rfl
  have x4 : w2.cell? ⟨w.heap.size, 4, none⟩ = some (.slice Aa n.args.length ca) := cell_heap hbox2 rfl
  have row : RN w1.heap.size w2 X v2 l := ⟨ys, hy, cellsX_imp hc (fun _ q => q) fun g q => b2.block g (Nat.lt_of_lt_of_le (hX g q) b1.size)⟩
  have hk2 := hk.imp (w' := w2) (X' := X) (fun _ q => q) fun g q => b12.block g (hX g q)
  have ha2 := ha.imp (w' := w2) (X' := X) (fun _ q => q) fun g q => b12.block g (hX g q)
  obtain ⟨A2, c2, hv2, _, _⟩ := row.form
  subst hv2
  obtain ⟨Af, cf, wf, rf, lf, bf⟩ := row.app1 b2.size (fun g q => Nat.lt_of_lt_of_le (hX g q) b1.size) hk2 ha2 f1 f2 hz
  rw [hO] at rf
  rw [show (l ++ [n]).length = l.length + 1 by simp] at rf lf
  have bF : Below w.heap.size w wf := b12.trans (bf.mono b1.size)
  have FF := Lib.hid (And.intro (lf.imp (X' := Nw X w wf) (fun g q => q.imp id fun q => ⟨by omega, q.2⟩) fun _ _ => rfl) bF)
  have RF := Lib.hid rf
  have HR := Lib.hid hr
  have DD := Lib.hid (And.intro row (And.intro b12 b2))
  have hl0 := Lib.hid hl.sz
  clear row hk2 ha2 b12 hbox hbox2 hl1 xk hg ho hy hc hk ha hl rf lf bf bF hr b2
  by_cases hkd : n.kind = 1
  · by_cases hs : n.text.size = 0
    · have HJ := Lib.hid (jn_none (l := l) hkd hs)
      have hemp : n.text.toList.isEmpty = true := by
        rw [Lib.toList_data, List.isEmpty_iff, ← List.length_eq_zero_iff]; exact hs
      have hkb : (n.kind == 1) = true := by rw [hkd]; rfl
      clear hkd hs
      have LR := Lib.hid (DD.out.1.lx (X' := Nw X w w2) hl0.out (fun g q => .inl q) (fun g q => .inr ⟨by have := (DD.out.1.lt g q).1; omega, (DD.out.1.lt g q).2⟩))
      go_enter Tryz.func122, Tryz.ntmps122
      go_wp2_with (at_builtin; refine wpList_app rfl (.const (.slice none 0 0)) (.tmp 6) _ rfl rfl rfl HR.out ?_)
      go_ret
      exact ⟨_, rfl, by rw [HJ.out]; exact LR.out, DD.out.2.1⟩
    · have hemp : n.text.toList.isEmpty = false := by
        rw [Lib.toList_data]
        cases h' : n.text.data.toList with
        | nil => exact absurd (show n.text.data.toList.length = 0 by rw [h']; rfl) hs
        | cons _ _ => rfl
      have hkb : (n.kind == 1) = true := by rw [hkd]; rfl
      have HK := Lib.hid (And.intro hkd hs)
      rcases snoc_cases l with rfl | ⟨r, m, rfl⟩
      · have HJ := Lib.hid (jn_plain (l := []) (n := n) (.inr ⟨hs, by simp⟩))
        clear hkd hs
        have HR : Hid ((Builtin.append_ #[27, 27] 27 #[.slice none 0 0, .slice A 0 c]).run Tryz.prog w1 = .ok (.slice A2 0 c2) w2) := Lib.hid HR.out
        have RF : Hid ((Builtin.append_ #[27, 27] 27 #[.slice A2 0 c2, .slice (some ⟨w2.heap.size, 0, none⟩) 1 1]).run Tryz.prog (w2.alloc O) = .ok (.slice Af 1 cf) wf) := Lib.hid RF.out
        go_enter Tryz.func122, Tryz.ntmps122
        go_wp2_with (first
          | (at_builtin; refine wpList_app rfl (.const (.slice none 0 0)) (.tmp 6) _ rfl rfl rfl HR.out ?_)
          | (at_builtin; refine wpList_app rfl (.tmp 45) (.tmp 47) _ rfl rfl rfl RF.out ?_))
        go_ret
        exact ⟨_, rfl, by rw [HJ.out]; exact FF.out.1, FF.out.2⟩
      · obtain ⟨ys, hy, hc⟩ := DD.out.1
        obtain ⟨xs, zs, rfl, hxs, hzs⟩ := cells_split r [m] ys hc
        have hxl : xs.length = r.length * 5 := hxs.length
        have hl5 : zs.length = 5 := by have := hzs.length; simpa using this
        obtain ⟨c0, c1, c2', c3, c4, rfl⟩ : ∃ c0 c1 c2 c3 c4, zs = [c0, c1, c2, c3, c4] := by
          match zs, hl5 with
          | [c0, c1, c2, c3, c4], _ => exact ⟨_, _, _, _, _, rfl⟩
        obtain ⟨e0, e1, e2, g1, g2, hmk, hma, _⟩ := hzs
        subst e0 e1 e2
        have el : (r ++ [m]).length = r.length + 1 := by simp
        have HR0 := HR.out
        have RF0 := RF.out
        rw [el] at HR0 RF0 hy
        obtain ⟨g, hA2, hgl, hgs, hcap, hcm⟩ : ∃ g, A2 = some ⟨g, 0, none⟩ ∧ w1.heap.size ≤ g ∧ g < w2.heap.size ∧ r.length + 1 ≤ c2 ∧ c2 ≤ 9223372036854775807 := by
          rcases hy.2 with ⟨q, _⟩ | ⟨g, cap, cur, q, k1, k2, k3, k4, _⟩
          · cases q
          · injection q with q1 q2 q3
            subst q3
            exact ⟨g, q1, k1, (Array.getElem?_eq_some_iff.1 k2).1, k3, by simpa [maxLen] using k4⟩
        subst hA2
        obtain ⟨cur, kcur, kfr⟩ : ∃ cur, w2.heap[g]? = some (.cells cur 62) ∧ cur.toList.take ((r.length + 1) * 5) = xs ++ [.int .i64 m.kind, .int .i64 m.tag, .string m.text, c3, c4] := by
          rcases hy.2 with ⟨q, _⟩ | ⟨g', cap, cur, q, k1, k2, k3, k4, _, k6⟩
          · cases q
          · cases q
            exact ⟨cur, k2, k6⟩
        have hz5 : ∀ j, w2.frozen? ⟨g, j, none⟩ = false := fun j => by simp [World.frozen?, kcur]
        have cel : ∀ j u, [Value.int .i64 m.kind, .int .i64 m.tag, .string m.text, c3, c4][j]? = some u → w2.cell? ⟨g, r.length * 5 + j, none⟩ = some u := fun j u hj => by
          have := cell_row kcur kfr (j := r.length * 5 + j) (u := u) (by rw [← hxl, List.getElem?_append_right (by omega)]; simpa using hj)
          rwa [Nat.zero_add] at this
        have m0 : w2.cell? ⟨g, r.length * 5, none⟩ = some (.int .i64 m.kind) := cel 0 _ rfl
        have m1 : w2.cell? ⟨g, r.length * 5 + 1, none⟩ = some (.int .i64 m.tag) := cel 1 _ rfl
        have m2 : w2.cell? ⟨g, r.length * 5 + 2, none⟩ = some (.string m.text) := cel 2 _ rfl
        have m3 : w2.cell? ⟨g, r.length * 5 + 3, none⟩ = some c3 := cel 3 _ rfl
        have m4 : w2.cell? ⟨g, r.length * 5 + 4, none⟩ = some c4 := cel 4 _ rfl
        have y0 := hz5 (r.length * 5)
        have y1 := hz5 (r.length * 5 + 1)
        have y2 := hz5 (r.length * 5 + 2)
        have y3 := hz5 (r.length * 5 + 3)
        have y4 := hz5 (r.length * 5 + 4)
        have HRn := Lib.hid HR0
        have RFn := Lib.hid RF0
        have ROW := Lib.hid (And.intro hy (And.intro hxs (And.intro hxl hl0.out)))
        have hsm : m.text.size + n.text.size ≤ 16777216 := by
          have h1 : szN m ≤ Tr.sz (r ++ [m]) := by rw [sz_append, sz_cons, sz_nil]; omega
          have h2 := szN_eq m
          have h3 := szN_eq n
          omega
        have hrl : r.length ≤ 16777216 := by omega
        have hwk : IntKind.i64.wrap (r.length : Int) = (r.length : Int) := by rw [IntKind.wrap_i64]; omega
        obtain ⟨A6, c6, rfl⟩ := hmk.form
        obtain ⟨A7, c7, rfl⟩ := hma.form
        clear HR RF HR0 RF0 hy hxs hc cel hz5 kfr kcur hxl hlen hmk hma
        rw [el]
        clear el
        have KEEP := Lib.hid (And.intro hX (And.intro hz (And.intro hgl (And.intro s1 (And.intro hsm hgs)))))
        have hsm1 : m.text.size ≤ 16777216 := by omega
        have hsm2 : n.text.size ≤ 16777216 := by omega
        clear hX hz hgl s1 hsm hl5 g1 g2 f1 f2 b1 hl0
        by_cases hmk1 : m.kind = 1
        · have hmb : (m.kind == 1) = true := by rw [hmk1]; rfl
          have HJ := Lib.hid (jn_snoc' (r := r) hkd hs hmk1)
          clear hmk1 hkd hs RFn FF
          go_enter Tryz.func122, Tryz.ntmps122
          go_wp2_with (at_builtin; refine wpList_app rfl (.const (.slice none 0 0)) (.tmp 6) _ rfl rfl rfl HRn.out ?_)
          obtain ⟨W, hW⟩ : ∃ W, w2.drewN 1 = W := ⟨_, rfl⟩
          replace m0 : W.cell? ⟨g, r.length * 5, none⟩ = some (.int .i64 m.kind) := by rw [← hW]; exact m0
          replace m1 : W.cell? ⟨g, r.length * 5 + 1, none⟩ = some (.int .i64 m.tag) := by rw [← hW]; exact m1
          replace m2 : W.cell? ⟨g, r.length * 5 + 2, none⟩ = some (.string m.text) := by rw [← hW]; exact m2
          replace m3 : W.cell? ⟨g, r.length * 5 + 3, none⟩ = some (.slice A6 m.kids.length c6) := by rw [← hW]; exact m3
          replace m4 : W.cell? ⟨g, r.length * 5 + 4, none⟩ = some (.slice A7 m.args.length c7) := by rw [← hW]; exact m4
          replace x2 : W.cell? ⟨w.heap.size, 2, none⟩ = some (.string n.text) := by rw [← hW]; exact x2
          replace y0 : W.frozen? ⟨g, r.length * 5, none⟩ = false := by rw [← hW]; exact y0
          replace y1 : W.frozen? ⟨g, r.length * 5 + 1, none⟩ = false := by rw [← hW]; exact y1
          replace y2 : W.frozen? ⟨g, r.length * 5 + 2, none⟩ = false := by rw [← hW]; exact y2
          replace y3 : W.frozen? ⟨g, r.length * 5 + 3, none⟩ = false := by rw [← hW]; exact y3
          replace y4 : W.frozen? ⟨g, r.length * 5 + 4, none⟩ = false := by rw [← hW]; exact y4
          obtain ⟨hy, hxs, hxl, hsz⟩ := ROW.out
          obtain ⟨hX, hz, hgl, s1, hsm, hgs⟩ := KEEP.out
          have hrow : W.ownsRow w1.heap.size 62 5 (.slice (some ⟨g, 0, none⟩) (r.length + 1) c2) (r.length + 1) (xs ++ [.int .i64 m.kind, .int .i64 m.tag, .string m.text, .slice A6 m.kids.length c6, .slice A7 m.args.length c7]) := by rw [← hW]; exact own_keep hy (fun _ _ => rfl)
          obtain ⟨W5, hW5, r5, k5, b5⟩ := row5 hrow hxl (.int .i64 1) (.int .i64 0) (.string (m.text ++ n.text)) (.slice none 0 0) (.slice none 0 0)
          have bW : Below w.heap.size w W := by rw [← hW]; exact below_drewN DD.out.2.1 1
          have DW : ∀ b : Nat, W.heap[b]? = w2.heap[b]? := fun b => by rw [← hW]; rfl
          have xw : ∀ b, X b → b ≠ g := fun b q e => by have := hX b q; omega
          have hcs : Cells (LX w2 X) (AX w2 X) (xs ++ [.int .i64 1, .int .i64 0, .string (m.text ++ n.text), .slice none 0 0, .slice none 0 0]) (r ++ [txN (m.text ++ n.text)]) := Cells.append hxs ⟨rfl, rfl, rfl, by show Fit 1; unfold Fit; omega, by show Fit 0; unfold Fit; omega, LX.nil _ _, AX.nil _ _, trivial⟩
          have rn : RN w1.heap.size W5 X (.slice (some ⟨g, 0, none⟩) (r.length + 1) c2) (r ++ [txN (m.text ++ n.text)]) := ⟨_, by rw [show (r ++ [txN (m.text ++ n.text)]).length = r.length + 1 by simp]; exact r5, cellsX_imp hcs (fun _ q => q) fun b q => (k5 b (xw b q)).trans (DW b)⟩
          have bW5 : Below w.heap.size w W5 := bW.trans (b5.mono (by omega))
          have FIN := Lib.hid (And.intro (rn.lx (X' := Nw X w W5) (by
            rw [sz_append, sz_cons, sz_nil] at hsz ⊢
            have e1 := szN_eq m
            have e2 : szN (txN (m.text ++ n.text)) = 1 + (m.text ++ n.text).size := by rw [szN_eq]; simp [txN, Nd.text, Nd.kids, Nd.args, sz_nil, szA_nil]
            rw [ByteArray.size_append] at e2
            have e3 := szN_eq n
            rw [sz_append, sz_cons, sz_nil] at hz
            omega) (fun b q => .inl q) (fun b q => .inr ⟨by have := (rn.lt b q).1; omega, (rn.lt b q).2⟩)) bW5)
          have HW5 := Lib.hid hW5
          have HWW := Lib.hid hW
          clear hrow r5 k5 b5 bW DW xw hcs rn bW5 hy hxs hxl hsz hW hW5 ROW DD hX hz hgl s1 hsm
          have hix : (r.length : Int) < (r.length : Int) + 1 := Int.lt_add_one_of_le (Int.le_refl _)
          refine still_tailR 16 (by kernel_rfl) (by kernel_rfl) HWW.out ?_
          simp only [List.take_succ_cons, List.take_zero, List.drop_succ_cons, List.drop_zero]
          repeat still_step
          refine wpStill_step (fun K hK => ?_)
          go_simp
          rw [if_neg (show ¬ 9223372036854775807 < m.text.size + n.text.size by omega)]
          go_simp
          refine hK _ ?_
          clear hK K
          repeat still_step
          refine wpStill_nil ?_
          go_wp2_with fail
          rw [HW5.out]
          go_ret
          exact ⟨_, rfl, by rw [HJ.out]; exact FIN.out.1, FIN.out.2⟩
        · have hmb : (m.kind == 1) = false := by rw [beq_eq_false_iff_ne]; exact hmk1
          have HJ := Lib.hid (jn_plain (l := r ++ [m]) (n := n) (.inr ⟨hs, fun x hx => by rw [List.getLast?_concat] at hx; cases hx; exact hmk1⟩))
          clear hmk1 hkd hs
          go_enter Tryz.func122, Tryz.ntmps122
          go_wp2_with (first
            | (at_builtin; refine wpList_app rfl (.const (.slice none 0 0)) (.tmp 6) _ rfl rfl rfl HRn.out ?_)
            | (at_builtin; refine wpList_app rfl (.tmp 45) (.tmp 47) _ rfl rfl rfl RFn.out ?_))
          go_ret
          refine ⟨_, rfl, ?_, FF.out.2⟩
          rw [HJ.out]
          have := FF.out.1
          rw [show (r ++ [m]).length = r.length + 1 by simp] at this
          exact this
  · have hkb : (n.kind == 1) = false := by rw [beq_eq_false_iff_ne]; exact hkd
    have HJ := Lib.hid (jn_plain (l := l) (n := n) (.inl hkd))
    go_enter Tryz.func122, Tryz.ntmps122
    go_wp2_with (first
      | (at_builtin; refine wpList_app rfl (.const (.slice none 0 0)) (.tmp 6) _ rfl rfl rfl HR.out ?_)
      | (at_builtin; refine wpList_app rfl (.tmp 45) (.tmp 47) _ rfl rfl rfl RF.out ?_))
    go_ret
    exact ⟨_, rfl, by rw [HJ.out]; exact FF.out.1, FF.out.2⟩
end
end Go.Proofs.YtdojbnngdlmbgaaGreatDoor.Pa
