/-
  The parser as a function on lists: its stack of elements, the top first, and what it keeps of the source.
  How large the parser's stack can grow.
  The parser's stack in memory: rows that grow, and parts that stay.
  The parser's stack, opened at its top, and how it changes there.
  The stack after nodes were appended at its top.
-/
import Derived.Test.YtdojbnngdlmbgaaGreatDoorTrJPure
import Derived.Test.YtdojbnngdlmbgaaGreatDoorTrRow
import Derived.Maps.AppendAt
namespace Go.Proofs.YtdojbnngdlmbgaaGreatDoor.Pa
open Go.Proofs.YtdojbnngdlmbgaaGreatDoor.Tr

/-- An element that is not closed yet: 0 the root, 1 a link, 2 a tag, 3 a brace. -/
structure El where
  kind : Nat
  op : List UInt8
  tag : Int
  nodes : List Nd
  args : List Ar
def tx (s : List UInt8) : Nd := txN ⟨s.toArray⟩
/-- Nodes behind the last argument's value. -/
def addA : List Ar → List Nd → List Ar
  | [], _ => []
  | [a], l => [.mk a.named a.name (a.value ++ l)]
  | a :: b :: r, l => a :: addA (b :: r) l
def addE (e : El) (l : List Nd) : El := if e.args.isEmpty then { e with nodes := e.nodes ++ l } else { e with args := addA e.args l }
def addN : List El → List Nd → List El
  | [], _ => []
  | e :: st, l => addE e l :: st
def addT (st : List El) (s : List UInt8) : List El := addN st [tx s]
def flatA (a : Ar) : List Nd := tx [124] :: ((if a.named then a.name ++ [tx [61]] else []) ++ a.value)
def flatE (e : El) : List Nd := tx e.op :: (e.nodes ++ e.args.flatMap flatA)
def flatten : List El → List El
  | [] => []
  | e :: st => addN st (flatE e)
def flats : Nat → List El → List El
  | 0, st => st
  | n + 1, st => flats n (flatten st)
def push (st : List El) (e : El) : List El := if 20 < st.length then addT st e.op else e :: st
/-- A new argument. -/
def bar (st : List El) (s : List UInt8) : List El := match st with
  | e :: r => if e.kind = 3 then { e with args := e.args ++ [.mk false [] []] } :: r else addT st s
  | [] => []
/-- What was read of the last argument becomes its name. -/
def nameA : List Ar → List Ar
  | [] => []
  | [a] => [.mk true a.value []]
  | a :: b :: r => a :: nameA (b :: r)
def lastNamed (l : List Ar) : Bool := match l.getLast? with
  | some a => a.named
  | none => true
def equal (st : List El) (s : List UInt8) : List El := match st with
  | e :: r => if lastNamed e.args then addT st s else { e with args := nameA e.args } :: r
  | [] => []
def linkEnd (st : List El) (s : List UInt8) : List El := match st with
  | e :: _ => if e.kind = 1 then addT (flatten st) s else addT st s
  | [] => []
/-- How many elements are above the last tag of a kind. -/
def tagAt (t : Int) : List El → Option Nat
  | [] => none
  | e :: st => if e.kind = 2 ∧ e.tag = t then some 0 else (tagAt t st).map (· + 1)
def tagEnd (st : List El) (s : List UInt8) (t : Int) : List El := match tagAt t st with
  | none => addT st s
  | some i => match flats i st with
    | e :: r => addN r [.mk 6 e.tag ⟨#[]⟩ e.nodes []]
    | [] => []
def braceAt : List El → Option Nat
  | [] => none
  | e :: st => if e.kind = 3 then some 0 else if e.kind = 2 then none else (braceAt st).map (· + 1)
/-- The brace on top is closed once: the stack, and how many closing braces that takes. -/
def close1 (st : List El) (c : Nat) : List El × Nat := match st with
  | e :: r =>
    let k := if 3 ≤ c ∧ 3 ≤ e.op.length then 3 else 2
    let n : Nd := .mk (if k = 3 then 5 else 4) 0 ⟨#[]⟩ e.nodes e.args
    let left := e.op.drop k
    if 2 ≤ left.length then ({ kind := 3, op := left, tag := 0, nodes := [n], args := [] } :: r, k) else (addN (addT r left) [n], k)
  | [] => ([], 2)
def closeB : Nat → List El → List UInt8 → List El
  | 0, st, s => addT st s
  | f + 1, st, s => if s.length < 2 then addT st s else match braceAt st with
    | none => addT st s
    | some i => closeB f (close1 (flats i st) s.length).1 (s.drop (close1 (flats i st) s.length).2)
def within (s : List UInt8) : List UInt8 := (s.drop 8).take (s.length - 17)
/-- A token. -/
def take (st : List El) (k : Nat) (s : List UInt8) (t : Int) : List El :=
  if k = 9 then addN st [.mk 2 0 ⟨s.toArray⟩ [] []]
  else if k = 10 then addN st [.mk 3 0 ⟨(within s).toArray⟩ [] []]
  else if k = 3 then push st ⟨3, s, 0, [], []⟩
  else if k = 5 then push st ⟨1, s, 0, [], []⟩
  else if k = 11 then push st ⟨2, s, t, [], []⟩
  else if k = 7 then bar st s
  else if k = 8 then equal st s
  else if k = 6 then linkEnd st s
  else if k = 12 then tagEnd st s t
  else if k = 4 then closeB s.length st s
  else addT st s
def root : El := ⟨0, [], 0, [], []⟩

/-! What the stack stands for. -/
def srcE (e : El) : List UInt8 := e.op ++ src e.nodes ++ srcA e.args
def srcS : List El → List UInt8
  | [] => []
  | e :: st => srcS st ++ srcE e
theorem src_tx (s : List UInt8) : src [tx s] = s := by rw [src_cons, tx, srcN_tx, src_nil, List.append_nil]
theorem srcA_addA : ∀ (l : List Ar) (m : List Nd), l ≠ [] → srcA (addA l m) = srcA l ++ src m
  | [], _, h => absurd rfl h
  | [a], m, _ => by
    rw [addA, srcA_cons, srcA_cons, srcA_nil, List.append_nil, List.append_nil]
    cases a with | mk b n v => cases b <;> simp [Ar.named, Ar.name, Ar.value, srcG, src_append]
  | a :: b :: r, m, _ => by rw [addA, srcA_cons, srcA_addA (b :: r) m (by simp), ← List.append_assoc, ← srcA_cons]
theorem srcE_addE (e : El) (l : List Nd) : srcE (addE e l) = srcE e ++ src l := by
  unfold addE srcE
  cases h : e.args with
  | nil => simp [src_append, srcA_nil]
  | cons a r => simp [srcA_addA (a :: r) l (by simp)]
theorem srcS_addN (e : El) (st : List El) (l : List Nd) : srcS (addN (e :: st) l) = srcS (e :: st) ++ src l := by
  rw [addN, srcS, srcS, srcE_addE, List.append_assoc]
theorem srcS_addN' {st : List El} (h : st ≠ []) (l : List Nd) : srcS (addN st l) = srcS st ++ src l := by
  cases st with
  | nil => exact absurd rfl h
  | cons e st => exact srcS_addN e st l
theorem srcS_addT {st : List El} (h : st ≠ []) (s : List UInt8) : srcS (addT st s) = srcS st ++ s := by rw [addT, srcS_addN' h, src_tx]
theorem src_flatA (a : Ar) : src (flatA a) = srcG a := by
  rw [srcG_eq, flatA, src_cons, tx, srcN_tx, src_append]
  cases a.named with
  | true => simp only [if_true, src_append]; rw [src_tx]; simp
  | false => simp [src_nil]
theorem src_flatAs : ∀ l : List Ar, src (l.flatMap flatA) = srcA l
  | [] => by simp [src_nil, srcA_nil]
  | a :: r => by rw [List.flatMap_cons, src_append, src_flatA, src_flatAs r, srcA_cons]
theorem src_flatE (e : El) : src (flatE e) = srcE e := by
  rw [flatE, src_cons, tx, srcN_tx, src_append, src_flatAs]; simp [srcE]
theorem srcS_flatten {e : El} {st : List El} (h : st ≠ []) : srcS (flatten (e :: st)) = srcS (e :: st) := by
  rw [flatten, srcS_addN' h, src_flatE, srcS]
theorem len_addN (st : List El) (l : List Nd) : (addN st l).length = st.length := by cases st <;> rfl
theorem len_flatten (st : List El) : (flatten st).length = st.length - 1 := by
  cases st with
  | nil => rfl
  | cons e st => rw [flatten, len_addN]; rfl
theorem flats_src : ∀ (n : Nat) (st : List El), n < st.length → srcS (flats n st) = srcS st ∧ (flats n st).length = st.length - n
  | 0, st, _ => ⟨rfl, rfl⟩
  | n + 1, st, h => by
    have h1 := len_flatten st
    have ih := flats_src n (flatten st) (by omega)
    rw [flats]
    refine ⟨ih.1.trans ?_, by rw [ih.2, h1]; omega⟩
    match st, h with
    | e :: r, h =>
      refine srcS_flatten (fun e0 => ?_)
      subst e0
      simp at h
/-! What holds of every element. -/
def tO (t : Int) : List UInt8 := [60] ++ tname t ++ [62]
def tE (t : Int) : List UInt8 := [60, 47] ++ tname t ++ [62]
structure Ok (e : El) : Prop where
  k1 : e.kind ≠ 3 → e.args = []
  k2 : e.kind = 2 → e.op = tO e.tag ∧ 1 ≤ e.tag ∧ e.tag ≤ 3
  k3 : e.kind = 3 → e.op = List.replicate e.op.length 123 ∧ 2 ≤ e.op.length
/-- The elements above the root, then the root. -/
def Inv : List El → Prop
  | [] => False
  | [e] => e.kind = 0 ∧ e.args = [] ∧ e.op = []
  | e :: st => e.kind ≠ 0 ∧ Ok e ∧ Inv st
theorem Inv.ne {st : List El} (h : Inv st) : st ≠ [] := by rintro rfl; exact h
theorem addE_kind (e : El) (l : List Nd) : (addE e l).kind = e.kind ∧ (addE e l).op = e.op ∧ (addE e l).tag = e.tag ∧ (e.args = [] → (addE e l).args = []) := by
  unfold addE
  cases h : e.args with
  | nil => simp
  | cons a r => simp
theorem Ok.add {e : El} (h : Ok e) (l : List Nd) : Ok (addE e l) := by
  obtain ⟨q1, q2, q3, q4⟩ := addE_kind e l
  refine ⟨fun hk => q4 (h.k1 (by rwa [q1] at hk)), fun hk => ?_, fun hk => ?_⟩
  · rw [q2, q3]; exact h.k2 (by rwa [q1] at hk)
  · rw [q2]; exact h.k3 (by rwa [q1] at hk)
theorem Inv.add : ∀ {st : List El}, Inv st → ∀ l, Inv (addN st l)
  | [], h, _ => h
  | [e], h, l => by
    obtain ⟨q1, q2, q3, q4⟩ := addE_kind e l
    exact ⟨by rw [q1]; exact h.1, q4 h.2.1, by rw [q2]; exact h.2.2⟩
  | e :: f :: st, h, l => by
    obtain ⟨q1, _⟩ := addE_kind e l
    exact ⟨by rw [q1]; exact h.1, h.2.1.add l, h.2.2⟩
theorem Inv.tail {e f : El} {st : List El} (h : Inv (e :: f :: st)) : Inv (f :: st) := h.2.2
theorem Inv.flatten {e f : El} {st : List El} (h : Inv (e :: f :: st)) : Inv (Pa.flatten (e :: f :: st)) := h.2.2.add _
theorem Inv.flats : ∀ (n : Nat) {st : List El}, Inv st → n < st.length → Inv (Pa.flats n st)
  | 0, _, h, _ => h
  | n + 1, e :: f :: st, h, hn => by
    rw [Pa.flats]
    exact Inv.flats n h.flatten (by rw [len_flatten]; simp only [List.length_cons] at *; omega)
  | n + 1, [e], _, hn => by simp at hn
/-- A tag or a brace that is found is not the root. -/
theorem tagAt_lt (t : Int) : ∀ {st : List El} {i : Nat}, Inv st → tagAt t st = some i → i + 1 < st.length
  | [e], i, h, q => by
    unfold tagAt at q
    rw [if_neg (by rw [h.1]; simp)] at q
    simp [tagAt] at q
  | e :: f :: st, i, h, q => by
    unfold tagAt at q
    split at q
    · cases q; simp
    · cases hq : tagAt t (f :: st) with
      | none => rw [hq] at q; cases q
      | some j =>
        rw [hq] at q
        cases q
        have := tagAt_lt t h.2.2 hq
        simp only [List.length_cons] at *; omega
theorem braceAt_lt : ∀ {st : List El} {i : Nat}, Inv st → braceAt st = some i → i + 1 < st.length
  | [e], i, h, q => by
    unfold braceAt at q
    rw [if_neg (by rw [h.1]; simp), if_neg (by rw [h.1]; simp)] at q
    simp [braceAt] at q
  | e :: f :: st, i, h, q => by
    unfold braceAt at q
    split at q
    · cases q; simp
    · split at q
      · cases q
      · cases hq : braceAt (f :: st) with
        | none => rw [hq] at q; cases q
        | some j =>
          rw [hq] at q
          cases q
          have := braceAt_lt h.2.2 hq
          simp only [List.length_cons] at *; omega
theorem tagAt_flatten {t : Int} {e f : El} {st : List El} {i : Nat} (h : tagAt t (e :: f :: st) = some (i + 1)) : tagAt t (flatten (e :: f :: st)) = some i := by
  unfold tagAt at h
  split at h
  · cases h
  · cases hq : tagAt t (f :: st) with
    | none => rw [hq] at h; cases h
    | some j =>
      rw [hq] at h
      have e1 : j = i := by simpa using h
      subst e1
      obtain ⟨q1, _, q3, _⟩ := addE_kind f (flatE e)
      rw [flatten, addN]
      unfold tagAt at hq ⊢
      rw [q1, q3]; exact hq
theorem braceAt_flatten {e f : El} {st : List El} {i : Nat} (h : braceAt (e :: f :: st) = some (i + 1)) : braceAt (flatten (e :: f :: st)) = some i := by
  unfold braceAt at h
  split at h
  · cases h
  · split at h
    · cases h
    · cases hq : braceAt (f :: st) with
      | none => rw [hq] at h; cases h
      | some j =>
        rw [hq] at h
        have e1 : j = i := by simpa using h
        subst e1
        obtain ⟨q1, _, q3, _⟩ := addE_kind f (flatE e)
        rw [flatten, addN]
        unfold braceAt at hq ⊢
        rw [q1]; exact hq
theorem tagAt_flats {t : Int} : ∀ {i : Nat} {st : List El}, Inv st → tagAt t st = some i → tagAt t (flats i st) = some 0
  | 0, _, _, h => h
  | i + 1, [e], hi, h => by have := tagAt_lt t hi h; simp at this
  | i + 1, e :: f :: st, hi, h => by rw [flats]; exact tagAt_flats hi.flatten (tagAt_flatten h)
theorem braceAt_flats : ∀ {i : Nat} {st : List El}, Inv st → braceAt st = some i → braceAt (flats i st) = some 0
  | 0, _, _, h => h
  | i + 1, [e], hi, h => by have := braceAt_lt hi h; simp at this
  | i + 1, e :: f :: st, hi, h => by rw [flats]; exact braceAt_flats hi.flatten (braceAt_flatten h)
theorem tag_top {t : Int} {e : El} {st : List El} (h : tagAt t (e :: st) = some 0) : e.kind = 2 ∧ e.tag = t := by
  unfold tagAt at h
  split at h
  · assumption
  · cases hq : tagAt t st <;> rw [hq] at h <;> simp at h
theorem brace_top {e : El} {st : List El} (h : braceAt (e :: st) = some 0) : e.kind = 3 := by
  unfold braceAt at h
  split at h
  · assumption
  · split at h
    · cases h
    · cases hq : braceAt st <;> rw [hq] at h <;> simp at h
/-- What lies on top once the elements above were flattened. -/
theorem top2 : ∀ {st : List El}, Inv st → 2 ≤ st.length → ∃ e r, st = e :: r ∧ Ok e ∧ e.kind ≠ 0 ∧ Inv r
  | e :: f :: st, h, _ => ⟨e, f :: st, rfl, h.2.1, h.1, h.2.2⟩
  | [e], _, h => by simp at h
theorem Inv.cons {e : El} {r : List El} (hk : e.kind ≠ 0) (ho : Ok e) (hr : Inv r) : Inv (e :: r) := by
  cases r with
  | nil => exact hr.elim
  | cons f r => exact ⟨hk, ho, hr⟩
theorem tagged_eq {t : Int} (h1 : 1 ≤ t) (h3 : t ≤ 3) (x : List UInt8) : tagged t x = tO t ++ x ++ tE t := by
  have h : t = 1 ∨ t = 2 ∨ t = 3 := by omega
  rcases h with rfl | rfl | rfl <;> simp [tagged, tname, tO, tE]
theorem tagEnd_src {st : List El} (h : Inv st) {s : List UInt8} {t : Int} (hs : s = tE t) : srcS (tagEnd st s t) = srcS st ++ s ∧ Inv (tagEnd st s t) := by
  unfold tagEnd
  cases hq : tagAt t st with
  | none => exact ⟨srcS_addT h.ne s, h.add _⟩
  | some i =>
    have hl := tagAt_lt t h hq
    obtain ⟨f1, f2⟩ := flats_src i st (by omega)
    have hi := h.flats i (by omega)
    have ht := tagAt_flats h hq
    obtain ⟨e, r, e1, ho, hk, hr⟩ := top2 hi (by omega)
    rw [e1] at ht f1
    simp only [e1]
    obtain ⟨k1, k2⟩ := tag_top ht
    obtain ⟨o1, o2, o3⟩ := ho.k2 k1
    have oa := ho.k1 (by rw [k1]; decide)
    refine ⟨?_, hr.add _⟩
    show srcS (addN r _) = _
    rw [srcS_addN' hr.ne, ← f1, srcS, srcE, oa, o1, srcA_nil, src_cons, src_nil, srcN]
    simp only [ntext]
    rw [k2] at o2 o3 ⊢
    simp [tagged_eq o2 o3, hs]
theorem rep_add (a b : Nat) (c : UInt8) : List.replicate a c ++ List.replicate b c = List.replicate (a + b) c := by simp
theorem close1_src {e : El} {r : List El} (hr : Inv r) (ho : Ok e) (hk : e.kind = 3) (c : Nat) (hc : 2 ≤ c) :
    srcS (close1 (e :: r) c).1 = srcS (e :: r) ++ List.replicate (close1 (e :: r) c).2 125 ∧ Inv (close1 (e :: r) c).1 ∧ 2 ≤ (close1 (e :: r) c).2 ∧ (close1 (e :: r) c).2 ≤ c := by
  obtain ⟨o1, o2⟩ := ho.k3 hk
  generalize hm : e.op.length = m at o1 o2
  have key : ∀ k, k ≤ m → e.op.drop k = List.replicate (m - k) 123 := fun k _ => by rw [o1, List.drop_replicate]
  unfold close1
  by_cases h3 : 3 ≤ c ∧ 3 ≤ e.op.length
  · have hm3 : 3 ≤ m := by omega
    simp only [h3, and_self, if_true]
    rw [key 3 hm3]
    split
    · rename_i h2
      rw [List.length_replicate] at h2
      refine ⟨?_, Inv.cons (show (3 : Nat) ≠ 0 by decide) ⟨fun h => absurd rfl h, (fun h => by cases h), fun _ => ⟨by simp, by simpa using h2⟩⟩ hr, by omega, by omega⟩
      simp only [srcS, srcE, src_cons, src_nil, srcA_nil, srcN, ntext]
      rw [o1, show List.replicate m (123 : UInt8) = List.replicate (m - 3) 123 ++ [123, 123, 123] by
        rw [show [(123 : UInt8), 123, 123] = List.replicate 3 123 from rfl, rep_add]; congr 1; omega]
      simp
    · rename_i h2
      refine ⟨?_, (hr.add _).add _, by omega, by omega⟩
      show srcS (addN (addT r _) _) = srcS (e :: r) ++ _
      rw [srcS_addN' (show Inv (addT r _) from hr.add _).ne, srcS_addT hr.ne]
      simp only [srcS, srcE, src_cons, src_nil, srcN, ntext]
      rw [o1, show List.replicate m (123 : UInt8) = List.replicate (m - 3) 123 ++ [123, 123, 123] by
        rw [show [(123 : UInt8), 123, 123] = List.replicate 3 123 from rfl, rep_add]; congr 1; omega]
      simp
  · simp only [h3, if_false]
    rw [key 2 o2]
    split
    · rename_i h2
      rw [List.length_replicate] at h2
      refine ⟨?_, Inv.cons (show (3 : Nat) ≠ 0 by decide) ⟨fun h => absurd rfl h, (fun h => by cases h), fun _ => ⟨by simp, by simpa using h2⟩⟩ hr, by omega, by omega⟩
      simp only [srcS, srcE, src_cons, src_nil, srcA_nil, srcN, ntext]
      rw [o1, show List.replicate m (123 : UInt8) = List.replicate (m - 2) 123 ++ [123, 123] by
        rw [show [(123 : UInt8), 123] = List.replicate 2 123 from rfl, rep_add]; congr 1; omega]
      simp
    · rename_i h2
      refine ⟨?_, (hr.add _).add _, by omega, by omega⟩
      show srcS (addN (addT r _) _) = srcS (e :: r) ++ _
      rw [srcS_addN' (show Inv (addT r _) from hr.add _).ne, srcS_addT hr.ne]
      simp only [srcS, srcE, src_cons, src_nil, srcN, ntext]
      rw [o1, show List.replicate m (123 : UInt8) = List.replicate (m - 2) 123 ++ [123, 123] by
        rw [show [(123 : UInt8), 123] = List.replicate 2 123 from rfl, rep_add]; congr 1; omega]
      simp
theorem closeB_src : ∀ (f : Nat) {st : List El}, Inv st → ∀ (n : Nat), srcS (closeB f st (List.replicate n 125)) = srcS st ++ List.replicate n 125 ∧ Inv (closeB f st (List.replicate n 125))
  | 0, st, h, n => ⟨srcS_addT h.ne _, h.add _⟩
  | f + 1, st, h, n => by
    unfold closeB
    split
    · exact ⟨srcS_addT h.ne _, h.add _⟩
    · rename_i h2
      rw [List.length_replicate] at h2
      cases hq : braceAt st with
      | none => exact ⟨srcS_addT h.ne _, h.add _⟩
      | some i =>
        have hl := braceAt_lt h hq
        obtain ⟨f1, f2⟩ := flats_src i st (by omega)
        have hi := h.flats i (by omega)
        have ht := braceAt_flats h hq
        obtain ⟨e, r, e1, ho, hk, hr⟩ := top2 hi (by omega)
        rw [e1] at ht f1
        have k1 := brace_top ht
        obtain ⟨c1, c2, c3, c4⟩ := close1_src hr ho k1 n (by omega)
        simp only [e1, List.length_replicate, List.drop_replicate]
        have ih := closeB_src f c2 (n - (close1 (e :: r) n).2)
        refine ⟨?_, ih.2⟩
        rw [ih.1, c1, f1, List.append_assoc, rep_add]
        congr 2
        omega
/-- What is known of a token: its kind, its text, its tag. -/
structure TF (k : Nat) (s : List UInt8) (t : Int) : Prop where
  c10 : k = 10 → s = nowikiL ++ within s ++ nowikiR
  c3 : k = 3 → s = List.replicate s.length 123 ∧ 2 ≤ s.length
  c4 : k = 4 → s = List.replicate s.length 125
  c11 : k = 11 → s = tO t ∧ 1 ≤ t ∧ t ≤ 3
  c12 : k = 12 → s = tE t
  c7 : k = 7 → s = [124]
  c8 : k = 8 → s = [61]
theorem push_src {st : List El} (h : Inv st) {e : El} (hk : e.kind ≠ 0) (ho : Ok e) (hn : e.nodes = []) (ha : e.args = []) : srcS (push st e) = srcS st ++ e.op ∧ Inv (push st e) := by
  unfold push
  split
  · exact ⟨srcS_addT h.ne _, h.add _⟩
  · exact ⟨by rw [srcS, srcE, hn, ha, src_nil, srcA_nil]; simp, Inv.cons hk ho h⟩
theorem bar_src {st : List El} (h : Inv st) {s : List UInt8} (hs : s = [124]) : srcS (bar st s) = srcS st ++ s ∧ Inv (bar st s) := by
  unfold bar
  match st, h with
  | [e], h =>
    simp only [h.1, show ¬ (0 : Nat) = 3 by decide, if_false]
    exact ⟨srcS_addT (by simp) _, h.add _⟩
  | e :: f :: r, h =>
    simp only
    split
    · rename_i hk
      refine ⟨?_, h.1, ⟨fun q => absurd hk q, fun q => h.2.1.k2 q, fun q => h.2.1.k3 q⟩, h.2.2⟩
      simp only [srcS, srcE, srcA_append, srcA_cons, srcA_nil, srcG, hs, src_nil]
      simp
    · exact ⟨srcS_addT (by simp) _, h.add _⟩
theorem srcA_nameA : ∀ (l : List Ar), lastNamed l = false → srcA (nameA l) = srcA l ++ [61]
  | [], h => by simp [lastNamed] at h
  | [a], h => by
    cases a with | mk b n v =>
    have hb : b = false := by simpa [lastNamed, Ar.named] using h
    subst hb
    rw [nameA, srcA_cons, srcA_cons, srcA_nil, srcG, srcG]
    simp [Ar.value, src_nil]
  | a :: b :: r, h => by
    have h' : lastNamed (b :: r) = false := by simpa [lastNamed] using h
    rw [nameA, srcA_cons, srcA_nameA (b :: r) h', ← List.append_assoc, ← srcA_cons]
theorem equal_src {st : List El} (h : Inv st) {s : List UInt8} (hs : s = [61]) : srcS (equal st s) = srcS st ++ s ∧ Inv (equal st s) := by
  unfold equal
  match st, h with
  | [e], h =>
    have : lastNamed e.args = true := by rw [h.2.1]; rfl
    simp only [this, if_true]
    exact ⟨srcS_addT (by simp) _, h.add _⟩
  | e :: f :: r, h =>
    simp only
    split
    · exact ⟨srcS_addT (by simp) _, h.add _⟩
    · rename_i hn
      have hn' : lastNamed e.args = false := by simpa using hn
      refine ⟨?_, h.1, ⟨fun q => ?_, fun q => h.2.1.k2 q, fun q => h.2.1.k3 q⟩, h.2.2⟩
      · simp only [srcS, srcE, srcA_nameA _ hn', hs]
        simp
      · have := h.2.1.k1 q
        rw [this] at hn'
        simp [lastNamed] at hn'
theorem linkEnd_src {st : List El} (h : Inv st) (s : List UInt8) : srcS (linkEnd st s) = srcS st ++ s ∧ Inv (linkEnd st s) := by
  unfold linkEnd
  match st, h with
  | [e], h =>
    simp only [h.1, show ¬ (0 : Nat) = 1 by decide, if_false]
    exact ⟨srcS_addT (by simp) _, h.add _⟩
  | e :: f :: r, h =>
    simp only
    split
    · have hi := h.flatten
      exact ⟨by rw [srcS_addT hi.ne, srcS_flatten (by simp)], hi.add _⟩
    · exact ⟨srcS_addT (by simp) _, h.add _⟩
/-- A token adds its text to what the stack stands for. -/
theorem take_src {st : List El} (h : Inv st) {k : Nat} {s : List UInt8} {t : Int} (hf : TF k s t) : srcS (take st k s t) = srcS st ++ s ∧ Inv (take st k s t) := by
  unfold take
  split
  · exact ⟨by rw [srcS_addN' h.ne, src_cons, src_nil, srcN]; simp [ntext], h.add _⟩
  split
  · rename_i hk
    refine ⟨?_, h.add _⟩
    rw [srcS_addN' h.ne, src_cons, src_nil, srcN]
    simp only [ntext]
    conv => rhs; rw [hf.c10 hk]
    simp
  split
  · rename_i hk
    exact push_src h (e := ⟨3, s, 0, [], []⟩) (show (3 : Nat) ≠ 0 by decide) ⟨fun _ => rfl, (fun q => by cases q), fun _ => hf.c3 hk⟩ rfl rfl
  split
  · exact push_src h (e := ⟨1, s, 0, [], []⟩) (show (1 : Nat) ≠ 0 by decide) ⟨fun _ => rfl, (fun q => by cases q), (fun q => by cases q)⟩ rfl rfl
  split
  · rename_i hk
    exact push_src h (e := ⟨2, s, t, [], []⟩) (show (2 : Nat) ≠ 0 by decide) ⟨fun _ => rfl, fun _ => hf.c11 hk, (fun q => by cases q)⟩ rfl rfl
  split
  · rename_i hk; exact bar_src h (hf.c7 hk)
  split
  · rename_i hk; exact equal_src h (hf.c8 hk)
  split
  · exact linkEnd_src h s
  split
  · rename_i hk; exact tagEnd_src h (hf.c12 hk)
  split
  · rename_i hk
    have e := hf.c4 hk
    have := closeB_src s.length h s.length
    rw [← e] at this
    exact this
  · exact ⟨srcS_addT h.ne _, h.add _⟩
/-- The tree of a list of tokens, before texts are joined. -/
def takes (l : List (Nat × List UInt8 × Int)) (st : List El) : List El := l.foldl (fun st x => take st x.1 x.2.1 x.2.2) st
theorem takes_src : ∀ (l : List (Nat × List UInt8 × Int)) {st : List El}, Inv st → (∀ x ∈ l, TF x.1 x.2.1 x.2.2) → srcS (takes l st) = srcS st ++ (l.flatMap fun x => x.2.1) ∧ Inv (takes l st)
  | [], st, h, _ => by simp [takes, h]
  | x :: l, st, h, hf => by
    obtain ⟨h1, h2⟩ := take_src h (hf x (by simp))
    obtain ⟨h3, h4⟩ := takes_src l h2 (fun y hy => hf y (by simp [hy]))
    refine ⟨?_, h4⟩
    show srcS (takes l _) = _
    rw [h3, h1, List.flatMap_cons, List.append_assoc]
def nodesOf : List El → List Nd
  | e :: _ => e.nodes
  | [] => []
def tree (l : List (Nat × List UInt8 × Int)) : List Nd := join (nodesOf (flats ((takes l [root]).length - 1) (takes l [root])))
/-- The source of the tree is the texts of the tokens. -/
theorem src_tree (l : List (Nat × List UInt8 × Int)) (hf : ∀ x ∈ l, TF x.1 x.2.1 x.2.2) : src (tree l) = l.flatMap fun x => x.2.1 := by
  have h0 : Inv [root] := ⟨rfl, rfl, rfl⟩
  obtain ⟨h1, h2⟩ := takes_src l h0 hf
  have hpos : 0 < (takes l [root]).length := List.length_pos_iff.2 h2.ne
  obtain ⟨f1, f2⟩ := flats_src ((takes l [root]).length - 1) (takes l [root]) (by omega)
  have hi := h2.flats ((takes l [root]).length - 1) (by omega)
  unfold tree
  rw [src_join]
  have hlen : (flats ((takes l [root]).length - 1) (takes l [root])).length = 1 := by omega
  match hq : flats ((takes l [root]).length - 1) (takes l [root]), hlen with
  | [e], _ =>
    rw [hq] at f1 hi
    have : srcS [e] = src e.nodes := by rw [srcS, srcS, srcE, hi.2.1, hi.2.2, srcA_nil]; simp
    show src e.nodes = _
    rw [← this, f1, h1]
    simp [srcS, srcE, root, src_nil, srcA_nil]
end Go.Proofs.YtdojbnngdlmbgaaGreatDoor.Pa

namespace Go.Proofs.YtdojbnngdlmbgaaGreatDoor.Pa
open Go.Proofs.YtdojbnngdlmbgaaGreatDoor.Tr

def phA : List Ar → Nat
  | [] => 0
  | a :: r => 8 + sz a.name + sz a.value + phA r
def phE (e : El) : Nat := 8 + e.op.length + sz e.nodes + phA e.args
def ph : List El → Nat
  | [] => 0
  | e :: r => phE e + ph r
theorem sz_append : ∀ a b : List Nd, sz (a ++ b) = sz a + sz b
  | [], b => by simp [sz_nil]
  | n :: r, b => by rw [List.cons_append, sz_cons, sz_cons, sz_append r b]; omega
theorem phA_append : ∀ a b : List Ar, phA (a ++ b) = phA a + phA b
  | [], b => by simp [phA]
  | n :: r, b => by rw [List.cons_append, phA, phA, phA_append r b]; omega
theorem szA_ph : ∀ l : List Ar, szA l ≤ phA l
  | [] => by simp [szA_nil]
  | a :: r => by have := szA_ph r; rw [szA_cons, szG_eq, phA]; omega
theorem len_ph : ∀ l : List Ar, l.length * 8 ≤ phA l
  | [] => by simp
  | a :: r => by have := len_ph r; rw [phA, List.length_cons]; omega
theorem sz_tx (s : List UInt8) : sz [tx s] = 1 + s.length := by
  rw [sz_cons, sz_nil, szN_eq]
  simp [tx, txN, Nd.text, Nd.kids, Nd.args, sz_nil, szA_nil, ByteArray.size]
theorem phA_addA : ∀ (l : List Ar) (m : List Nd), l ≠ [] → phA (addA l m) = phA l + sz m
  | [], _, h => absurd rfl h
  | [a], m, _ => by
    cases a with | mk b n v => simp only [addA, phA, Ar.name, Ar.value, sz_append]; omega
  | a :: b :: r, m, _ => by
    have e : phA (a :: b :: r) = 8 + sz a.name + sz a.value + phA (b :: r) := rfl
    rw [addA, phA, phA_addA (b :: r) m (by simp), e]; omega
theorem phE_addE (e : El) (l : List Nd) : phE (addE e l) = phE e + sz l := by
  unfold addE phE
  cases h : e.args with
  | nil => simp [sz_append, phA]; omega
  | cons a r => simp [phA_addA (a :: r) l (by simp)]; omega
theorem ph_addN (e : El) (st : List El) (l : List Nd) : ph (addN (e :: st) l) = ph (e :: st) + sz l := by
  rw [addN, ph, ph, phE_addE]; omega
theorem ph_addN_le (st : List El) (l : List Nd) : ph (addN st l) ≤ ph st + sz l := by
  cases st with
  | nil => simp [addN, ph]
  | cons e st => rw [ph_addN]; exact Nat.le_refl _
theorem ph_addT_le (st : List El) (s : List UInt8) : ph (addT st s) ≤ ph st + (1 + s.length) := by
  have := ph_addN_le st [tx s]
  rw [sz_tx] at this; exact this
theorem sz_flatA (a : Ar) : sz (flatA a) ≤ 8 + sz a.name + sz a.value := by
  unfold flatA
  rw [sz_cons, sz_append]
  have h1 := sz_tx [124]
  rw [sz_cons, sz_nil] at h1
  simp only [List.length_cons, List.length_nil] at h1
  split
  · have h2 := sz_tx [61]
    simp only [List.length_cons, List.length_nil] at h2
    rw [sz_append, h2]; omega
  · rw [sz_nil]; omega
theorem sz_flatAs : ∀ l : List Ar, sz (l.flatMap flatA) ≤ phA l
  | [] => by simp [sz_nil]
  | a :: r => by
    have := sz_flatAs r
    have := sz_flatA a
    rw [List.flatMap_cons, sz_append, phA]; omega
theorem sz_flatE (e : El) : sz (flatE e) + 7 ≤ phE e := by
  unfold flatE phE
  have h1 := sz_tx e.op
  rw [sz_cons, sz_nil] at h1
  have := sz_flatAs e.args
  rw [sz_cons, sz_append]; omega
theorem ph_flatten (st : List El) : ph (flatten st) ≤ ph st := by
  cases st with
  | nil => exact Nat.le_refl _
  | cons e st =>
    have := ph_addN_le st (flatE e)
    have := sz_flatE e
    rw [flatten, ph]; omega
theorem ph_flats : ∀ (n : Nat) (st : List El), ph (flats n st) ≤ ph st
  | 0, _ => Nat.le_refl _
  | n + 1, st => Nat.le_trans (ph_flats n (flatten st)) (ph_flatten st)
theorem ph_close1 (st : List El) (c : Nat) : ph (close1 st c).1 ≤ ph st := by
  cases st with
  | nil => exact Nat.le_refl _
  | cons e r =>
    simp only [close1]
    generalize hk : (if 3 ≤ c ∧ 3 ≤ e.op.length then 3 else 2) = k
    have hk2 : 2 ≤ k := by rw [← hk]; split <;> omega
    have hn : ∀ x : Int, szN (.mk x 0 ⟨#[]⟩ e.nodes e.args) ≤ 1 + sz e.nodes + phA e.args := fun x => by
      have := szA_ph e.args
      rw [szN_eq]
      show 1 + 0 + sz e.nodes + szA e.args ≤ _
      omega
    split
    · rename_i hh
      rw [List.length_drop] at hh
      rw [ph, ph, phE, phE]
      simp only [sz_cons, sz_nil, phA, List.length_drop]
      have := hn (if k = 3 then 5 else 4)
      omega
    · have h1 := ph_addN_le (addT r (e.op.drop k)) [.mk (if k = 3 then 5 else 4) 0 ⟨#[]⟩ e.nodes e.args]
      have h2 := ph_addT_le r (e.op.drop k)
      have := hn (if k = 3 then 5 else 4)
      rw [sz_cons, sz_nil] at h1
      rw [List.length_drop] at h2
      have e : ph (e :: r) = 8 + e.op.length + sz e.nodes + phA e.args + ph r := rfl
      rw [e]
      refine Nat.le_trans h1 ?_
      omega
theorem ph_closeB : ∀ (f : Nat) (st : List El) (s : List UInt8), ph (closeB f st s) ≤ ph st + (1 + s.length)
  | 0, st, s => ph_addT_le st s
  | f + 1, st, s => by
    unfold closeB
    split
    · exact ph_addT_le st s
    · split
      · exact ph_addT_le st s
      · rename_i i _
        have h1 := ph_closeB f (close1 (flats i st) s.length).1 (s.drop (close1 (flats i st) s.length).2)
        have h2 := ph_close1 (flats i st) s.length
        have h3 := ph_flats i st
        rw [List.length_drop] at h1
        omega
theorem phA_nameA : ∀ l : List Ar, phA (nameA l) ≤ phA l
  | [] => Nat.le_refl _
  | [a] => by cases a with | mk b n v => simp only [nameA, phA, Ar.name, Ar.value, sz_nil]; omega
  | a :: b :: r => by
    have := phA_nameA (b :: r)
    rw [nameA, phA, phA]; omega
theorem ph_take (st : List El) (k : Nat) (s : List UInt8) (t : Int) : ph (take st k s t) ≤ ph st + (16 + s.length) := by
  have hT := ph_addT_le st s
  have hN : ∀ x : Int, ∀ y : List UInt8, y.length ≤ s.length → ph (addN st [.mk x 0 ⟨y.toArray⟩ [] []]) ≤ ph st + (1 + s.length) := fun x y hy => by
    have := ph_addN_le st [.mk x 0 ⟨y.toArray⟩ [] []]
    rw [sz_cons, sz_nil, szN_eq] at this
    have e : 1 + (Nd.mk x 0 ⟨y.toArray⟩ [] []).text.size + sz (Nd.mk x 0 ⟨y.toArray⟩ [] []).kids + szA (Nd.mk x 0 ⟨y.toArray⟩ [] []).args = 1 + y.length := by simp [Nd.text, Nd.kids, Nd.args, sz_nil, szA_nil, ByteArray.size]
    rw [e] at this; omega
  have hP : ∀ e : El, e.op = s → e.nodes = [] → e.args = [] → ph (push st e) ≤ ph st + (16 + s.length) := fun e h1 h2 h3 => by
    unfold push
    split
    · rw [h1]; omega
    · rw [ph, phE, h1, h2, h3, sz_nil, phA]; omega
  unfold take
  split
  · exact Nat.le_trans (hN 2 s (Nat.le_refl _)) (by omega)
  split
  · exact Nat.le_trans (hN 3 (within s) (by unfold within; rw [List.length_take, List.length_drop]; omega)) (by omega)
  split
  · exact hP _ rfl rfl rfl
  split
  · exact hP _ rfl rfl rfl
  split
  · exact hP _ rfl rfl rfl
  split
  · cases st with
    | nil => simp [bar, ph]
    | cons e r =>
      simp only [bar]
      split
      · rw [ph, ph, phE, phE]
        simp only [phA_append, phA, Ar.name, Ar.value, sz_nil]
        omega
      · omega
  split
  · cases st with
    | nil => simp [equal, ph]
    | cons e r =>
      simp only [equal]
      split
      · omega
      · have := phA_nameA e.args
        rw [ph, ph, phE, phE]
        simp only
        omega
  split
  · cases st with
    | nil => simp [linkEnd, ph]
    | cons e r =>
      simp only [linkEnd]
      split
      · have h1 := ph_addT_le (flatten (e :: r)) s
        have h2 := ph_flatten (e :: r)
        omega
      · omega
  split
  · unfold tagEnd
    split
    · omega
    · rename_i i _
      have h3 := ph_flats i st
      split
      · rename_i e r hq
        rw [hq, ph, phE] at h3
        have := ph_addN_le r [.mk 6 e.tag ⟨#[]⟩ e.nodes []]
        rw [sz_cons, sz_nil, szN_eq] at this
        have e1 : 1 + (Nd.mk 6 e.tag ⟨#[]⟩ e.nodes []).text.size + sz (Nd.mk 6 e.tag ⟨#[]⟩ e.nodes []).kids + szA (Nd.mk 6 e.tag ⟨#[]⟩ e.nodes []).args = 1 + sz e.nodes := by simp [Nd.text, Nd.kids, Nd.args, szA_nil, ByteArray.size]
        rw [e1] at this
        omega
      · simp [ph]
  split
  · have := ph_closeB s.length st s; omega
  · omega
end Go.Proofs.YtdojbnngdlmbgaaGreatDoor.Pa

namespace Go.Proofs.YtdojbnngdlmbgaaGreatDoor.Tr
open Go.RowKit

theorem LRx.deep1 : ∀ {d : Nat} {w : World} {X : Nat → Prop} {v : Value} {l : List Nd}, LRx d w X v l → LRx (d + 1) w X v l
  | 0, _, _, _, _, h => h.elim
  | d + 1, w, X, v, l, h => ⟨h.1, h.2.imp (fun _ h => h) fun g o i hg hi hp n hn => by
    obtain ⟨vk, va, a1, a2, a3, a4, a5, f1, f2, a6, a7⟩ := hp n hn
    exact ⟨vk, va, a1, a2, a3, a4, a5, f1, f2, a6.deep1, ARx'.imp a7 (fun _ h => h) (fun _ _ h => LRx.deep1 h) fun _ _ => rfl⟩⟩
theorem LRx.deep {d d' : Nat} {w : World} {X : Nat → Prop} {v : Value} {l : List Nd} (h : LRx d w X v l) (hd : d ≤ d') : LRx d' w X v l := by
  induction hd with
  | refl => exact h
  | step _ ih => exact ih.deep1
theorem ARx.deep {d d' : Nat} {w : World} {X : Nat → Prop} {v : Value} {l : List Ar} (h : ARx d w X v l) (hd : d ≤ d') : ARx d' w X v l :=
  ARx'.imp h (fun _ h => h) (fun _ _ h => LRx.deep h hd) fun _ _ => rfl
theorem cells_readX {R : Value → List Nd → Prop} {w : World} {X : Nat → Prop} {g : Nat} : ∀ (l : List Nd) (o : Nat), (∀ i n, l[i]? = some n → NdX R w X g (o + i * 5) n) → ∃ xs, Cells R (ARx' R w X) xs l ∧ ∀ j u, xs[j]? = some u → w.cell? ⟨g, o + j, none⟩ = some u
  | [], o, _ => ⟨[], trivial, fun j u h => by simp at h⟩
  | n :: l, o, h => by
    obtain ⟨vk, va, a1, a2, a3, a4, a5, f1, f2, a6, a7⟩ := h 0 n rfl
    obtain ⟨xs, h1, h2⟩ := cells_readX l (o + 5) (fun i m hm => by have := h (i + 1) m (by simpa using hm); rwa [show o + (i + 1) * 5 = o + 5 + i * 5 by omega] at this)
    simp only [Nat.zero_mul, Nat.add_zero] at a1 a2 a3 a4 a5
    refine ⟨_ :: _ :: _ :: _ :: _ :: xs, ⟨rfl, rfl, rfl, f1, f2, a6, a7, h1⟩, fun j u hj => ?_⟩
    match j, hj with
    | 0, hj => simp at hj; subst hj; exact a1
    | 1, hj => simp at hj; subst hj; exact a2
    | 2, hj => simp at hj; subst hj; exact a3
    | 3, hj => simp at hj; subst hj; exact a4
    | 4, hj => simp at hj; subst hj; exact a5
    | j + 5, hj =>
      rw [show o + (j + 5) = o + 5 + j by omega]
      exact h2 j u (by simpa using hj)
end Go.Proofs.YtdojbnngdlmbgaaGreatDoor.Tr
namespace Go.Proofs.YtdojbnngdlmbgaaGreatDoor.Pa
open Go.RowKit Go.Proofs.YtdojbnngdlmbgaaGreatDoor.Tr

/-- A slice in the blocks X that reads as a list, at some depth. -/
def LX (w : World) (X : Nat → Prop) (v : Value) (l : List Nd) : Prop := ∃ d, LRx d w X v l
def AX (w : World) (X : Nat → Prop) (v : Value) (l : List Ar) : Prop := ∃ d, ARx d w X v l
section
variable {w w' : World} {X X' : Nat → Prop} {v : Value} {l : List Nd} {la : List Ar} {xs : List Value}
theorem LX.imp (h : LX w X v l) (hX : ∀ g, X g → X' g) (hk : ∀ g, X g → w'.heap[g]? = w.heap[g]?) : LX w' X' v l := let ⟨d, q⟩ := h; ⟨d, q.imp hX fun _ hp => World.cell?_of_block (hk _ hp)⟩
theorem AX.imp (h : AX w X v la) (hX : ∀ g, X g → X' g) (hk : ∀ g, X g → w'.heap[g]? = w.heap[g]?) : AX w' X' v la := let ⟨d, q⟩ := h; ⟨d, ARx.imp q hX fun _ hp => World.cell?_of_block (hk _ hp)⟩
theorem LX.form (h : LX w X v l) : ∃ A c, v = .slice A l.length c := h.elim fun _ q => q.form
theorem AX.form (h : AX w X v la) : ∃ A c, v = .slice A la.length c := h.elim fun _ q => ARx.form q
theorem LX.one (h : LX w X v l) : v.oneCell' = true := h.elim fun _ q => q.one
theorem AX.one (h : AX w X v la) : v.oneCell' = true := h.elim fun _ q => ARx.one q
theorem LX.sz (h : LX w X v l) : sz l ≤ 16777216 := h.elim fun _ q => q.sz
theorem LX.nil (w : World) (X : Nat → Prop) : LX w X (.slice none 0 0) [] := ⟨1, LRx_nil 0 w X 0 none (Nat.zero_le _)⟩
theorem AX.nil (w : World) (X : Nat → Prop) : AX w X (.slice none 0 0) [] := ⟨1, ARx_nil 1 w X 0 none (Nat.zero_le _)⟩
theorem cells_max : ∀ {xs : List Value} {l : List Nd}, Cells (LX w X) (AX w X) xs l → ∃ d, Cells (LRx d w X) (ARx d w X) xs l
  | [], [], _ => ⟨0, trivial⟩
  | c0 :: c1 :: c2 :: c3 :: c4 :: xs, n :: l, ⟨a0, a1, a2, f1, f2, ⟨d1, h1⟩, ⟨d2, h2⟩, r⟩ => by
    obtain ⟨d3, h3⟩ := cells_max r
    exact ⟨d1 + d2 + d3, a0, a1, a2, f1, f2, h1.deep (by omega), ARx.deep h2 (by omega), h3.imp (fun _ _ q => q.deep (by omega)) (fun _ _ q => ARx.deep q (by omega))⟩
theorem cellsA_max : ∀ {xs : List Value} {l : List Ar}, CellsA (LX w X) xs l → ∃ d, CellsA (LRx d w X) xs l
  | [], [], _ => ⟨0, trivial⟩
  | c0 :: c1 :: c2 :: xs, n :: l, ⟨a0, ⟨d1, h1⟩, ⟨d2, h2⟩, r⟩ => by
    obtain ⟨d3, h3⟩ := cellsA_max r
    exact ⟨d1 + d2 + d3, a0, h1.deep (by omega), h2.deep (by omega), h3.imp (fun _ _ q => q.deep (by omega))⟩
theorem cellsX_one : ∀ {xs : List Value} {l : List Nd}, Cells (LX w X) (AX w X) xs l → ∀ u ∈ xs, u.oneCell' = true
  | [], [], _, u, hu => by cases hu
  | c0 :: c1 :: c2 :: c3 :: c4 :: xs, n :: l, ⟨a0, a1, a2, _, _, a3, a4, r⟩, u, hu => by
    simp only [List.mem_cons] at hu
    rcases hu with rfl | rfl | rfl | rfl | rfl | hu
    · subst a0; rfl
    · subst a1; rfl
    · subst a2; rfl
    · exact a3.one
    · exact a4.one
    · exact cellsX_one r u hu
theorem cellsX_imp (h : Cells (LX w X) (AX w X) xs l) (hX : ∀ g, X g → X' g) (hk : ∀ g, X g → w'.heap[g]? = w.heap[g]?) : Cells (LX w' X') (AX w' X') xs l := h.imp (fun _ _ q => q.imp hX hk) (fun _ _ q => q.imp hX hk)
theorem cellsAX_imp (h : CellsA (LX w X) xs la) (hX : ∀ g, X g → X' g) (hk : ∀ g, X g → w'.heap[g]? = w.heap[g]?) : CellsA (LX w' X') xs la := h.imp (fun _ _ q => q.imp hX hk)
/-- The cells of a list that is read. -/
theorem LX.cells (h : LX w X v l) : ∃ A c ys, v = .slice A l.length c ∧ Cells (LX w X) (AX w X) ys l ∧ (A = none → l = []) ∧ ∀ a, A = some a → ∀ j u, ys[j]? = some u → w.cell? (a.add j) = some u := by
  obtain ⟨d, h⟩ := h
  cases d with
  | zero => exact h.elim
  | succ d =>
    obtain ⟨_, A, c, rfl, _, _, R⟩ := h
    by_cases h0 : 0 < l.length
    · obtain ⟨g, o, rfl, _, q⟩ := R h0
      obtain ⟨ys, h1, h2⟩ := cells_readX l o (fun i n hn => q i (List.getElem?_eq_some_iff.1 hn).1 n hn)
      refine ⟨_, c, ys, rfl, h1.imp (fun _ _ q => ⟨d, q⟩) (fun _ _ q => ⟨d, q⟩), (fun e => nomatch e), fun a e j u hj => ?_⟩
      cases e
      have := h2 j u hj
      unfold Addr.add
      split
      · rename_i e; subst e; exact this
      · exact this
    · have : l = [] := List.length_eq_zero_iff.1 (by omega)
      subst this
      exact ⟨A, c, [], rfl, trivial, fun _ => rfl, fun a _ j u hj => by simp at hj⟩
/-- The arguments of a list that is read, one by one. -/
theorem AX.at (h : AX w X v la) {i : Nat} (hi : i < la.length) : ∃ g o c vn vv, v = .slice (some ⟨g, o, none⟩) la.length c ∧ la.length ≤ c ∧ c ≤ 9223372036854775807 ∧ X g ∧ w.cell? ⟨g, o + i * 3, none⟩ = some (.bool la[i].named) ∧ w.cell? ⟨g, o + i * 3 + 1, none⟩ = some vn ∧ w.cell? ⟨g, o + i * 3 + 2, none⟩ = some vv ∧ LX w X vn la[i].name ∧ LX w X vv la[i].value := by
  obtain ⟨d, _, A, c, rfl, h2, h3, R⟩ := h
  obtain ⟨g, o, rfl, hg, q⟩ := R (by omega)
  obtain ⟨vn, vv, a1, a2, a3, a4, a5⟩ := q i hi la[i] (List.getElem?_eq_getElem hi)
  exact ⟨g, o, c, vn, vv, rfl, h2, by simpa [maxLen] using h3, hg, a1, a2, a3, ⟨d, a4⟩, ⟨d, a5⟩⟩
end
/-- The blocks that a list of values owns. -/
def ob (v : Value) : List Nat := v.ownBlock.toList
theorem ob_mem {v : Value} {g : Nat} : g ∈ ob v ↔ v.ownBlock = some g := by simp [ob]
/-- A row of nodes that grows; its parts lie in X. -/
def RN (lo : Nat) (w : World) (X : Nat → Prop) (v : Value) (l : List Nd) : Prop :=
  ∃ ys, w.ownsRow lo 62 5 v l.length ys ∧ Cells (LX w X) (AX w X) ys l
/-- A row of arguments, the last of which has a value that grows. -/
def RA (lo : Nat) (w : World) (X : Nat → Prop) (v : Value) (l : List Ar) (m : List Nat) : Prop :=
  (v = .slice none 0 0 ∧ l = [] ∧ m = []) ∨
  ∃ f a zs vn vv, l = f ++ [a] ∧ w.ownsRow lo 59 3 v (f.length + 1) (zs ++ [.bool a.named, vn, vv]) ∧ CellsA (LX w X) zs f ∧ LX w X vn a.name ∧ RN lo w X vv a.value ∧ m = ob v ++ ob vv
/-- An element's five cells. -/
def EM (lo : Nat) (w : World) (X : Nat → Prop) (c : List Value) (e : El) (m : List Nat) : Prop :=
  ∃ vn va m2, c = [.int .i64 e.kind, .string ⟨e.op.toArray⟩, .int .i64 e.tag, vn, va] ∧ RN lo w X vn e.nodes ∧ RA lo w X va e.args m2 ∧ m = ob vn ++ m2
def ES (lo : Nat) (w : World) (X : Nat → Prop) : List El → List Value → List Nat → Prop
  | [], xs, m => xs = [] ∧ m = []
  | e :: st, xs, m => ∃ ys c m1 m2, xs = ys ++ c ∧ ES lo w X st ys m1 ∧ EM lo w X c e m2 ∧ m = m2 ++ m1
/-- The blocks that stay: those from lo on that do not grow. -/
def Xm (lo : Nat) (w : World) (M : List Nat) : Nat → Prop := fun g => lo ≤ g ∧ g < w.heap.size ∧ g ∉ M
/-- The parser at block gp, whose stack is st; M are the blocks that can change. -/
def St (lo gp : Nat) (w : World) (M : List Nat) (st : List El) : Prop :=
  ∃ gs cap xs m, M = gp :: gs :: m ∧ M.Nodup ∧ lo ≤ gp ∧ w.heap[gp]? = some (.cells #[.slice (some ⟨gs, 0, none⟩) st.length cap] 70) ∧
    w.ownsRow lo 67 5 (.slice (some ⟨gs, 0, none⟩) st.length cap) st.length xs ∧ ES lo w (Xm lo w M) st xs m
section
variable {lo gp : Nat} {w w' : World} {X X' : Nat → Prop} {v : Value} {l : List Nd} {la : List Ar} {xs : List Value} {m : List Nat} {e : El} {st : List El} {M M' : List Nat}
theorem RN.keep (h : RN lo w X v l) (hX : ∀ g, X g → X' g) (hk : ∀ g, X g → w'.heap[g]? = w.heap[g]?) (hm : ∀ g ∈ ob v, w'.heap[g]? = w.heap[g]?) : RN lo w' X' v l := by
  obtain ⟨ys, h1, h2⟩ := h
  exact ⟨ys, own_keep h1 (fun g hg => hm g (ob_mem.2 hg)), cellsX_imp h2 hX hk⟩
theorem RN.lt (h : RN lo w X v l) : ∀ g ∈ ob v, lo ≤ g ∧ g < w.heap.size := by
  obtain ⟨ys, h1, h2⟩ := h
  exact fun g hg => own_lt h1 g (ob_mem.1 hg)
theorem RN.form (h : RN lo w X v l) : ∃ A c, v = .slice A l.length c ∧ l.length ≤ c ∧ c ≤ 9223372036854775807 := by
  obtain ⟨ys, h1, _⟩ := h
  rcases h1.2 with ⟨rfl, h0⟩ | ⟨g, cap, cur, rfl, _, _, h2, h3, _⟩
  · exact ⟨none, 0, by rw [h0], by omega, by omega⟩
  · exact ⟨_, cap, rfl, h2, by simpa [maxLen] using h3⟩
theorem RN.nil (lo : Nat) (w : World) (X : Nat → Prop) : RN lo w X (.slice none 0 0) [] := ⟨[], ownNil w lo _ 5, trivial⟩
/-- A row that will no longer grow. -/
theorem RN.lx (h : RN lo w X v l) (hz : Tr.sz l ≤ 16777216) (hX : ∀ g, X g → X' g) (hm : ∀ g ∈ ob v, X' g) : LX w X' v l := by
  obtain ⟨ys, h1, h2⟩ := h
  obtain ⟨d, h3⟩ := cells_max h2
  exact ⟨d + 1, own_rx h1 (h3.imp (fun _ _ q => q.imp hX fun _ _ => rfl) (fun _ _ q => ARx.imp q hX fun _ _ => rfl)) hz (fun g hg => hm g (ob_mem.2 hg))⟩
theorem RA.keep (h : RA lo w X v la m) (hX : ∀ g, X g → X' g) (hk : ∀ g, X g → w'.heap[g]? = w.heap[g]?) (hm : ∀ g ∈ m, w'.heap[g]? = w.heap[g]?) : RA lo w' X' v la m := by
  rcases h with h | ⟨f, a, zs, vn, vv, rfl, h1, h2, h3, h4, rfl⟩
  · exact .inl h
  · exact .inr ⟨f, a, zs, vn, vv, rfl, own_keep h1 (fun g hg => hm g (by simp [ob_mem, hg])), cellsAX_imp h2 hX hk, h3.imp hX hk, h4.keep hX hk (fun g hg => hm g (by simp [hg])), rfl⟩
theorem RA.lt (h : RA lo w X v la m) : ∀ g ∈ m, lo ≤ g ∧ g < w.heap.size := by
  rcases h with ⟨_, _, rfl⟩ | ⟨f, a, zs, vn, vv, rfl, h1, h2, h3, h4, rfl⟩
  · simp
  · intro g hg
    rcases List.mem_append.1 hg with hg | hg
    · exact own_lt h1 g (ob_mem.1 hg)
    · exact h4.lt g hg
theorem RA.form (h : RA lo w X v la m) : ∃ A c, v = .slice A la.length c ∧ la.length ≤ c ∧ c ≤ 9223372036854775807 := by
  rcases h with ⟨rfl, rfl, _⟩ | ⟨f, a, zs, vn, vv, rfl, h1, _⟩
  · exact ⟨none, 0, rfl, by simp, by omega⟩
  · rcases h1.2 with ⟨_, h0⟩ | ⟨g, cap, cur, rfl, _, _, h2, h3, _⟩
    · omega
    · exact ⟨some ⟨g, 0, none⟩, cap, by simp, by simpa using h2, by simpa [maxLen] using h3⟩
theorem RA.ax (h : RA lo w X v la m) (hz : phA la ≤ 16777216) (hX : ∀ g, X g → X' g) (hm : ∀ g ∈ m, X' g) : AX w X' v la := by
  rcases h with ⟨rfl, rfl, rfl⟩ | ⟨f, a, zs, vn, vv, rfl, h1, h2, h3, h4, rfl⟩
  · exact AX.nil _ _
  · have hz' := hz
    rw [phA_append] at hz'
    simp only [phA] at hz'
    have q1 : CellsA (LX w X') (zs ++ [.bool a.named, vn, vv]) (f ++ [a]) := CellsA.append (cellsAX_imp h2 hX fun _ _ => rfl) ⟨rfl, h3.imp hX fun _ _ => rfl, h4.lx (by omega) hX (fun g hg => hm g (by simp [hg])), trivial⟩
    obtain ⟨d, q2⟩ := cellsA_max q1
    exact ⟨d, own_rxA (by rw [List.length_append]; exact h1) q2 (Nat.le_trans (szA_ph _) hz) (fun g hg => hm g (by simp [ob_mem, hg]))⟩
theorem EM.keep {c : List Value} (h : EM lo w X c e m) (hX : ∀ g, X g → X' g) (hk : ∀ g, X g → w'.heap[g]? = w.heap[g]?) (hm : ∀ g ∈ m, w'.heap[g]? = w.heap[g]?) : EM lo w' X' c e m := by
  obtain ⟨vn, va, m2, h1, h2, h3, rfl⟩ := h
  exact ⟨vn, va, m2, h1, h2.keep hX hk (fun g hg => hm g (by simp [hg])), h3.keep hX hk (fun g hg => hm g (by simp [hg])), rfl⟩
theorem EM.lt {c : List Value} (h : EM lo w X c e m) : ∀ g ∈ m, lo ≤ g ∧ g < w.heap.size := by
  obtain ⟨vn, va, m2, h1, h2, h3, rfl⟩ := h
  intro g hg
  rcases List.mem_append.1 hg with hg | hg
  · exact h2.lt g hg
  · exact h3.lt g hg
theorem EM.len {c : List Value} (h : EM lo w X c e m) : c.length = 5 := by
  obtain ⟨vn, va, m2, rfl, _⟩ := h; rfl
theorem EM.one {c : List Value} (h : EM lo w X c e m) : ∀ u ∈ c, u.oneCell' = true := by
  obtain ⟨vn, va, m2, rfl, h2, h3, _⟩ := h
  obtain ⟨A, c1, rfl, _⟩ := h2.form
  obtain ⟨A, c2, rfl, _⟩ := h3.form
  intro u hu
  simp only [List.mem_cons, List.not_mem_nil, or_false] at hu
  rcases hu with rfl | rfl | rfl | rfl | rfl <;> rfl
theorem ES.keep : ∀ {st : List El} {xs : List Value} {m : List Nat}, ES lo w X st xs m → (∀ g, X g → X' g) → (∀ g, X g → w'.heap[g]? = w.heap[g]?) → (∀ g ∈ m, w'.heap[g]? = w.heap[g]?) → ES lo w' X' st xs m
  | [], _, _, h, _, _, _ => h
  | e :: st, _, _, ⟨ys, c, m1, m2, rfl, h1, h2, rfl⟩, hX, hk, hm => ⟨ys, c, m1, m2, rfl, h1.keep hX hk (fun g hg => hm g (by simp [hg])), h2.keep hX hk (fun g hg => hm g (by simp [hg])), rfl⟩
theorem ES.lt : ∀ {st : List El} {xs : List Value} {m : List Nat}, ES lo w X st xs m → ∀ g ∈ m, lo ≤ g ∧ g < w.heap.size
  | [], _, _, ⟨_, rfl⟩ => by simp
  | e :: st, _, _, ⟨ys, c, m1, m2, rfl, h1, h2, rfl⟩ => fun g hg => (List.mem_append.1 hg).elim (h2.lt g) (h1.lt g)
theorem ES.len : ∀ {st : List El} {xs : List Value} {m : List Nat}, ES lo w X st xs m → xs.length = st.length * 5
  | [], _, _, ⟨rfl, _⟩ => by simp
  | e :: st, _, _, ⟨ys, c, m1, m2, rfl, h1, h2, rfl⟩ => by rw [List.length_append, h1.len, h2.len, List.length_cons]; omega
/-- What a call leaves as it was. -/
structure Fr (lo : Nat) (w : World) (M : List Nat) (w' : World) (M' : List Nat) : Prop where
  bl : Below lo w w'
  kp : ∀ g, g < w.heap.size → g ∉ M → w'.heap[g]? = w.heap[g]?
  ms : ∀ g, g < w.heap.size → g ∉ M → g ∉ M'
theorem Fr.refl (lo : Nat) (w : World) (M : List Nat) : Fr lo w M w M := ⟨Below.refl _ _, fun _ _ _ => rfl, fun _ _ h => h⟩
theorem Fr.trans {w'' : World} {M'' : List Nat} (h : Fr lo w M w' M') (h2 : Fr lo w' M' w'' M'') : Fr lo w M w'' M'' :=
  ⟨h.bl.trans h2.bl, fun g hg hn => (h2.kp g (Nat.lt_of_lt_of_le hg h.bl.size) (h.ms g hg hn)).trans (h.kp g hg hn), fun g hg hn => h2.ms g (Nat.lt_of_lt_of_le hg h.bl.size) (h.ms g hg hn)⟩
theorem Fr.x (h : Fr lo w M w' M') : ∀ g, Xm lo w M g → Xm lo w' M' g := fun g ⟨h1, h2, h3⟩ => ⟨h1, Nat.lt_of_lt_of_le h2 h.bl.size, h.ms g h2 h3⟩
theorem Fr.k (h : Fr lo w M w' M') : ∀ g, Xm lo w M g → w'.heap[g]? = w.heap[g]? := fun g ⟨_, h2, h3⟩ => h.kp g h2 h3
theorem Fr.lx (h : Fr lo w M w' M') (q : LX w (Xm lo w M) v l) : LX w' (Xm lo w' M') v l := q.imp h.x h.k
theorem Fr.ax (h : Fr lo w M w' M') (q : AX w (Xm lo w M) v la) : AX w' (Xm lo w' M') v la := q.imp h.x h.k
theorem St.lt (h : St lo gp w M st) : ∀ g ∈ M, lo ≤ g ∧ g < w.heap.size := by
  obtain ⟨gs, cap, xs, m, rfl, _, h1, h2, h3, h4⟩ := h
  intro g hg
  simp only [List.mem_cons] at hg
  rcases hg with rfl | rfl | hg
  · exact ⟨h1, (Array.getElem?_eq_some_iff.1 h2).1⟩
  · exact own_lt h3 g rfl
  · exact h4.lt g hg
/-- What touches none of the blocks that can change. -/
theorem St.keep (h : St lo gp w M st) (hb : Below w.heap.size w w') : St lo gp w' M st ∧ Fr lo w M w' M := by
  have hlt := h.lt
  obtain ⟨gs, cap, xs, m, rfl, hn, h1, h2, h3, h4⟩ := h
  have hlo : lo ≤ w.heap.size := Nat.le_trans (hlt gp (by simp)).1 (Nat.le_of_lt (hlt gp (by simp)).2)
  have k : ∀ g, g < w.heap.size → w'.heap[g]? = w.heap[g]? := fun g hg => hb.block g hg
  refine ⟨⟨gs, cap, xs, m, rfl, hn, h1, (k gp (hlt gp (by simp)).2).trans h2, own_keep h3 (fun g hg => ?_), h4.keep (fun g hg => ⟨hg.1, Nat.lt_of_lt_of_le hg.2.1 hb.size, hg.2.2⟩) (fun g hg => k g hg.2.1) (fun g hg => k g (h4.lt g hg).2)⟩, hb.mono hlo, fun g hg _ => k g hg, fun _ _ h => h⟩
  exact k g (own_lt h3 g hg).2
end
end Go.Proofs.YtdojbnngdlmbgaaGreatDoor.Pa

namespace Go.Proofs.YtdojbnngdlmbgaaGreatDoor.Pa
open Go.RowKit Go.Proofs.YtdojbnngdlmbgaaGreatDoor.Tr

structure Opn (lo gp : Nat) (w : World) (M : List Nat) (e : El) (r : List El) (gs cap : Nat) (ys : List Value) (vn va : Value) (m1 m2 : List Nat) : Prop where
  hM : M = gp :: gs :: (ob vn ++ m2 ++ m1)
  nd : M.Nodup
  lg : lo ≤ gp
  hp : w.heap[gp]? = some (.cells #[.slice (some ⟨gs, 0, none⟩) (r.length + 1) cap] 70)
  row : w.ownsRow lo 67 5 (.slice (some ⟨gs, 0, none⟩) (r.length + 1) cap) (r.length + 1) (ys ++ [.int .i64 e.kind, .string ⟨e.op.toArray⟩, .int .i64 e.tag, vn, va])
  es : ES lo w (Xm lo w M) r ys m1
  rn : RN lo w (Xm lo w M) vn e.nodes
  ra : RA lo w (Xm lo w M) va e.args m2
section
variable {lo gp : Nat} {w w' : World} {M : List Nat} {e : El} {r : List El} {gs cap : Nat} {ys : List Value} {vn va : Value} {m1 m2 : List Nat}
theorem St.op (h : St lo gp w M (e :: r)) : ∃ gs cap ys vn va m1 m2, Opn lo gp w M e r gs cap ys vn va m1 m2 := by
  obtain ⟨gs, cap, xs, m, hM, hn, h1, h2, h3, ys, c, m1, m2, rfl, h4, ⟨vn, va, m3, rfl, h5, h6, rfl⟩, rfl⟩ := h
  exact ⟨gs, cap, ys, vn, va, m1, m3, hM, hn, h1, h2, h3, h4, h5, h6⟩
theorem Opn.st (h : Opn lo gp w M e r gs cap ys vn va m1 m2) : St lo gp w M (e :: r) :=
  ⟨gs, cap, _, _, h.hM, h.nd, h.lg, h.hp, h.row, ys, _, m1, _, rfl, h.es, ⟨vn, va, m2, rfl, h.rn, h.ra, rfl⟩, rfl⟩
theorem Opn.keep (h : Opn lo gp w M e r gs cap ys vn va m1 m2) (hb : Below w.heap.size w w') : Opn lo gp w' M e r gs cap ys vn va m1 m2 := by
  have hlt := h.st.lt
  have k : ∀ g, g < w.heap.size → w'.heap[g]? = w.heap[g]? := fun g hg => hb.block g hg
  have x : ∀ g, Xm lo w M g → Xm lo w' M g := fun g hg => ⟨hg.1, Nat.lt_of_lt_of_le hg.2.1 hb.size, hg.2.2⟩
  have xk : ∀ g, Xm lo w M g → w'.heap[g]? = w.heap[g]? := fun g hg => k g hg.2.1
  exact ⟨h.hM, h.nd, h.lg, (k gp (hlt gp (by rw [h.hM]; simp)).2).trans h.hp, own_keep h.row (fun g hg => k g (own_lt h.row g hg).2), h.es.keep x xk (fun g hg => k g (h.es.lt g hg).2), h.rn.keep x xk (fun g hg => k g (h.rn.lt g hg).2), h.ra.keep x xk (fun g hg => k g (h.ra.lt g hg).2)⟩
theorem Opn.ylen (h : Opn lo gp w M e r gs cap ys vn va m1 m2) : ys.length = r.length * 5 := h.es.len
theorem Opn.cs (h : Opn lo gp w M e r gs cap ys vn va m1 m2) : ∃ cs, w.heap[gs]? = some (.cells cs 67) ∧ cs.size = cap * 5 ∧ r.length + 1 ≤ cap ∧ cap ≤ 9223372036854775807 ∧ cs.toList.take ((r.length + 1) * 5) = ys ++ [.int .i64 e.kind, .string ⟨e.op.toArray⟩, .int .i64 e.tag, vn, va] := by
  rcases h.row.2 with ⟨q, _⟩ | ⟨g, c, cur, q, _, h1, h2, h3, h4, h5⟩
  · cases q
  · injection q with q1 q2 q3
    injection q1 with q1
    injection q1 with q1
    subst q1 q3
    exact ⟨cur, h1, h4, h2, by simpa [maxLen] using h3, h5⟩
theorem Opn.cell (h : Opn lo gp w M e r gs cap ys vn va m1 m2) (j : Nat) (u : Value) (hj : [Value.int .i64 e.kind, .string ⟨e.op.toArray⟩, .int .i64 e.tag, vn, va][j]? = some u) : w.cell? ⟨gs, r.length * 5 + j, none⟩ = some u := by
  obtain ⟨cs, h1, _, _, _, h5⟩ := h.cs
  have := cell_row h1 h5 (j := r.length * 5 + j) (u := u) (by rw [← h.ylen, List.getElem?_append_right (by omega)]; simpa using hj)
  rwa [Nat.zero_add] at this
theorem Opn.fz (h : Opn lo gp w M e r gs cap ys vn va m1 m2) (j : Nat) : w.frozen? ⟨gs, j, none⟩ = false := by
  obtain ⟨cs, h1, _⟩ := h.cs
  simp [World.frozen?, h1]
theorem Opn.pcell (h : Opn lo gp w M e r gs cap ys vn va m1 m2) : w.cell? ⟨gp, 0, none⟩ = some (.slice (some ⟨gs, 0, none⟩) (r.length + 1) cap) := cell_heap h.hp rfl
/-- Whatever becomes of the top's rows, what stays stays. -/
theorem Opn.x2 (h : Opn lo gp w M e r gs cap ys vn va m1 m2) (hs : w.heap.size ≤ w'.heap.size) {n2 : List Nat} (hnew : ∀ g ∈ n2, g ∈ ob vn ++ m2 ∨ w.heap.size ≤ g) : ∀ g, Xm lo w M g → Xm lo w' (gp :: gs :: (n2 ++ m1)) g := by
  rintro g ⟨h1, h2, h3⟩
  refine ⟨h1, by omega, fun hg => h3 ?_⟩
  rw [h.hM]
  simp only [List.mem_cons, List.mem_append] at hg ⊢
  rcases hg with hg | hg | hg | hg
  · exact .inl hg
  · exact .inr (.inl hg)
  · rcases hnew g hg with q | q
    · exact .inr (.inr (.inl (List.mem_append.1 q)))
    · omega
  · exact .inr (.inr (.inr hg))
theorem Opn.nd2 (h : Opn lo gp w M e r gs cap ys vn va m1 m2) {n2 : List Nat} (hnd : n2.Nodup) (hnew : ∀ g ∈ n2, g ∈ ob vn ++ m2 ∨ w.heap.size ≤ g) : (gp :: gs :: (n2 ++ m1)).Nodup := by
  have hlt := h.st.lt
  have nd := h.nd
  rw [h.hM] at nd hlt
  simp only [List.nodup_cons, List.nodup_append, List.mem_cons, not_or] at nd ⊢
  obtain ⟨⟨a1, a2⟩, a3, ⟨a4, a5, a6⟩⟩ := nd
  have old : ∀ g ∈ n2, g ∈ gp :: gs :: m1 → False := by
    intro g hg hm
    rcases hnew g hg with q | q
    · simp only [List.mem_cons] at hm
      rcases hm with rfl | rfl | hm
      · exact a2 (List.mem_append.2 (.inl q))
      · exact a3 (List.mem_append.2 (.inl q))
      · exact a6 g q g hm rfl
    · have := (hlt g (by simp only [List.mem_cons, List.mem_append] at hm ⊢; rcases hm with hm | hm | hm; exact .inl hm; exact .inr (.inl hm); exact .inr (.inr (.inr hm)))).2
      omega
  refine ⟨⟨a1, fun hg => ?_⟩, fun hg => ?_, hnd, a5, fun a ha b hb e => ?_⟩
  · rcases List.mem_append.1 hg with q | q
    · exact old gp q (by simp)
    · exact a2 (List.mem_append.2 (.inr q))
  · rcases List.mem_append.1 hg with q | q
    · exact old gs q (by simp)
    · exact a3 (List.mem_append.2 (.inr q))
  · subst e; exact old a ha (by simp [hb])
/-- The stack with another top in the place of this one. -/
theorem Opn.re (h : Opn lo gp w M e r gs cap ys vn va m1 m2) {e2 : El} {vn2 va2 : Value} {m22 : List Nat} (hbl : Below lo w w') (hk : ∀ g, g < w.heap.size → g ≠ gs → g ∉ ob vn ++ m2 → w'.heap[g]? = w.heap[g]?)
    (hrow : w'.ownsRow lo 67 5 (.slice (some ⟨gs, 0, none⟩) (r.length + 1) cap) (r.length + 1) (ys ++ [.int .i64 e2.kind, .string ⟨e2.op.toArray⟩, .int .i64 e2.tag, vn2, va2]))
    (hnew : ∀ g ∈ ob vn2 ++ m22, g ∈ ob vn ++ m2 ∨ w.heap.size ≤ g) (hnd : (ob vn2 ++ m22).Nodup)
    (hrn : RN lo w' (Xm lo w' (gp :: gs :: (ob vn2 ++ m22 ++ m1))) vn2 e2.nodes) (hra : RA lo w' (Xm lo w' (gp :: gs :: (ob vn2 ++ m22 ++ m1))) va2 e2.args m22) :
    St lo gp w' (gp :: gs :: (ob vn2 ++ m22 ++ m1)) (e2 :: r) ∧ Fr lo w M w' (gp :: gs :: (ob vn2 ++ m22 ++ m1)) := by
  have hlt := h.st.lt
  have nd := h.nd
  have hx := h.x2 hbl.size hnew
  have hM := h.hM
  rw [hM] at nd
  simp only [List.nodup_cons, List.nodup_append, List.mem_cons, not_or] at nd
  obtain ⟨⟨a1, a2⟩, a3, ⟨a4, a5, a6⟩⟩ := nd
  have kM : ∀ g, g < w.heap.size → g ∉ M → w'.heap[g]? = w.heap[g]? := fun g hg hn => hk g hg (fun e => hn (by rw [hM, e]; simp)) (fun q => hn (by rw [hM]; simp only [List.mem_cons, List.mem_append]; exact .inr (.inr (.inl (List.mem_append.1 q)))))
  have es2 : ES lo w' (Xm lo w' (gp :: gs :: (ob vn2 ++ m22 ++ m1))) r ys m1 := h.es.keep hx (fun g hg => kM g hg.2.1 hg.2.2) (fun g hg => hk g (h.es.lt g hg).2 (fun e => a3 (by rw [← e]; exact List.mem_append.2 (.inr hg))) (fun q => a6 g q g hg rfl))
  refine ⟨Opn.st ⟨rfl, h.nd2 hnd hnew, h.lg, (hk gp (hlt gp (by rw [hM]; simp)).2 a1 (fun q => a2 (List.mem_append.2 (.inl q)))).trans h.hp, hrow, es2, hrn, hra⟩, hbl, kM, fun g hg hn => ?_⟩
  by_cases hlo : lo ≤ g
  · exact (hx g ⟨hlo, hg, hn⟩).2.2
  · intro hm
    simp only [List.mem_cons, List.mem_append] at hm
    rcases hm with hm | hm | hm | hm
    · exact hn (by rw [hM, hm]; simp)
    · exact hn (by rw [hM, hm]; simp)
    · rcases hnew g (List.mem_append.2 hm) with q | q
      · exact hn (by rw [hM]; simp only [List.mem_cons, List.mem_append]; exact .inr (.inr (.inl (List.mem_append.1 q))))
      · omega
    · exact hn (by rw [hM]; simp only [List.mem_cons, List.mem_append]; exact .inr (.inr (.inr hm)))
/-- The cells of the top, one of them set. -/
theorem Opn.rowSet (h : Opn lo gp w M e r gs cap ys vn va m1 m2) (hk : w'.heap[gs]? = w.heap[gs]?) (j : Nat) (u : Value) : (w'.setCell ⟨gs, r.length * 5 + j, none⟩ u).ownsRow lo 67 5 (.slice (some ⟨gs, 0, none⟩) (r.length + 1) cap) (r.length + 1) (ys ++ [Value.int .i64 e.kind, .string ⟨e.op.toArray⟩, .int .i64 e.tag, vn, va].set j u) := by
  have q := own_setR (own_keep (w' := w') h.row (fun g hg => by cases hg; exact hk)) (r.length * 5 + j) u
  rw [← h.ylen, List.set_append_right _ _ (by omega)] at q
  rw [← h.ylen]
  simpa using q
end
/-- append(v, u...): v a row that grows, u a list that is read. -/
theorem RN.app {lo : Nat} {w : World} {X : Nat → Prop} {v u : Value} {l k : List Nd} (ty : TypeId) (h : RN lo w X v l) (hu : LX w X u k) (hl : l.length ≤ 33554432) (hlo : lo ≤ w.heap.size) :
    ∃ v' w', (Builtin.append_ #[27, 27] ty #[v, u]).run Tryz.prog w = .ok v' w' ∧ w.grownBy w' v.ownBlock ∧ (v'.ownBlock = v.ownBlock ∨ v'.ownBlock = some w.heap.size) ∧ ∃ ys, w'.ownsRow lo 62 5 v' (l ++ k).length ys ∧ Cells (LX w X) (AX w X) ys (l ++ k) := by
  have hlen := Nat.le_trans (sz_len k) hu.sz
  obtain ⟨A, c, zs, rfl, hc, h0, hr⟩ := hu.cells
  obtain ⟨ys, h1, h2⟩ := h
  obtain ⟨i0, hi, hz0, hz1, hz2⟩ := info_parts infoN
  cases A with
  | none =>
    have := h0 rfl
    subst this
    exact ⟨v, w, run_app0 w lo _ _ _ i0 5 Tryz.underlying27 hi v l.length c ys h1, ⟨rfl, rfl, rfl, Nat.le_refl _, fun _ _ _ => rfl⟩, .inl rfl, ys, by simpa using h1, by simpa using h2⟩
  | some a =>
    obtain ⟨v', w', r1, r2, r3, _, r5⟩ := run_append_own_at (P := Tryz.prog) w lo 27 ty 62 i0 _ 5 80 Tryz.underlying27 hi hz0 hz1 hz2 rfl (by omega) v l.length ys h1 a k.length c zs hc.length (hr a rfl) (cellsX_one hc) (by simp only [maxLen]; omega) (by omega) hlo
    exact ⟨v', w', r1, r3, r5, ys ++ zs, by rw [List.length_append]; exact r2, h2.append hc⟩
theorem wpList_app {P : Program} {ops : Array Oper} {rest : List Oper} {o : Oper} {a : Act} {Q : Exit → Act → World → Prop} {w w' : World} {v u v' : Value} (hgd : o.guard = none) (s x : Operand) (t : TypeId)
    (ho : o.op = .call { callee := .builtin .append, args := #[s, x], argTypes := #[t, t] }) (hs : a.eval s = v) (hx : a.eval x = u) (hr : (Builtin.append_ #[t, t] o.type #[v, u]).run P w = .ok v' w') (h : wpList P ops Q rest (a.put o.dst v') w') : wpList P ops Q (o :: rest) a w := by
  refine wpList_plain hgd fun K hK => ?_
  unfold Oper.wp execOp
  simp only [ho, resolve, invoke, builtin, Sem.run_bind, Sem.run_pure, Result.andThen_ok, List.map_toArray, List.map_cons, List.map_nil, hs, hx, hr]
  exact hK _ _ h
theorem ob_nodup (v : Value) : (ob v).Nodup := by unfold ob; cases v.ownBlock <;> simp
theorem Below.grownX {lo : Nat} {w w' : World} {row : Option Nat} (h : w.grownBy w' row) (hr : ∀ g, row = some g → lo ≤ g) (hlo : lo ≤ w.heap.size) : Below lo w w' := (Below.refl lo w).grown h hlo hr
end Go.Proofs.YtdojbnngdlmbgaaGreatDoor.Pa

namespace Go.Proofs.YtdojbnngdlmbgaaGreatDoor.Pa
open Go.RowKit Go.Proofs.YtdojbnngdlmbgaaGreatDoor.Tr

theorem own_form {w : World} {base : Nat} {t : TypeId} {size : Nat} {v : Value} {n : Nat} {xs : List Value} (h : w.ownsRow base t size v n xs) : ∃ A c, v = .slice A n c ∧ n ≤ c ∧ c ≤ 9223372036854775807 := by
  rcases h.2 with ⟨rfl, rfl⟩ | ⟨g, cap, cur, rfl, _, _, h2, h3, _⟩
  · exact ⟨none, 0, rfl, Nat.le_refl _, by omega⟩
  · exact ⟨_, cap, rfl, h2, by simpa [maxLen] using h3⟩
section
variable {lo gp : Nat} {w w2 : World} {M : List Nat} {e : El} {r : List El} {gs cap : Nat} {ys : List Value} {vn va v' : Value} {m1 m2 : List Nat}
structure Dj (gp gs : Nat) (vn : Value) (m1 m2 : List Nat) : Prop where
  gps : gp ≠ gs
  s2 : ∀ g ∈ ob vn ++ m2, g ≠ gs ∧ g ≠ gp
  s1 : ∀ g ∈ m1, g ≠ gs ∧ g ≠ gp
  d1 : ∀ g ∈ ob vn ++ m2, g ∉ m1
  d2 : ∀ g ∈ ob vn, g ∉ m2
  n2 : m2.Nodup
  n1 : m1.Nodup
theorem Opn.dj (h : Opn lo gp w M e r gs cap ys vn va m1 m2) : Dj gp gs vn m1 m2 := by
  have nd := h.nd
  rw [h.hM] at nd
  simp only [List.nodup_cons, List.nodup_append, List.mem_cons, not_or] at nd
  obtain ⟨⟨a1, a2⟩, a3, ⟨⟨b1, b2, b3⟩, a5, a6⟩⟩ := nd
  refine ⟨a1, fun g hg => ⟨fun q => a3 ?_, fun q => a2 ?_⟩, fun g hg => ⟨fun q => a3 ?_, fun q => a2 ?_⟩, fun g hg hm => a6 g hg g hm rfl, fun g hg hm => b3 g hg g hm rfl, b2, a5⟩
  · rw [← q]; exact List.mem_append.2 (.inl hg)
  · rw [← q]; exact List.mem_append.2 (.inl hg)
  · rw [← q]; exact List.mem_append.2 (.inr hg)
  · rw [← q]; exact List.mem_append.2 (.inr hg)
theorem Opn.glt (h : Opn lo gp w M e r gs cap ys vn va m1 m2) : lo ≤ gs ∧ gs < w.heap.size := h.st.lt gs (by rw [h.hM]; simp)
theorem Opn.lolt (h : Opn lo gp w M e r gs cap ys vn va m1 m2) : lo ≤ w.heap.size := Nat.le_trans h.glt.1 (Nat.le_of_lt h.glt.2)
theorem Opn.notM (h : Opn lo gp w M e r gs cap ys vn va m1 m2) {g : Nat} (hg : g ∉ M) : g ≠ gs ∧ g ≠ gp ∧ g ∉ ob vn ++ m2 := by
  rw [h.hM] at hg
  simp only [List.mem_cons, List.mem_append, not_or] at hg ⊢
  exact ⟨hg.2.1, hg.1, hg.2.2.1⟩
/-- Nodes behind those of the top, which has no arguments. -/
theorem Opn.addNodes (h : Opn lo gp w M e r gs cap ys vn va m1 m2) {l : List Nd} (hg : w.grownBy w2 vn.ownBlock) (ho : v'.ownBlock = vn.ownBlock ∨ v'.ownBlock = some w.heap.size) {zs : List Value} (hy : w2.ownsRow lo 62 5 v' (e.nodes ++ l).length zs) (hc : Cells (LX w (Xm lo w M)) (AX w (Xm lo w M)) zs (e.nodes ++ l)) :
    ∃ M', St lo gp (w2.setCell ⟨gs, r.length * 5 + 3, none⟩ v') M' ({ e with nodes := e.nodes ++ l } :: r) ∧ Fr lo w M (w2.setCell ⟨gs, r.length * 5 + 3, none⟩ v') M' := by
  have dj := h.dj
  have glt := h.glt
  have hsz : w.heap.size ≤ (w2.setCell ⟨gs, r.length * 5 + 3, none⟩ v').heap.size := by rw [World.size_setCell]; exact hg.size
  have hk : ∀ g, g < w.heap.size → g ≠ gs → g ∉ ob vn → (w2.setCell ⟨gs, r.length * 5 + 3, none⟩ v').heap[g]? = w.heap[g]? := fun g h1 h2 h3 => (heap_set_ne (fun q => h2 q.symm)).trans (hg.block g h1 (fun q => h3 (ob_mem.2 q.symm)))
  have hob : ∀ g ∈ ob v', g ∈ ob vn ∨ w.heap.size = g := fun g q => by
    rw [ob_mem] at q
    rcases ho with e | e <;> rw [e] at q
    · exact .inl (ob_mem.2 q)
    · exact .inr (Option.some.inj q)
  have hnew : ∀ g ∈ ob v' ++ m2, g ∈ ob vn ++ m2 ∨ w.heap.size ≤ g := fun g q => by
    rcases List.mem_append.1 q with q | q
    · rcases hob g q with q | q
      · exact .inl (List.mem_append.2 (.inl q))
      · exact .inr (Nat.le_of_eq q)
    · exact .inl (List.mem_append.2 (.inr q))
  have hnd : (ob v' ++ m2).Nodup := List.nodup_append.2 ⟨ob_nodup _, dj.n2, fun a ha b hb e => by
    subst e
    rcases hob a ha with q | q
    · exact dj.d2 a q hb
    · have := (h.ra.lt a hb).2; omega⟩
  have hx := h.x2 hsz hnew
  have xk : ∀ g, Xm lo w M g → (w2.setCell ⟨gs, r.length * 5 + 3, none⟩ v').heap[g]? = w.heap[g]? := fun g q => hk g q.2.1 (h.notM q.2.2).1 (fun z => (h.notM q.2.2).2.2 (List.mem_append.2 (.inl z)))
  have hgs : w2.heap[gs]? = w.heap[gs]? := hg.block gs glt.2 (fun q => (dj.s2 gs (List.mem_append.2 (.inl (ob_mem.2 q.symm)))).1 rfl)
  refine ⟨_, h.re (e2 := { e with nodes := e.nodes ++ l }) (vn2 := v') (va2 := va) (m22 := m2) ((Below.grownX hg (fun g q => (h.rn.lt g (ob_mem.2 q)).1) h.lolt).setCell glt.1 _) (fun g h1 h2 h3 => hk g h1 h2 (fun z => h3 (List.mem_append.2 (.inl z)))) (h.rowSet hgs 3 v') hnew hnd ⟨zs, own_keep hy (fun g q => heap_set_ne ?_), cellsX_imp hc hx xk⟩ (h.ra.keep hx xk (fun g q => hk g (h.ra.lt g q).2 (dj.s2 g (List.mem_append.2 (.inr q))).1 (fun z => dj.d2 g z q)))⟩
  intro e0
  subst e0
  rcases hob gs (ob_mem.2 q) with z | z
  · exact (dj.s2 gs (List.mem_append.2 (.inl z))).1 rfl
  · omega
theorem addA_last : ∀ (f : List Ar) (a : Ar) (l : List Nd), addA (f ++ [a]) l = f ++ [.mk a.named a.name (a.value ++ l)]
  | [], a, l => rfl
  | [b], a, l => rfl
  | b :: c :: f, a, l => by
    have := addA_last (c :: f) a l
    rw [List.cons_append] at this ⊢
    rw [List.cons_append, addA, this]; rfl
/-- The last argument of the top. -/
structure La (lo : Nat) (w : World) (X : Nat → Prop) (va : Value) (args : List Ar) (m2 : List Nat) (f : List Ar) (a : Ar) (zs : List Value) (un uv : Value) (ga cap : Nat) : Prop where
  hl : args = f ++ [a]
  hv : va = .slice (some ⟨ga, 0, none⟩) (f.length + 1) cap
  row : w.ownsRow lo 59 3 va (f.length + 1) (zs ++ [.bool a.named, un, uv])
  cl : CellsA (LX w X) zs f
  ln : LX w X un a.name
  rv : RN lo w X uv a.value
  hm : m2 = ob va ++ ob uv
theorem RA.last {lo : Nat} {w : World} {X : Nat → Prop} {va : Value} {args : List Ar} {m2 : List Nat} (h : RA lo w X va args m2) (hn : args ≠ []) : ∃ f a zs un uv ga cap, La lo w X va args m2 f a zs un uv ga cap := by
  rcases h with ⟨_, h, _⟩ | ⟨f, a, zs, un, uv, h0, h1, h2, h3, h4, h5⟩
  · exact absurd h hn
  · rcases h1.2 with ⟨_, q⟩ | ⟨g, cap, cur, q, _⟩
    · omega
    · exact ⟨f, a, zs, un, uv, g, cap, h0, q, h1, h2, h3, h4, h5⟩
section
variable {X : Nat → Prop} {args f : List Ar} {a : Ar} {zs : List Value} {un uv : Value} {ga c : Nat}
theorem La.ra (h : La lo w X va args m2 f a zs un uv ga c) : RA lo w X va args m2 := .inr ⟨f, a, zs, un, uv, h.hl, h.row, h.cl, h.ln, h.rv, h.hm⟩
theorem La.gin (h : La lo w X va args m2 f a zs un uv ga c) : ga ∈ m2 := by rw [h.hm, h.hv]; simp [ob, Value.ownBlock]
theorem La.zl (h : La lo w X va args m2 f a zs un uv ga c) : zs.length = f.length * 3 := h.cl.length
theorem La.cs (h : La lo w X va args m2 f a zs un uv ga c) : ∃ cs, w.heap[ga]? = some (.cells cs 59) ∧ cs.size = c * 3 ∧ f.length + 1 ≤ c ∧ c ≤ 9223372036854775807 ∧ cs.toList.take ((f.length + 1) * 3) = zs ++ [.bool a.named, un, uv] := by
  have hr := h.row
  rw [h.hv] at hr
  rcases hr.2 with ⟨q, _⟩ | ⟨g, c', cur, q, _, h1, h2, h3, h4, h5⟩
  · cases q
  · injection q with q1 q2 q3
    injection q1 with q1
    injection q1 with q1
    subst q1 q3
    exact ⟨cur, h1, h4, h2, by simpa [maxLen] using h3, h5⟩
theorem La.cell (h : La lo w X va args m2 f a zs un uv ga c) (j : Nat) (u : Value) (hj : [Value.bool a.named, un, uv][j]? = some u) : w.cell? ⟨ga, f.length * 3 + j, none⟩ = some u := by
  obtain ⟨cs, h1, _, _, _, h5⟩ := h.cs
  have := cell_row h1 h5 (j := f.length * 3 + j) (u := u) (by rw [← h.zl, List.getElem?_append_right (by omega)]; simpa using hj)
  rwa [Nat.zero_add] at this
theorem La.fz (h : La lo w X va args m2 f a zs un uv ga c) (j : Nat) : w.frozen? ⟨ga, j, none⟩ = false := by
  obtain ⟨cs, h1, _⟩ := h.cs
  simp [World.frozen?, h1]
end
/-- Nodes behind the value of the top's last argument. -/
theorem Opn.addValue (h : Opn lo gp w M e r gs cap ys vn va m1 m2) {f : List Ar} {a : Ar} {zs : List Value} {un uv : Value} {ga c : Nat} (L : La lo w (Xm lo w M) va e.args m2 f a zs un uv ga c) {l : List Nd} (hg : w.grownBy w2 uv.ownBlock) (ho : v'.ownBlock = uv.ownBlock ∨ v'.ownBlock = some w.heap.size) {xs : List Value} (hy : w2.ownsRow lo 62 5 v' (a.value ++ l).length xs) (hc : Cells (LX w (Xm lo w M)) (AX w (Xm lo w M)) xs (a.value ++ l)) :
    ∃ M', St lo gp (w2.setCell ⟨ga, f.length * 3 + 2, none⟩ v') M' ({ e with args := addA e.args l } :: r) ∧ Fr lo w M (w2.setCell ⟨ga, f.length * 3 + 2, none⟩ v') M' := by
  have dj := h.dj
  have glt := h.glt
  have hga := h.ra.lt ga L.gin
  have hm := L.hm
  have n2 := dj.n2
  rw [hm] at n2
  obtain ⟨k1, k2, k3⟩ := List.nodup_append.1 n2
  have gav : ga ∈ ob va := by rw [L.hv]; simp [ob, Value.ownBlock]
  have hsz : w.heap.size ≤ (w2.setCell ⟨ga, f.length * 3 + 2, none⟩ v').heap.size := by rw [World.size_setCell]; exact hg.size
  have hk : ∀ g, g < w.heap.size → g ≠ ga → g ∉ ob uv → (w2.setCell ⟨ga, f.length * 3 + 2, none⟩ v').heap[g]? = w.heap[g]? := fun g h1 h2 h3 => (heap_set_ne (fun q => h2 q.symm)).trans (hg.block g h1 (fun q => h3 (ob_mem.2 q.symm)))
  have inm : ∀ g, g ∈ ob uv → g ∈ m2 := fun g q => by rw [hm]; exact List.mem_append.2 (.inr q)
  have hob : ∀ g ∈ ob v', g ∈ ob uv ∨ w.heap.size = g := fun g q => by
    rw [ob_mem] at q
    rcases ho with e | e <;> rw [e] at q
    · exact .inl (ob_mem.2 q)
    · exact .inr (Option.some.inj q)
  have hnew : ∀ g ∈ ob vn ++ (ob va ++ ob v'), g ∈ ob vn ++ m2 ∨ w.heap.size ≤ g := fun g q => by
    rw [hm]
    simp only [List.mem_append] at q ⊢
    rcases q with q | q | q
    · exact .inl (.inl q)
    · exact .inl (.inr (.inl q))
    · rcases hob g q with q | q
      · exact .inl (.inr (.inr q))
      · exact .inr (Nat.le_of_eq q)
  have hnd : (ob vn ++ (ob va ++ ob v')).Nodup := by
    refine List.nodup_append.2 ⟨ob_nodup _, List.nodup_append.2 ⟨ob_nodup _, ob_nodup _, fun x hx y hy e => ?_⟩, fun x hx y hy e => ?_⟩
    · subst e
      rcases hob x hy with q | q
      · exact k3 x hx x q rfl
      · have := (h.ra.lt x (by rw [hm]; exact List.mem_append.2 (.inl hx))).2; omega
    · subst e
      rcases List.mem_append.1 hy with q | q
      · exact dj.d2 x hx (by rw [hm]; exact List.mem_append.2 (.inl q))
      · rcases hob x q with q | q
        · exact dj.d2 x hx (inm x q)
        · have := (h.rn.lt x hx).2; omega
  have hx := h.x2 hsz hnew
  have xk : ∀ g, Xm lo w M g → (w2.setCell ⟨ga, f.length * 3 + 2, none⟩ v').heap[g]? = w.heap[g]? := fun g q => hk g q.2.1 (fun z => (h.notM q.2.2).2.2 (List.mem_append.2 (.inr (by rw [z]; exact L.gin)))) (fun z => (h.notM q.2.2).2.2 (List.mem_append.2 (.inr (inm g z))))
  have hga2 : w2.heap[ga]? = w.heap[ga]? := hg.block ga hga.2 (fun q => k3 ga gav ga (ob_mem.2 q.symm) rfl)
  have hrow2 : (w2.setCell ⟨ga, f.length * 3 + 2, none⟩ v').ownsRow lo 59 3 va (f.length + 1) (zs ++ [.bool a.named, un, v']) := by
    have hr := own_keep (w' := w2) L.row (fun g q => by rw [L.hv] at q; cases q; exact hga2)
    rw [L.hv] at hr ⊢
    have q := own_setR hr (f.length * 3 + 2) v'
    rw [← L.zl, List.set_append_right _ _ (by omega)] at q
    rw [← L.zl]
    simpa using q
  refine ⟨_, h.re (e2 := { e with args := addA e.args l }) (vn2 := vn) (va2 := va) (m22 := ob va ++ ob v') ((Below.grownX hg (fun g q => (L.rv.lt g (ob_mem.2 q)).1) h.lolt).setCell hga.1 _) (fun g h1 h2 h3 => hk g h1 (fun z => h3 (List.mem_append.2 (.inr (by rw [z]; exact L.gin)))) (fun z => h3 (List.mem_append.2 (.inr (inm g z)))))
    (own_keep h.row (fun g q => by cases q; exact hk _ glt.2 (fun z => (dj.s2 ga (List.mem_append.2 (.inr L.gin))).1 z.symm) (fun z => (dj.s2 _ (List.mem_append.2 (.inr (inm _ z)))).1 rfl))) hnew hnd
    (h.rn.keep hx xk (fun g q => hk g (h.rn.lt g q).2 (fun z => dj.d2 g q (by rw [z]; exact L.gin)) (fun z => dj.d2 g q (inm g z))))
    (.inr ⟨f, .mk a.named a.name (a.value ++ l), zs, un, v', by rw [L.hl]; exact addA_last f a l, hrow2, cellsAX_imp L.cl hx xk, L.ln.imp hx xk, ⟨xs, own_keep hy (fun g q => heap_set_ne ?_), cellsX_imp hc hx xk⟩, rfl⟩)⟩
  intro e0
  subst e0
  rcases hob ga (ob_mem.2 q) with z | z
  · exact k3 ga gav ga z rfl
  · omega
end
end Go.Proofs.YtdojbnngdlmbgaaGreatDoor.Pa
