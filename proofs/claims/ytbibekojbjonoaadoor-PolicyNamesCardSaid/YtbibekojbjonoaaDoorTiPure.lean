/-
  Plain functions on lists of bytes: what the functions of package title compute. No program is named here.
-/
import Derived.Lib.Strings
import Derived.Lib.IndexMore
import Derived.Lib.Replace
namespace Go.Proofs.YtbibekojbjonoaaDoor.Ti

/-- One of the letters a to z. -/
def small (c : UInt8) : Bool := decide (97 ≤ c.toNat ∧ c.toNat ≤ 122)
/-- A letter A to Z as the letter a to z. -/
def low (c : UInt8) : UInt8 := if 65 ≤ c.toNat ∧ c.toNat ≤ 90 then c + 32 else c
/-- Equal without regard to the case of A to Z. -/
def fold (a b : List UInt8) : Bool := a.map low == b.map low

theorem low_up {c : UInt8} (h : 65 ≤ c.toNat) (h2 : c.toNat ≤ 90) : ((low c).toNat : Int) = (c.toNat : Int) + 32 := by
  unfold low
  rw [if_pos ⟨h, h2⟩, UInt8.toNat_add]
  have : (32 : UInt8).toNat = 32 := rfl
  omega
theorem low_not {c : UInt8} (h : ¬ (65 ≤ c.toNat ∧ c.toNat ≤ 90)) : low c = c := by
  unfold low; rw [if_neg h]
theorem fold_len {a b : List UInt8} (h : a.length ≠ b.length) : fold a b = false := by
  unfold fold
  rw [beq_eq_false_iff_ne]
  intro e
  apply h
  have := congrArg List.length e
  simpa using this
theorem take_snoc (s : ByteArray) (k : Nat) (h : k < s.size) : s.data.toList.take (k + 1) = s.data.toList.take k ++ [s[k]] := by
  rw [List.take_succ_eq_append_getElem (by simpa using h)]; rfl
theorem fold_step {a b : ByteArray} {k : Nat} (h : (a.data.toList.take k).map low = (b.data.toList.take k).map low) {ha : k < a.size} {hb : k < b.size} (hc : low a[k] = low b[k]) (_ : k < a.size) (_ : k < b.size) :
    (a.data.toList.take (k + 1)).map low = (b.data.toList.take (k + 1)).map low := by
  rw [take_snoc a k ha, take_snoc b k hb, List.map_append, List.map_append, h]; simp [hc]
theorem fold_not {a b : ByteArray} {k : Nat} {ha : k < a.size} {hb : k < b.size} (hc : ¬ low a[k] = low b[k]) (_ : k < a.size) (_ : k < b.size) : fold a.data.toList b.data.toList = false := by
  unfold fold
  rw [beq_eq_false_iff_ne]
  intro e
  apply hc
  have h1 : (a.data.toList.map low)[k]? = some (low a[k]) := by
    rw [List.getElem?_map, List.getElem?_eq_getElem (by simpa using ha)]; rfl
  have h2 : (b.data.toList.map low)[k]? = some (low b[k]) := by
    rw [List.getElem?_map, List.getElem?_eq_getElem (by simpa using hb)]; rfl
  rw [e, h2] at h1
  exact (Option.some.inj h1).symm

/-- Without a colon at the beginning, and the blank behind it. -/
def skip (l : List UInt8) : List UInt8 := if Lib.hasPrefix l [58] then Lib.trimPrefix (Lib.trimPrefix l [58]) [32] else l
/-- Without the blanks around each slash (one on each side). -/
def join (l : List UInt8) : List UInt8 := Lib.replaceAll (Lib.replaceAll l [32, 47] [47]) [47, 32] [47]
/-- The first letter made great. -/
def cap (l : List UInt8) : List UInt8 := match l with
  | [] => []
  | c :: r => if small c then (c - 32) :: r else c :: r
/-- The names of the six namespaces. -/
def name : Nat → List UInt8
  | 1 => [84, 97, 108, 107]
  | 2 => [85, 115, 101, 114]
  | 3 => [84, 101, 109, 112, 108, 97, 116, 101]
  | 4 => [67, 97, 116, 101, 103, 111, 114, 121]
  | 5 => [80, 114, 111, 106, 101, 99, 116]
  | _ => []
/-- The first namespace from k on (fuel rounds) whose name is p. -/
def spaceFrom (p : List UInt8) : Nat → Nat → Nat
  | 0, _ => 0
  | n + 1, k => if fold p (name k) then k else spaceFrom p n (k + 1)
/-- The namespace that the prefix of a text names; 0 if there is none. -/
def space (l : List UInt8) : Nat := if (Lib.cut l [58]).2.2 then spaceFrom (Lib.trimSuffix (Lib.cut l [58]).1 [32]) 5 1 else 0

theorem replaceK_len (old new : List UInt8) (h : new.length ≤ old.length) : ∀ (k : Nat) (s : List UInt8), (Lib.replaceK old new k s).length ≤ s.length
  | 0, s => by simp [Lib.replaceK]
  | k + 1, s => by
    rw [Lib.replaceK]
    by_cases hm : (Lib.index s old == -1) = true
    · rw [if_pos hm]; exact Nat.le_refl _
    · rw [if_neg hm]
      have h0 : 0 ≤ Lib.index s old := by
        rcases Lib.index_spec s old with ⟨h1, _⟩ | ⟨i, h1, _⟩
        · exact absurd (beq_iff_eq.2 h1) hm
        · omega
      have hr := Lib.index_room s old h0
      have ih := replaceK_len old new h k (s.drop ((Lib.index s old).toNat + old.length))
      simp only [List.length_append, List.length_take, List.length_drop] at ih ⊢
      omega
theorem replaceAll_len (s old new : List UInt8) (h : new.length ≤ old.length) : (Lib.replaceAll s old new).length ≤ s.length := by
  unfold Lib.replaceAll Lib.replace
  split
  · exact Nat.le_refl _
  · exact replaceK_len old new h _ s
theorem cut_len (l sep : List UInt8) : (Lib.cut l sep).1.length ≤ l.length := by
  unfold Lib.cut; split
  · simp only [List.length_take]; omega
  · exact Nat.le_refl _
theorem cut_len2 (l sep : List UInt8) : (Lib.cut l sep).2.1.length ≤ l.length := by
  unfold Lib.cut; split
  · simp only [List.length_drop]; omega
  · simp
theorem trimSuffix_len (l p : List UInt8) : (Lib.trimSuffix l p).length ≤ l.length := by
  unfold Lib.trimSuffix; split
  · simp only [List.length_take]; omega
  · exact Nat.le_refl _
theorem trimPrefix_len (l p : List UInt8) : (Lib.trimPrefix l p).length ≤ l.length := by
  unfold Lib.trimPrefix; split
  · simp only [List.length_drop]; omega
  · exact Nat.le_refl _
theorem spaceFrom_no {p : List UInt8} {n k : Nat} (h : fold p (name k) = false) : spaceFrom p (n + 1) k = spaceFrom p n (k + 1) := by
  rw [spaceFrom, if_neg (by simp [h])]
theorem spaceFrom_yes {p : List UInt8} {n k : Nat} (h : fold p (name k) = true) : spaceFrom p (n + 1) k = k := by
  rw [spaceFrom, if_pos h]

/-- One byte more: what has been written, and whether a blank waits. -/
def sqStep (st : List UInt8 × Bool) (c : UInt8) : List UInt8 × Bool :=
  if c = 32 ∨ c = 95 then (st.1, true) else (st.1 ++ (if st.2 && !st.1.isEmpty then [32] else []) ++ [c], false)
def sq (l : List UInt8) : List UInt8 × Bool := l.foldl sqStep ([], false)
/-- Each sequence of blanks and underscores as one blank, none at the ends. -/
def squeeze (l : List UInt8) : List UInt8 := (sq l).1
theorem sq_snoc (l : List UInt8) (c : UInt8) : sq (l ++ [c]) = sqStep (sq l) c := by
  simp [sq, List.foldl_append]
theorem sq_len (l : List UInt8) : (sq l).1.length + (sq l).2.toNat ≤ l.length := by
  have h : ∀ (l : List UInt8) (st : List UInt8 × Bool) (n : Nat), st.1.length + st.2.toNat ≤ n → (l.foldl sqStep st).1.length + (l.foldl sqStep st).2.toNat ≤ n + l.length := by
    intro l
    induction l with
    | nil => intro st n h; simpa using h
    | cons c r ih =>
      intro st n h
      have := ih (sqStep st c) (n + 1) (by
        obtain ⟨o, b⟩ := st
        replace h : o.length + b.toNat ≤ n := h
        unfold sqStep
        split
        · simp; omega
        · cases b
          · simp at h ⊢; omega
          · simp at h ⊢; split <;> simp <;> omega)
      simp only [List.foldl_cons, List.length_cons]
      omega
  have := h l ([], false) 0 (by simp)
  simpa [sq] using this
theorem squeeze_len (l : List UInt8) : (squeeze l).length ≤ l.length := by
  have := sq_len l; unfold squeeze; omega

end Go.Proofs.YtbibekojbjonoaaDoor.Ti
