/-
  Removing the blanks around each slash, byte by byte, gives the same as the two replacements of package title: the plain part.
-/
import Derived.Test.YtaapdhpfjiaeaaaDoorTiRound
import Derived.Lib.CountLaws
namespace Go.Proofs.YtaapdhpfjiaeaaaDoor.Ti

theorem replaceAll_k {old new : List UInt8} (hne : (old == new) = false) (s : List UInt8) : Lib.replaceAll s old new = Lib.replaceK old new (Lib.count s old) s := by
  unfold Lib.replaceAll Lib.replace Lib.replaceNum
  rw [if_neg (by simp [hne]), if_pos (.inl (by decide))]
theorem replaceAll_nil {old new : List UInt8} (hne : (old == new) = false) (hold : old ≠ []) : Lib.replaceAll [] old new = [] := by
  rw [replaceAll_k hne]
  have : Lib.count [] old = 0 := Lib.count_miss (by unfold Lib.index; cases old with | nil => exact absurd rfl hold | cons a b => rfl)
  rw [this]; rfl
theorem replaceAll_cons {old new : List UInt8} (hne : (old == new) = false) (hold : old ≠ []) (c : UInt8) (t : List UInt8) :
    Lib.replaceAll (c :: t) old new = if old.isPrefixOf (c :: t) then new ++ Lib.replaceAll ((c :: t).drop old.length) old new else c :: Lib.replaceAll t old new := by
  by_cases hp : old.isPrefixOf (c :: t) = true
  · rw [if_pos hp]
    have hi : Lib.index (c :: t) old = ((0 : Nat) : Int) := by rw [Lib.index, if_pos hp]; rfl
    rw [replaceAll_k hne, replaceAll_k hne, Lib.count_hit hold hi, Nat.add_comm, Lib.replaceK_hit old new _ _ 0 hi]
    simp
  · rw [if_neg hp]
    have hi : Lib.index (c :: t) old = if (Lib.index t old == -1) = true then -1 else Lib.index t old + 1 := by rw [Lib.index, if_neg hp]
    by_cases hm : Lib.index t old = -1
    · have h1 : Lib.index (c :: t) old = -1 := by rw [hi, hm]; rfl
      rw [replaceAll_k hne, replaceAll_k hne, Lib.count_miss h1, Lib.count_miss hm]; rfl
    · have hge := Lib.index_ge t old
      obtain ⟨i, h2⟩ : ∃ i : Nat, Lib.index t old = (i : Int) := ⟨(Lib.index t old).toNat, by omega⟩
      have h1 : Lib.index (c :: t) old = ((i + 1 : Nat) : Int) := by rw [hi, if_neg (by simpa using hm), h2]; simp
      rw [replaceAll_k hne, replaceAll_k hne, Lib.count_hit hold h1, Lib.count_hit hold h2]
      have e : (c :: t).drop (i + 1 + old.length) = t.drop (i + old.length) := by rw [show i + 1 + old.length = (i + old.length) + 1 from by omega]; rfl
      rw [e, Nat.add_comm 1, Lib.replaceK_hit old new _ _ _ h1, Lib.replaceK_hit old new _ _ _ h2, e]
      simp

/-- Without the blanks next to a slash; p: the byte before. -/
def jn (p : UInt8) : List UInt8 → List UInt8
  | [] => []
  | c :: r => if c = 32 ∧ (p = 47 ∨ r.head? = some 47) then jn c r else c :: jn c r
def R1 (l : List UInt8) : List UInt8 := Lib.replaceAll l [32, 47] [47]
def R2 (l : List UInt8) : List UInt8 := Lib.replaceAll l [47, 32] [47]
theorem R1_nil : R1 [] = [] := replaceAll_nil (by decide) (by decide)
theorem R2_nil : R2 [] = [] := replaceAll_nil (by decide) (by decide)
theorem R1_hit (r : List UInt8) : R1 (32 :: 47 :: r) = 47 :: R1 r := by
  unfold R1; rw [replaceAll_cons (by decide) (by decide), if_pos (by simp [List.isPrefixOf])]; rfl
theorem R1_miss {c : UInt8} {r : List UInt8} (h : ¬ (c = 32 ∧ r.head? = some 47)) : R1 (c :: r) = c :: R1 r := by
  unfold R1; rw [replaceAll_cons (by decide) (by decide), if_neg]
  intro hp
  cases r with
  | nil => simp [List.isPrefixOf] at hp
  | cons d t => simp [List.isPrefixOf] at hp; exact h ⟨hp.1.symm, by rw [← hp.2]; rfl⟩
/-- R2 behind a slash. -/
def R2s (l : List UInt8) : List UInt8 := match l with
  | [] => []
  | c :: r => if c = 32 then R2 r else R2 (c :: r)
theorem R2_slash (l : List UInt8) : R2 (47 :: l) = 47 :: R2s l := by
  unfold R2
  rw [replaceAll_cons (by decide) (by decide)]
  cases l with
  | nil => simp [List.isPrefixOf, R2s]; exact replaceAll_nil (by decide) (by decide)
  | cons d t =>
    by_cases hd : d = 32
    · subst hd; rw [if_pos (by simp [List.isPrefixOf])]; simp [R2s, R2]
    · rw [if_neg (by simp [List.isPrefixOf]; exact fun e => hd e.symm)]; simp [R2s, hd, R2]
theorem R2_other {c : UInt8} (h : c ≠ 47) (l : List UInt8) : R2 (c :: l) = c :: R2 l := by
  unfold R2
  rw [replaceAll_cons (by decide) (by decide), if_neg]
  cases l with
  | nil => simp [List.isPrefixOf]
  | cons d t => simp [List.isPrefixOf]; exact fun e => absurd e.symm h
theorem join_both : ∀ u : List UInt8, (∀ p, p ≠ 47 → R2 (R1 u) = jn p u) ∧ R2s (R1 u) = jn 47 u
  | [] => by
    refine ⟨fun p _ => ?_, ?_⟩
    · rw [R1_nil, R2_nil]; rfl
    · rw [R1_nil]; rfl
  | [c] => by
    have h1 : R1 [c] = [c] := by rw [R1_miss (by simp), R1_nil]
    refine ⟨fun p hp => ?_, ?_⟩
    · rw [h1]
      by_cases hc : c = 47
      · subst hc; rw [R2_slash]; simp [R2s, jn]
      · rw [R2_other hc, R2_nil]; simp [jn, hp]
    · rw [h1]
      by_cases hc : c = 32
      · subst hc; simp [R2s, jn, R2_nil]
      · by_cases h47 : c = 47
        · subst h47; simp only [R2s]; rw [if_neg (by decide), R2_slash]; simp [R2s, jn]
        · simp only [R2s]; rw [if_neg hc, R2_other h47, R2_nil]; simp [jn, hc]
  | c :: d :: r => by
    obtain ⟨i1, i2⟩ := join_both (d :: r)
    obtain ⟨k1, k2⟩ := join_both r
    by_cases hh : c = 32 ∧ d = 47
    · obtain ⟨rfl, rfl⟩ := hh
      have e : ∀ p, jn p (32 :: 47 :: r) = 47 :: jn 47 r := fun p => by simp [jn]
      refine ⟨fun p _ => ?_, ?_⟩
      · rw [R1_hit, R2_slash, k2, e]
      · rw [R1_hit, e]; simp only [R2s]; rw [if_neg (by decide), R2_slash, k2]
    · have h1 : R1 (c :: d :: r) = c :: R1 (d :: r) := R1_miss (by rintro ⟨a, b⟩; exact hh ⟨a, by simpa using b⟩)
      rw [h1]
      by_cases h47 : c = 47
      · subst h47
        refine ⟨fun p _ => ?_, ?_⟩
        · rw [R2_slash, i2, jn.eq_def p]; simp
        · simp only [R2s]; rw [if_neg (by decide), R2_slash, i2, jn.eq_def 47 (47 :: d :: r)]; simp
      · by_cases h32 : c = 32
        · subst h32
          have hd : d ≠ 47 := fun e => hh ⟨rfl, e⟩
          refine ⟨fun p hp => ?_, ?_⟩
          · rw [R2_other (by decide), i1 32 (by decide), jn.eq_def p (32 :: d :: r)]; simp [hp, hd]
          · have e : R2s (32 :: R1 (d :: r)) = R2 (R1 (d :: r)) := by simp [R2s]
            rw [e, i1 32 (by decide), jn.eq_def 47 (32 :: d :: r)]; simp
        · refine ⟨fun p _ => ?_, ?_⟩
          · rw [R2_other h47, i1 c h47, jn.eq_def p (c :: d :: r)]; simp [h32]
          · simp only [R2s]; rw [if_neg h32, R2_other h47, i1 c h47, jn.eq_def 47 (c :: d :: r)]; simp [h32]
theorem join_jn (u : List UInt8) : join u = jn 0 u := (join_both u).1 0 (by decide)
/-- One byte of the loop. -/
theorem jn_drop (s : ByteArray) (p : UInt8) (k : Nat) (h : k < s.size) : jn p (s.data.toList.drop k) = (if s[k] = 32 ∧ (p = 47 ∨ (s.data.toList.drop (k + 1)).head? = some 47) then jn s[k] (s.data.toList.drop (k + 1)) else s[k] :: jn s[k] (s.data.toList.drop (k + 1))) := by
  have h' : k < s.data.toList.length := h
  rw [List.drop_eq_getElem_cons h']
  show jn p (s[k] :: s.data.toList.drop (k + 1)) = _
  rw [jn.eq_def]
theorem drop_head (s : ByteArray) (k : Nat) : (s.data.toList.drop (k + 1)).head? = if h : k + 1 < s.size then some (s[k + 1]) else none := by
  rw [List.head?_drop]
  by_cases h : k + 1 < s.size
  · rw [dif_pos h, List.getElem?_eq_getElem h]; rfl
  · rw [dif_neg h, List.getElem?_eq_none (by show s.size ≤ k + 1; omega)]
end Go.Proofs.YtaapdhpfjiaeaaaDoor.Ti
