/-
  Plain Lean for package strfunc: where the runes of a string begin, parts of it by runes, occurrences and parts between them.
-/
import Derived.Lib.RuneCountTail
namespace Go.Proofs.YtihhejeciagdpaaDoor.Sf

/-- How many bytes the rune at p has. -/
def wd (s : ByteArray) (p : Nat) : Nat := (Utf8.decode s p).2
def stf (s : ByteArray) : Nat → Nat → List Nat
  | 0, _ => []
  | f + 1, p => if p < s.size then p :: stf s f (p + wd s p) else []
/-- Where the runes from p on begin. -/
def sfrom (s : ByteArray) (p : Nat) : List Nat := stf s (s.size - p) p
def sts (s : ByteArray) : List Nat := sfrom s 0
def al (s : ByteArray) : List Nat := sts s ++ [s.size]
/-- How many bytes stand before position i. -/
def ag (s : ByteArray) (i : Nat) : Nat := (sts s).getD i s.size
def rc (s : ByteArray) : Nat := (sts s).length

theorem wd_pos {s : ByteArray} {p : Nat} (h : p < s.size) : 1 ≤ wd s p := Lib.decode_width_pos s p h
theorem stf_enough (s : ByteArray) : ∀ f g p, s.size - p ≤ f → s.size - p ≤ g → stf s f p = stf s g p
  | 0, 0, _, _, _ => rfl
  | 0, g + 1, p, hf, _ => by unfold stf; rw [if_neg (by omega)]
  | f + 1, 0, p, _, hg => by unfold stf; rw [if_neg (by omega)]
  | f + 1, g + 1, p, hf, hg => by
    unfold stf
    by_cases h : p < s.size
    · have := wd_pos h
      rw [if_pos h, if_pos h, stf_enough s f g _ (by omega) (by omega)]
    · rw [if_neg h, if_neg h]
theorem sfrom_end {s : ByteArray} {p : Nat} (h : ¬ p < s.size) : sfrom s p = [] := by
  unfold sfrom; rw [show s.size - p = 0 from by omega]; rfl
theorem sfrom_step {s : ByteArray} {p : Nat} (h : p < s.size) : sfrom s p = p :: sfrom s (p + wd s p) := by
  have hw := wd_pos h
  unfold sfrom
  obtain ⟨f, hf⟩ : ∃ f, s.size - p = f + 1 := ⟨s.size - p - 1, by omega⟩
  rw [hf]
  show (if p < s.size then _ else _) = _
  rw [if_pos h, stf_enough s f (s.size - (p + wd s p)) _ (by omega) (Nat.le_refl _)]
theorem sfrom_ind (s : ByteArray) (M : Nat → Prop) (he : ∀ p, ¬ p < s.size → M p) (hs : ∀ p, p < s.size → M (p + wd s p) → M p) (p : Nat) : M p := by
  obtain ⟨n, hn⟩ : ∃ n, s.size - p = n := ⟨_, rfl⟩
  induction n using Nat.strongRecOn generalizing p with
  | ind n ih =>
    by_cases h : p < s.size
    · have := wd_pos h
      exact hs p h (ih (s.size - (p + wd s p)) (by omega) _ rfl)
    · exact he p h
theorem count_stf (s : ByteArray) : ∀ f p, Lib.runeCountFrom s f p = (stf s f p).length
  | 0, _ => rfl
  | f + 1, p => by
    unfold Lib.runeCountFrom stf
    split
    · rw [count_stf s f, List.length_cons]; unfold wd; omega
    · rfl
theorem runeCount_rc (s : ByteArray) : Lib.runeCount s = rc s := count_stf s s.size 0
theorem rc_le (s : ByteArray) : rc s ≤ s.size := by rw [← runeCount_rc]; exact Lib.runeCount_le s
theorem mem_sfrom (s : ByteArray) (p : Nat) : ∀ q, q ∈ sfrom s p → p ≤ q ∧ q < s.size := by
  refine sfrom_ind s (fun p => ∀ q, q ∈ sfrom s p → p ≤ q ∧ q < s.size) (fun p h q hq => ?_) (fun p h ih q hq => ?_) p
  · rw [sfrom_end h] at hq; cases hq
  · rw [sfrom_step h] at hq
    rcases List.mem_cons.1 hq with rfl | hq
    · exact ⟨Nat.le_refl _, h⟩
    · have := ih q hq; have := wd_pos h; omega
theorem sfrom_sorted (s : ByteArray) (p : Nat) : (sfrom s p).Pairwise (· < ·) := by
  refine sfrom_ind s (fun p => (sfrom s p).Pairwise (· < ·)) (fun p h => ?_) (fun p h ih => ?_) p
  · rw [sfrom_end h]; exact List.Pairwise.nil
  · rw [sfrom_step h]
    refine List.Pairwise.cons (fun q hq => ?_) ih
    have := mem_sfrom s _ q hq; have := wd_pos h; omega
/-- Behind i runes. -/
theorem sfrom_drop (s : ByteArray) (p : Nat) : ∀ i, (sfrom s p).drop i = sfrom s ((sfrom s p).getD i s.size) := by
  refine sfrom_ind s (fun p => ∀ i, (sfrom s p).drop i = sfrom s ((sfrom s p).getD i s.size)) (fun p h i => ?_) (fun p h ih i => ?_) p
  · rw [sfrom_end h]; simp [sfrom_end (s := s) (p := s.size) (by omega)]
  · cases i with
    | zero => rw [sfrom_step h]; simp; rw [← sfrom_step h]
    | succ i =>
      have := ih i
      rw [sfrom_step h]
      simpa using this
theorem sfrom_tail (s : ByteArray) (k : Nat) (hk : k ≤ s.size) (p : Nat) : sfrom (s.extract k s.size) p = (sfrom s (k + p)).map (· - k) := by
  refine sfrom_ind (s.extract k s.size) (fun p => sfrom (s.extract k s.size) p = (sfrom s (k + p)).map (· - k)) (fun p h => ?_) (fun p h ih => ?_) p
  · rw [Lib.tail_size] at h
    rw [sfrom_end (by rw [Lib.tail_size]; exact h), sfrom_end (by omega)]; rfl
  · have h' := h
    rw [Lib.tail_size] at h'
    have hw : wd (s.extract k s.size) p = wd s (k + p) := by unfold wd; rw [Lib.tail_decode]
    rw [sfrom_step h, sfrom_step (s := s) (p := k + p) (by omega), ih, hw, List.map_cons, Nat.add_assoc]
    congr 1
    omega
theorem getD_in {l : List Nat} {i d : Nat} (h : i < l.length) : l.getD i d = l[i] := by rw [List.getD, List.getElem?_eq_getElem h]; rfl
theorem getD_out {l : List Nat} {i d : Nat} (h : l.length ≤ i) : l.getD i d = d := by rw [List.getD, List.getElem?_eq_none h]; rfl
theorem ag_le (s : ByteArray) (i : Nat) : ag s i ≤ s.size := by
  unfold ag
  by_cases h : i < (sts s).length
  · rw [getD_in h]; exact Nat.le_of_lt (mem_sfrom s 0 _ (List.getElem_mem h)).2
  · rw [getD_out (by omega)]; exact Nat.le_refl _
theorem ag_end {s : ByteArray} {i : Nat} (h : rc s ≤ i) : ag s i = s.size := getD_out h
theorem ag_zero (s : ByteArray) : ag s 0 = 0 := by
  unfold ag sts
  by_cases h : 0 < s.size
  · rw [sfrom_step h]; rfl
  · rw [sfrom_end h]; simp only [List.getD, List.getElem?_nil, Option.getD_none]; omega
theorem ag_get {s : ByteArray} {i : Nat} (h : i < (sts s).length) : ag s i = (sts s)[i] := getD_in h
theorem ag_mono (s : ByteArray) {i j : Nat} (h : i ≤ j) : ag s i ≤ ag s j := by
  by_cases hj : j < (sts s).length
  · rcases Nat.lt_or_eq_of_le h with h1 | rfl
    · have hi : i < (sts s).length := by omega
      rw [ag_get hi, ag_get hj]
      exact Nat.le_of_lt (List.pairwise_iff_getElem.1 (sfrom_sorted s 0) i j hi hj h1)
    · exact Nat.le_refl _
  · rw [ag_end (s := s) (i := j) (by unfold rc; omega)]; exact ag_le s i
theorem rc_tail (s : ByteArray) (F : Nat) : rc (s.extract (ag s F) s.size) = rc s - F := by
  unfold rc sts
  rw [sfrom_tail s _ (ag_le s F), List.length_map, Nat.add_zero]
  show (sfrom s ((sfrom s 0).getD F s.size)).length = _
  rw [← sfrom_drop s 0, List.length_drop]
theorem ag_tail (s : ByteArray) (F N : Nat) : ag (s.extract (ag s F) s.size) N = ag s (F + N) - ag s F := by
  have h1 : sts (s.extract (ag s F) s.size) = ((sts s).drop F).map (· - ag s F) := by
    unfold sts
    rw [sfrom_tail s _ (ag_le s F), Nat.add_zero]
    show (sfrom s ((sfrom s 0).getD F s.size)).map _ = _
    rw [← sfrom_drop s 0]
  by_cases h : F + N < rc s
  · have h' : F + N < (sts s).length := h
    rw [ag_get (i := F + N) h', ag_get (s := s.extract (ag s F) s.size) (i := N) (by rw [h1]; simp; omega)]
    simp [h1]
  · rw [ag_end (s := s) (i := F + N) (by omega), ag_end (s := s.extract (ag s F) s.size) (i := N) (by rw [rc_tail]; omega), Lib.tail_size]
/-- The part from position F on with N runes. -/
def sl (s : ByteArray) (F N : Nat) : ByteArray := s.extract (ag s F) (ag s (F + N))
theorem sl_tail (s : ByteArray) (F N : Nat) : (s.extract (ag s F) s.size).extract 0 (ag (s.extract (ag s F) s.size) N) = sl s F N := by
  rw [ag_tail, ByteArray.extract_extract]
  unfold sl
  have := ag_le s (F + N)
  have := ag_mono s (Nat.le_add_right F N)
  congr 1 <;> omega
/-- Where the part that Slice takes begins, and how many runes it has. -/
def slF (s : ByteArray) (f : Int) : Nat := if f < 0 then (f + rc s).toNat else f.toNat
def slN (s : ByteArray) (F : Nat) (n : Int) : Nat := if n < 0 then (n + ((rc s - F : Nat) : Int)).toNat else n.toNat
def slice (s : ByteArray) (f n : Int) : ByteArray := sl s (slF s f) (slN s (slF s f) n)
theorem sl_cut {s : ByteArray} {F N : Nat} (h : rc s ≤ F + N) : sl s F N = s.extract (ag s F) s.size := by unfold sl; rw [ag_end h]

/-! ### Positions -/
/-- The positions with the bytes before them. -/
def posl (s : ByteArray) : List (Nat × Nat) := (al s).zipIdx
end Go.Proofs.YtihhejeciagdpaaDoor.Sf
