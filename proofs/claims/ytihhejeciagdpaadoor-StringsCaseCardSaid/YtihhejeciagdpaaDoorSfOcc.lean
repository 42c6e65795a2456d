/-
  Plain Lean for package strfunc: occurrences, the first one, parts between them, replacements.
-/
import Derived.Test.YtihhejeciagdpaaDoorSfPure
import Derived.Lib.Strings
namespace Go.Proofs.YtihhejeciagdpaaDoor.Sf

/-- t stands in s at byte i. -/
def hasP (s t : ByteArray) (i : Nat) : Bool := Lib.hasPrefix (s.extract i s.size).data.toList t.data.toList
theorem bs_inj {a b : ByteArray} (h : a.data.toList = b.data.toList) : a = b := by
  cases a; cases b; congr 1; exact Array.toList_inj.1 h
theorem ext_list (s : ByteArray) (a b : Nat) : (s.extract a b).data.toList = (s.data.toList.drop a).take (b - a) := by
  simp [ByteArray.data_extract, Array.toList_extract, List.extract]
theorem ext_tail (s : ByteArray) (a : Nat) : (s.extract a s.size).data.toList = s.data.toList.drop a := by
  rw [ext_list]
  apply List.take_of_length_le
  simp [← ByteArray.size_data]
theorem size_list (s : ByteArray) : s.data.toList.length = s.size := by simp
theorem hasP_iff {s t : ByteArray} {i : Nat} (hi : i ≤ s.size) : hasP s t i = true ↔ i + t.size ≤ s.size ∧ s.extract i (i + t.size) = t := by
  unfold hasP Lib.hasPrefix
  rw [ext_tail, List.isPrefixOf_iff_prefix]
  have hl := size_list s
  have ht := size_list t
  constructor
  · intro h
    have h1 := h.length_le
    rw [List.length_drop] at h1
    refine ⟨by omega, bs_inj ?_⟩
    rw [ext_list, Nat.add_sub_cancel_left, ← ht]
    exact (List.prefix_iff_eq_take.1 h).symm
  · rintro ⟨h1, h2⟩
    rw [List.prefix_iff_eq_take, ht]
    conv => lhs; rw [← h2]
    rw [ext_list, Nat.add_sub_cancel_left]
theorem hasP_end {s t : ByteArray} (ht : t.size ≠ 0) : hasP s t s.size = false := by
  rw [Bool.eq_false_iff]
  intro h
  have := ((hasP_iff (Nat.le_refl _)).1 h).1
  omega

/-! ### The first one -/
def fnd (s t : ByteArray) (f : Int) : Int := match (List.range (rc s + 1)).find? (fun p : Nat => decide (f ≤ (p : Int)) && hasP s t (ag s p)) with
  | some p => p
  | none => -1
theorem fnd_none {s t : ByteArray} {f : Int} (h : ∀ j, j ≤ rc s → f ≤ (j : Int) → hasP s t (ag s j) = false) : fnd s t f = -1 := by
  unfold fnd
  rw [List.find?_eq_none.2]
  intro j hj
  have := List.mem_range.1 hj
  by_cases h1 : f ≤ (j : Int)
  · simp [h j (by omega) h1]
  · simp [h1]
theorem fnd_some {s t : ByteArray} {f : Int} {p : Nat} (hp : p ≤ rc s) (hf : f ≤ (p : Int)) (h1 : hasP s t (ag s p) = true) (h : ∀ j, j < p → f ≤ (j : Int) → hasP s t (ag s j) = false) : fnd s t f = p := by
  unfold fnd
  have h2 : (List.range (rc s + 1)).find? (fun p : Nat => decide (f ≤ (p : Int)) && hasP s t (ag s p)) = some p := by
    rw [List.find?_range_eq_some]
    refine ⟨by simp [hf, h1], by simp; omega, fun j hj => ?_⟩
    by_cases h3 : f ≤ (j : Int)
    · simp [h j hj h3]
    · simp [h3]
  rw [h2]
theorem fnd_spec (s t : ByteArray) (f : Int) : (fnd s t f = -1 ∧ ∀ j, j ≤ rc s → f ≤ (j : Int) → hasP s t (ag s j) = false) ∨
    ∃ p : Nat, fnd s t f = p ∧ p ≤ rc s ∧ f ≤ (p : Int) ∧ hasP s t (ag s p) = true ∧ ∀ j, j < p → f ≤ (j : Int) → hasP s t (ag s j) = false := by
  cases hc : (List.range (rc s + 1)).find? (fun p : Nat => decide (f ≤ (p : Int)) && hasP s t (ag s p)) with
  | none =>
    refine .inl ⟨by unfold fnd; rw [hc], fun j hj hf => ?_⟩
    have := List.find?_eq_none.1 hc j (List.mem_range.2 (by omega))
    simpa [hf] using this
  | some p =>
    obtain ⟨h1, h2, h3⟩ := List.find?_range_eq_some.1 hc
    simp only [Bool.and_eq_true, decide_eq_true_eq] at h1
    have := List.mem_range.1 h2
    refine .inr ⟨p, by unfold fnd; rw [hc], by omega, h1.1, h1.2, fun j hj hf => ?_⟩
    have := h3 j hj
    simpa [hf] using this

/-! ### Those that Count counts -/
def oc (s t : ByteArray) : List Nat → Nat → List Nat
  | [], _ => []
  | a :: l, e => if (t.size ≠ 0 ∧ e ≤ a) ∧ hasP s t a = true then a :: oc s t l (a + t.size) else oc s t l e
def occ (s t : ByteArray) : List Nat := oc s t (sts s) 0
theorem oc_yes {s t : ByteArray} {a e : Nat} {l : List Nat} (h : (t.size ≠ 0 ∧ e ≤ a) ∧ hasP s t a = true) : oc s t (a :: l) e = a :: oc s t l (a + t.size) := by rw [oc, if_pos h]
theorem oc_no {s t : ByteArray} {a e : Nat} {l : List Nat} (h : ¬ ((t.size ≠ 0 ∧ e ≤ a) ∧ hasP s t a = true)) : oc s t (a :: l) e = oc s t l e := by rw [oc, if_neg h]
theorem oc_none {s t : ByteArray} (ht : t.size = 0) : ∀ l e, oc s t l e = []
  | [], _ => rfl
  | a :: l, e => by rw [oc_no (by omega), oc_none ht l e]
theorem oc_end (s t : ByteArray) : ∀ l e, oc s t (l ++ [s.size]) e = oc s t l e
  | [], e => by
    show oc s t [s.size] e = []
    rw [oc_no]; rfl
    rintro ⟨⟨h1, _⟩, h2⟩
    rw [hasP_end h1] at h2; cases h2
  | a :: l, e => by
    rw [List.cons_append]
    by_cases h : (t.size ≠ 0 ∧ e ≤ a) ∧ hasP s t a = true
    · rw [oc_yes h, oc_yes h, oc_end s t l]
    · rw [oc_no h, oc_no h, oc_end s t l]
theorem occ_al (s t : ByteArray) : oc s t (al s) 0 = occ s t := oc_end s t _ _
theorem oc_len (s t : ByteArray) : ∀ l e, (oc s t l e).length ≤ l.length
  | [], _ => Nat.le_refl _
  | a :: l, e => by
    by_cases h : (t.size ≠ 0 ∧ e ≤ a) ∧ hasP s t a = true
    · rw [oc_yes h, List.length_cons, List.length_cons]; have := oc_len s t l (a + t.size); omega
    · rw [oc_no h, List.length_cons]; have := oc_len s t l e; omega
theorem occ_len (s t : ByteArray) : (occ s t).length ≤ s.size := Nat.le_trans (oc_len s t _ _) (rc_le s)
/-- Apart, in order, within the text from e on. -/
def Ok (s t : ByteArray) : List Nat → Nat → Prop
  | [], e => e ≤ s.size
  | a :: l, e => e ≤ a ∧ t.size ≠ 0 ∧ a + t.size ≤ s.size ∧ s.extract a (a + t.size) = t ∧ Ok s t l (a + t.size)
theorem oc_ok (s t : ByteArray) : ∀ l e, e ≤ s.size → (∀ a, a ∈ l → a < s.size) → Ok s t (oc s t l e) e
  | [], e, he, _ => he
  | a :: l, e, he, hl => by
    by_cases h : (t.size ≠ 0 ∧ e ≤ a) ∧ hasP s t a = true
    · rw [oc_yes h]
      have ha := hl a (List.mem_cons_self ..)
      have h2 := (hasP_iff (Nat.le_of_lt ha)).1 h.2
      exact ⟨h.1.2, h.1.1, h2.1, h2.2, oc_ok s t l _ h2.1 (fun b hb => hl b (List.mem_cons_of_mem _ hb))⟩
    · rw [oc_no h]
      exact oc_ok s t l e he (fun b hb => hl b (List.mem_cons_of_mem _ hb))
theorem occ_ok (s t : ByteArray) : Ok s t (occ s t) 0 := oc_ok s t _ 0 (Nat.zero_le _) (fun a ha => (mem_sfrom s 0 a ha).2)
theorem Ok.le {s t : ByteArray} : ∀ {l : List Nat} {e : Nat}, Ok s t l e → e ≤ s.size
  | [], _, h => h
  | a :: _, _, h => by have := h.1; have := h.2.2.1; omega

/-! ### Parts -/
def dv (s t : ByteArray) : List Nat → Nat → List ByteArray
  | [], f => [s.extract f s.size]
  | a :: l, f => s.extract f a :: dv s t l (a + t.size)
def parts (s t : ByteArray) : List ByteArray := dv s t (occ s t) 0
theorem dv_len (s t : ByteArray) : ∀ l f, (dv s t l f).length = l.length + 1
  | [], _ => rfl
  | a :: l, f => by rw [dv, List.length_cons, dv_len s t l, List.length_cons]
theorem parts_len (s t : ByteArray) : (parts s t).length = (occ s t).length + 1 := dv_len s t _ _
/-- Where part k begins and ends. -/
def pb (t : ByteArray) (l : List Nat) (f k : Nat) : Nat := if k = 0 then f else l.getD (k - 1) 0 + t.size
def pe (s : ByteArray) (l : List Nat) (k : Nat) : Nat := l.getD k s.size
theorem dv_get (s t : ByteArray) : ∀ (l : List Nat) (f k : Nat), k ≤ l.length → (dv s t l f)[k]? = some (s.extract (pb t l f k) (pe s l k))
  | [], f, 0, _ => rfl
  | a :: l, f, 0, _ => rfl
  | a :: l, f, k + 1, h => by
    rw [dv, List.getElem?_cons_succ, dv_get s t l _ k (by simpa using h)]
    cases k with
    | zero => rfl
    | succ k => rfl
theorem Ok.at {s t : ByteArray} : ∀ {l : List Nat} {e : Nat} (_ : Ok s t l e) (k : Nat) (_ : k < l.length), pb t l e k ≤ l.getD k 0 ∧ l.getD k 0 + t.size ≤ s.size ∧ s.extract (l.getD k 0) (l.getD k 0 + t.size) = t
  | a :: l, e, h, 0, _ => ⟨h.1, h.2.2.1, h.2.2.2.1⟩
  | a :: l, e, h, k + 1, hk => by
    have := Ok.at h.2.2.2.2 k (by simpa using hk)
    cases k with
    | zero => exact this
    | succ k => exact this
theorem Ok.pb_le {s t : ByteArray} {l : List Nat} {e : Nat} (h : Ok s t l e) {k : Nat} (hk : k ≤ l.length) : pb t l e k ≤ pe s l k ∧ pe s l k ≤ s.size := by
  by_cases h1 : k < l.length
  · have := h.at k h1
    have h2 : pe s l k = l.getD k 0 := by unfold pe; rw [getD_in h1, getD_in h1]
    rw [h2]; omega
  · have h2 : pe s l k = s.size := getD_out (by omega)
    rw [h2]
    refine ⟨?_, Nat.le_refl _⟩
    unfold pb
    split
    · exact h.le
    · exact (h.at (k - 1) (by omega)).2.1
theorem Ok.next {s t : ByteArray} {l : List Nat} {e : Nat} (h : Ok s t l e) {k : Nat} (hk : k < l.length) : pb t l e (k + 1) = pe s l k + t.size ∧ pe s l k + t.size ≤ s.size ∧ s.extract (pe s l k) (pe s l k + t.size) = t := by
  have := h.at k hk
  have h2 : pe s l k = l.getD k 0 := by unfold pe; rw [getD_in hk, getD_in hk]
  rw [h2]
  exact ⟨rfl, this.2.1, this.2.2⟩
def part (s t : ByteArray) (i : Int) : ByteArray :=
  let k := if i < 0 then i + (((occ s t).length + 1 : Nat) : Int) else i
  if k < 0 then ByteArray.empty else (parts s t).getD k.toNat ByteArray.empty
end Go.Proofs.YtihhejeciagdpaaDoor.Sf
