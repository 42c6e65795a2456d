/-
  Plain Lean for the letters and the trimmed string of package strfunc.
-/
import Derived.Shelf.Strings.SlTrimAscii
import Derived.Test.YtihhejeciagdpaaDoorSfOcc
namespace Go.Proofs.YtihhejeciagdpaaDoor.Sf
set_option linter.unusedVariables false

/-! ### Letters -/
def sm (c : UInt8) : UInt8 := if 65 ≤ c.toNat ∧ c.toNat ≤ 90 then c + 32 else c
def cp (c : UInt8) : UInt8 := if 97 ≤ c.toNat ∧ c.toNat ≤ 122 then c - 32 else c
def chg (upper : Bool) (c : UInt8) : UInt8 := if upper then cp c else sm c
theorem sm_yes {c : UInt8} (h : 65 ≤ c.toNat ∧ c.toNat ≤ 90) : ((sm c).toNat : Int) = (c.toNat : Int) + 32 := by
  unfold sm; rw [if_pos h, UInt8.toNat_add]
  show (((c.toNat + 32) % 256 : Nat) : Int) = _
  omega
theorem sm_no {c : UInt8} (h : ¬ (65 ≤ c.toNat ∧ c.toNat ≤ 90)) : sm c = c := if_neg h
theorem cp_yes {c : UInt8} (h : 97 ≤ c.toNat ∧ c.toNat ≤ 122) : ((cp c).toNat : Int) = (c.toNat : Int) - 32 := by
  unfold cp; rw [if_pos h, UInt8.toNat_sub]
  show (((256 - 32 + c.toNat) % 256 : Nat) : Int) = _
  omega
theorem cp_no {c : UInt8} (h : ¬ (97 ≤ c.toNat ∧ c.toNat ≤ 122)) : cp c = c := if_neg h
theorem sm_cp (c : UInt8) : sm (cp c) = sm c := by
  by_cases h : 97 ≤ c.toNat ∧ c.toNat ≤ 122
  · have h1 := cp_yes h
    have h2 : 65 ≤ (cp c).toNat ∧ (cp c).toNat ≤ 90 := by omega
    have h3 := sm_yes h2
    have h4 : sm c = c := sm_no (by omega)
    rw [h4]
    apply UInt8.toNat_inj.1
    omega
  · rw [cp_no h]
/-- A map over the first bytes. -/
def cs (g : UInt8 → UInt8) (n : Nat) (l : List UInt8) : List UInt8 := (l.take n).map g ++ l.drop n
theorem cs_zero (g : UInt8 → UInt8) (l : List UInt8) : cs g 0 l = l := by simp [cs]
theorem cs_len (g : UInt8 → UInt8) (n : Nat) (l : List UInt8) : (cs g n l).length = l.length := by
  unfold cs; rw [List.length_append, List.length_map, List.length_take, List.length_drop]; omega
theorem cs_all (g : UInt8 → UInt8) {n : Nat} {l : List UInt8} (h : l.length ≤ n) : cs g n l = l.map g := by
  unfold cs; rw [List.take_of_length_le h, List.drop_eq_nil_of_le h, List.append_nil]
theorem cs_get (g : UInt8 → UInt8) {n : Nat} {l : List UInt8} (h : n < l.length) : (cs g n l)[n]? = some l[n] := by
  unfold cs
  rw [List.getElem?_append_right (by simp; omega)]
  simp
  have : n - min n l.length = 0 := by omega
  rw [this, Nat.add_zero, List.getElem?_eq_getElem h]
theorem cs_set (g : UInt8 → UInt8) {n : Nat} {l : List UInt8} (h : n < l.length) : (cs g n l).set n (g l[n]) = cs g (n + 1) l := by
  unfold cs
  rw [List.drop_eq_getElem_cons h, List.set_append_right _ _ (by simp; omega)]
  simp
  have : n - min n l.length = 0 := by omega
  rw [this, List.take_add_one, List.getElem?_map, List.getElem?_eq_getElem h]
  simp
  rw [List.drop_eq_getElem_cons h]; rfl
theorem cs_one (g : UInt8 → UInt8) {s : ByteArray} (h : s.size ≠ 0) : (⟨((s.extract 0 1).data.toList.map g).toArray⟩ : ByteArray) ++ s.extract 1 s.size = ⟨(cs g 1 s.data.toList).toArray⟩ := by
  apply bs_inj
  rw [show ∀ a b : ByteArray, (a ++ b).data.toList = a.data.toList ++ b.data.toList from fun a b => by rw [ByteArray.data_append, Array.toList_append], ext_tail, ext_list]
  rfl

/-! ### Trimmed -/
def bl : List UInt8 := [9, 10, 13, 32]
def tr (l : List UInt8) : List UInt8 := Lib.trimS l bl
def spc (c : UInt8) : Bool := bl.contains c
theorem spc_eq (c : UInt8) : spc c = ((c.toNat : Int) == 9 || ((c.toNat : Int) == 10 || ((c.toNat : Int) == 13 || (c.toNat : Int) == 32))) := by
  have h : ∀ k : UInt8, (c == k) = ((c.toNat : Int) == (k.toNat : Int)) := fun k => by
    rw [Bool.eq_iff_iff, beq_iff_eq, beq_iff_eq, Int.ofNat_inj, UInt8.toNat_inj]
  unfold spc bl
  simp only [List.contains_cons, List.contains_nil, Bool.or_false, h]
  rfl
def trL (l : List UInt8) : List UInt8 := l.dropWhile spc
def trR (l : List UInt8) : List UInt8 := (l.reverse.dropWhile spc).reverse
theorem tr_eq (l : List UInt8) : tr l = trL (trR l) := rfl
theorem trR_cons (c : UInt8) (l : List UInt8) : trR (c :: l) = if trR l = [] ∧ spc c = true then [] else c :: trR l := by
  unfold trR
  rw [List.reverse_cons, List.dropWhile_append]
  by_cases h : (l.reverse.dropWhile spc) = []
  · rw [h]
    cases hc : spc c
    · simp [List.dropWhile, hc]
    · simp [List.dropWhile, hc]
  · have h2 : (l.reverse.dropWhile spc).isEmpty = false := by
      cases hq : l.reverse.dropWhile spc with
      | nil => exact absurd hq h
      | cons _ _ => rfl
    rw [h2]
    simp [h]
theorem trL_yes {c : UInt8} (h : spc c = true) (l : List UInt8) : trL (c :: l) = trL l := by unfold trL; rw [List.dropWhile_cons, if_pos h]
theorem trL_no {c : UInt8} (h : spc c = false) (l : List UInt8) : trL (c :: l) = c :: l := by unfold trL; rw [List.dropWhile_cons, h]; rfl
theorem tr_swap (l : List UInt8) : trL (trR l) = trR (trL l) := by
  induction l with
  | nil => rfl
  | cons c l ih =>
    cases hc : spc c
    · rw [trL_no hc, trR_cons, if_neg (by rw [hc]; exact fun h => by cases h.2), trL_no hc]
    · rw [trL_yes hc, trR_cons, ← ih]
      by_cases h : trR l = []
      · rw [if_pos ⟨h, hc⟩, h]
      · rw [if_neg (fun hh => h hh.1), trL_yes hc]
theorem trL_idem (l : List UInt8) : trL (trL l) = trL l := by
  induction l with
  | nil => rfl
  | cons c l ih =>
    cases hc : spc c
    · rw [trL_no hc, trL_no hc]
    · rw [trL_yes hc, ih]
theorem trR_idem (l : List UInt8) : trR (trR l) = trR l := by
  have h := trL_idem l.reverse
  unfold trL at h
  unfold trR
  rw [List.reverse_reverse, h]
theorem tr_idem (l : List UInt8) : tr (tr l) = tr l := by
  rw [tr_eq, tr_eq, tr_swap (trL (trR l)), trL_idem, ← tr_swap (trR l), trR_idem]
theorem trR_snoc (l : List UInt8) (c : UInt8) : trR (l ++ [c]) = if spc c = true then trR l else l ++ [c] := by
  unfold trR
  rw [List.reverse_append, List.reverse_singleton, List.singleton_append, List.dropWhile_cons]
  cases hc : spc c
  · simp
  · simp
theorem str_cons {s : ByteArray} (h : 0 < s.size) : s.data.toList = s[0] :: (s.extract 1 s.size).data.toList := by
  rw [ext_tail]
  exact (List.drop_eq_getElem_cons (i := 0) (by rw [size_list]; exact h))
theorem str_snoc {s : ByteArray} (h : 0 < s.size) : s.data.toList = (s.extract 0 (s.size - 1)).data.toList ++ [s[s.size - 1]] := by
  rw [ext_list, List.drop_zero, Nat.sub_zero]
  have h2 := (List.take_append_getElem (l := s.data.toList) (i := s.size - 1) (by rw [size_list]; omega)).symm
  rw [List.take_of_length_le (by rw [size_list]; omega)] at h2
  exact h2
theorem trL_str_yes {s : ByteArray} (h : 0 < s.size) (hc : spc s[0] = true) : trL s.data.toList = trL (s.extract 1 s.size).data.toList := by rw [str_cons h, trL_yes hc]
theorem trL_str_no {s : ByteArray} (h : 0 < s.size) (hc : spc s[0] = false) : trL s.data.toList = s.data.toList := by
  have h1 := str_cons h
  rw [h1, trL_no hc]
theorem trR_str_yes {s : ByteArray} (h : 0 < s.size) (hc : spc s[s.size - 1] = true) : trR s.data.toList = trR (s.extract 0 (s.size - 1)).data.toList := by rw [str_snoc h, trR_snoc, if_pos hc]
theorem trR_str_no {s : ByteArray} (h : 0 < s.size) (hc : spc s[s.size - 1] = false) : trR s.data.toList = s.data.toList := by
  have h1 := str_snoc h
  rw [h1, trR_snoc, if_neg (by rw [hc]; exact Bool.false_ne_true)]
theorem list_nil {s : ByteArray} (h : s.size = 0) : s.data.toList = [] := List.length_eq_zero_iff.1 (by rw [size_list]; exact h)
end Go.Proofs.YtihhejeciagdpaaDoor.Sf
