/-
  Plain Lean for the reference of package strfunc.
-/
import Derived.Test.YtihhejeciagdpaaSfPd
namespace Go.Proofs.Ytihhejeciagdpaa.Sf
set_option linter.unusedVariables false

theorem al_len (s : ByteArray) : (al s).length = rc s + 1 := by simp [al, rc]
theorem al_at (s : ByteArray) {i : Nat} (h : i ≤ rc s) : (al s)[i]? = some (ag s i) := by
  unfold al
  by_cases h1 : i < (sts s).length
  · rw [List.getElem?_append_left h1, List.getElem?_eq_getElem h1, ag_get h1]
  · have h2 : i - (sts s).length = 0 := by unfold rc at h; omega
    rw [List.getElem?_append_right (by omega), h2, ag_end (by unfold rc; omega)]; rfl
theorem al_drop (s : ByteArray) {i : Nat} (h : i ≤ rc s) : (al s).drop i = ag s i :: (al s).drop (i + 1) := by
  have hl : i < (al s).length := by rw [al_len]; omega
  rw [List.drop_eq_getElem_cons hl]
  congr 1
  have := al_at s h
  rw [List.getElem?_eq_getElem hl] at this
  exact Option.some.inj this
theorem al_past (s : ByteArray) : (al s).drop (rc s + 1) = [] := List.drop_eq_nil_of_le (by rw [al_len]; exact Nat.le_refl _)
/-! ### Slice -/
theorem slice_pos {s : ByteArray} {f n : Int} {F : Nat} (hF : slF s f = F) (hn : ¬ n < 0) : slice s f n = s.extract (ag s F) (ag s (F + min n.toNat (rc s - F))) := by
  unfold slice slN sl
  rw [hF, if_neg hn]
  rcases Nat.le_total n.toNat (rc s - F) with h | h
  · rw [Nat.min_eq_left h]
  · rw [Nat.min_eq_right h, ag_end (s := s) (i := F + n.toNat) (by omega), ag_end (s := s) (i := F + (rc s - F)) (by omega)]
theorem slice_neg {s : ByteArray} {f n : Int} {F : Nat} (hF : slF s f = F) (hn : n < 0) : slice s f n = s.extract (ag s F) (ag s (F + slN s F n)) := by
  unfold slice sl
  rw [hF]
theorem slice_out {s : ByteArray} {f n : Int} {F : Nat} (hF : slF s f = F) (h : rc s < F) : slice s f n = ⟨#[]⟩ := by
  unfold slice sl
  rw [hF, ag_end (s := s) (i := F) (by omega), ag_end (s := s) (i := F + _) (by omega)]
  apply bs_inj
  rw [ext_list, Nat.sub_self, List.take_zero]
/-! ### Occurrences -/
theorem oc_step (s t : ByteArray) {i e : Nat} (h : i ≤ rc s) : oc s t ((al s).drop i) e = if (t.size ≠ 0 ∧ e ≤ ag s i) ∧ hasP s t (ag s i) = true then ag s i :: oc s t ((al s).drop (i + 1)) (ag s i + t.size) else oc s t ((al s).drop (i + 1)) e := by
  rw [al_drop s h, oc]
theorem oc_past (s t : ByteArray) (e : Nat) : oc s t ((al s).drop (rc s + 1)) e = [] := by rw [al_past]; rfl
theorem Ok.bound {s t : ByteArray} : ∀ {l : List Nat} {e : Nat} (_ : Ok s t l e), ∀ a, a ∈ l → a + t.size ≤ s.size
  | a :: l, e, h, b, hb => by
    rcases List.mem_cons.1 hb with rfl | hb
    · exact h.2.2.1
    · exact Ok.bound h.2.2.2.2 b hb
theorem Ok.from_le {s t : ByteArray} : ∀ {l : List Nat} {e : Nat} (_ : Ok s t l e), ∀ a, a ∈ l → e ≤ a
  | a :: l, e, h, b, hb => by
    rcases List.mem_cons.1 hb with rfl | hb
    · exact h.1
    · have := Ok.from_le h.2.2.2.2 b hb; have h1 : e ≤ a := h.1; omega
/-! ### Replacements -/
theorem rl_drop {s t u : ByteArray} {l : List Nat} {i f : Nat} (h : i < l.length) : rl s t u (l.drop i) f = (s.extract f l[i]).data.toList ++ (u.data.toList ++ rl s t u (l.drop (i + 1)) (l[i] + t.size)) := by
  rw [List.drop_eq_getElem_cons h]; rfl
theorem rl_past {s t u : ByteArray} {l : List Nat} {f : Nat} : rl s t u (l.drop l.length) f = (s.extract f s.size).data.toList := by
  rw [List.drop_length]; rfl
theorem Ok.drop_at {s t : ByteArray} : ∀ {l : List Nat} {e : Nat} (_ : Ok s t l e) (i : Nat) (_ : i ≤ l.length), Ok s t (l.drop i) (pb t l e i)
  | l, e, h, 0, _ => h
  | a :: l, e, h, i + 1, hi => by
    have := Ok.drop_at h.2.2.2.2 i (by simpa using hi)
    cases i with
    | zero => exact this
    | succ i => exact this
/-! ### Parts -/
theorem dv_drop {s t : ByteArray} {l : List Nat} {i f : Nat} (h : i < l.length) : dv s t (l.drop i) f = s.extract f l[i] :: dv s t (l.drop (i + 1)) (l[i] + t.size) := by
  rw [List.drop_eq_getElem_cons h]; rfl
theorem dv_past {s t : ByteArray} {l : List Nat} {f : Nat} : dv s t (l.drop l.length) f = [s.extract f s.size] := by
  rw [List.drop_length]; rfl
end Go.Proofs.Ytihhejeciagdpaa.Sf
