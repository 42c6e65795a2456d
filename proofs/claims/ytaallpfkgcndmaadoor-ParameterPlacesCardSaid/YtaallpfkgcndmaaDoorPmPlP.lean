/-
  What positional arguments give: plain facts.
-/
import Derived.Test.YtaallpfkgcndmaaDoorPmLawSO
import Derived.Test.YtaallpfkgcndmaaDoorPmApp
namespace Go.Proofs.YtaallpfkgcndmaaDoor.Pm
open Go.RowKit Go.Shelf
set_option linter.unusedVariables false
set_option linter.unusedSimpArgs false

theorem ofNat_inj {a b : Nat} (ha : a < 10) (hb : b < 10) (h : UInt8.ofNat (48 + a) = UInt8.ofNat (48 + b)) : a = b := by
  have := congrArg UInt8.toNat h
  simp only [UInt8.toNat_ofNat'] at this
  omega
theorem dec_inj {j k : Nat} (hj : j < 100) (hk : k < 100) (h : dec j = dec k) : j = k := by
  unfold dec at h
  by_cases h1 : j < 10
  · by_cases h2 : k < 10
    · rw [dec_small h1, dec_small h2] at h
      injection h with h _
      exact ofNat_inj h1 h2 h
    · rw [dec_small h1, dec_big (x := k) (by omega), dec_small (x := k / 10) (by omega)] at h
      have := congrArg List.length h; simp at this
  · by_cases h2 : k < 10
    · rw [dec_small h2, dec_big (x := j) (by omega), dec_small (x := j / 10) (by omega)] at h
      have := congrArg List.length h; simp at this
    · rw [dec_big (x := j) (by omega), dec_small (x := j / 10) (by omega), dec_big (x := k) (by omega), dec_small (x := k / 10) (by omega)] at h
      simp only [List.singleton_append, List.cons.injEq, and_true] at h
      have e1 := ofNat_inj (by omega) (by omega) h.1
      have e2 := ofNat_inj (by omega) (by omega) h.2
      omega
theorem put_new {n t : By} : ∀ {l : List Bd}, (∀ p ∈ l, p.1 ≠ n) → (put n t l).length = l.length + 1 := by
  intro l h
  have hf : ∀ r : List Bd, (∀ p ∈ r, p.1 ≠ n) → r.filter (fun p => decide (p.1 ≠ n)) = r := fun r hr => List.filter_eq_self.2 (fun p hp => by simpa using hr p hp)
  unfold put
  induction l with
  | nil => rfl
  | cons x r ih =>
    have hx := h x List.mem_cons_self
    have hr := fun p hp => h p (List.mem_cons_of_mem _ hp)
    by_cases h1 : n ≤ x.1
    · have e : rput n t false (x :: r) = (n, t) :: x :: r.filter (fun p => decide (p.1 ≠ n)) := by simp [rput, h1, hx, rput_true]
      rw [e, hf r hr]; simp
    · have e : rput n t false (x :: r) = x :: rput n t false r := by simp [rput, h1, hx]
      rw [e, List.length_cons, ih hr, List.length_cons]
/-- Pairs of different names, put one after the other. -/
theorem fold_new : ∀ (P a : List Bd), P.Pairwise (fun x y => x.1 ≠ y.1) → (∀ p ∈ P, ∀ q ∈ a, q.1 ≠ p.1) → (P.foldl (fun a p => put p.1 p.2 a) a).length = a.length + P.length ∧ ∀ p, (p ∈ a ∨ p ∈ P) → p ∈ P.foldl (fun a p => put p.1 p.2 a) a
  | [], a, _, _ => ⟨rfl, fun p hp => by
      rcases hp with h | h
      · exact h
      · cases h⟩
  | x :: r, a, hP, hd => by
    obtain ⟨hx, hr⟩ := List.pairwise_cons.1 hP
    have hd2 : ∀ p ∈ r, ∀ q ∈ put x.1 x.2 a, q.1 ≠ p.1 := fun p hp q hq => by
      rcases (mem_put x.1 x.2 q a).1 hq with rfl | ⟨hq, _⟩
      · exact hx p hp
      · exact hd p (List.mem_cons_of_mem _ hp) q hq
    obtain ⟨h1, h2⟩ := fold_new r (put x.1 x.2 a) hr hd2
    refine ⟨?_, fun p hp => ?_⟩
    · rw [List.foldl_cons, h1, put_new (hd x List.mem_cons_self), List.length_cons]; omega
    · refine h2 p ?_
      rcases hp with h | h
      · by_cases he : p.1 = x.1
        · exact absurd he (hd x List.mem_cons_self p h)
        · exact .inl ((mem_put x.1 x.2 p a).2 (.inr ⟨h, he⟩))
      · rcases List.mem_cons.1 h with rfl | h
        · exact .inl ((mem_put p.1 p.2 p a).2 (.inl rfl))
        · exact .inr h
/-- The arguments of the law. -/
def pos (l : List By) : List Val := l.map fun t => (false, [120], t)
theorem puts_pos : ∀ (l : List By) (k : Nat), puts dec tr k (pos l) = (l.zipIdx (k + 1)).map fun x => (dec x.2, x.1)
  | [], _ => rfl
  | t :: r, k => by
    show (dec (k + 1), t) :: puts dec tr (k + 1) (pos r) = _
    rw [puts_pos r (k + 1), List.zipIdx_cons, List.map_cons]
theorem pw_pos (l : List By) (hl : l.length < 90) : (puts dec tr 0 (pos l)).Pairwise (fun x y => x.1 ≠ y.1) := by
  rw [puts_pos, List.pairwise_map, List.pairwise_iff_getElem]
  intro i j hi hj hij h
  rw [List.getElem_zipIdx, List.getElem_zipIdx] at h
  simp only [List.length_zipIdx] at hi hj
  have := dec_inj (by omega) (by omega) h
  omega
theorem bind_pos (l : List By) (hl : l.length < 90) : (bind (puts dec tr 0 (pos l))).length = l.length ∧ ∀ (k : Nat) (h : k < l.length), find (dec (k + 1)) (bind (puts dec tr 0 (pos l))) = some l[k] := by
  obtain ⟨h1, h2⟩ := fold_new (puts dec tr 0 (pos l)) [] (pw_pos l hl) (fun p _ q hq => by cases hq)
  refine ⟨?_, fun k h => ?_⟩
  · unfold bind; rw [h1, len_puts]; simp [pos]
  · refine find_asc (asc_bind _) (h2 _ (.inr ?_))
    rw [puts_pos]
    refine List.mem_map.2 ⟨(l[k], k + 1), ?_, rfl⟩
    rw [List.mem_iff_getElem]
    exact ⟨k, by simpa using h, by rw [List.getElem_zipIdx]; simp [Nat.add_comm]⟩
theorem tr_around {l : By} (h : ∀ c ∈ l, spc c = false) : tr ([32] ++ l ++ [10]) = l := by
  rw [tr_eq, trR_snoc, if_pos (by decide), tr_swap]
  show trR (trL (32 :: l)) = l
  rw [trL_yes (by decide), ← tr_swap]
  exact tr_id h
theorem asked (k : Nat) (h : k < 100) : tr ((⟨#[32]⟩ : ByteArray) ++ bsl (dec k) ++ ⟨#[10]⟩).data.toList = dec k := by
  have e : ((⟨#[32]⟩ : ByteArray) ++ bsl (dec k) ++ ⟨#[10]⟩).data.toList = [32] ++ dec k ++ [10] := by
    rw [ByteArray.data_append, ByteArray.data_append, Array.toList_append, Array.toList_append]; rfl
  rw [e, tr_around (dec_spc h)]
theorem pos_sm {l : List By} (hl : l.length ≤ 61) (ht : ∀ t ∈ l, t.length ≤ 300) : Sm (pos l) := by
  refine ⟨by simpa [pos] using hl, fun x hx => ?_, fun x hx => ?_⟩
  · obtain ⟨t, h1, rfl⟩ := List.mem_map.1 hx; simp
  · obtain ⟨t, h1, rfl⟩ := List.mem_map.1 hx; exact ht t h1
theorem pos_snoc (l : List By) (t : By) : pos (l ++ [t]) = pos l ++ [(false, [120], t)] := by simp [pos]
theorem pos_len (l : List By) : (pos l).length = l.length := by simp [pos]
theorem and_ffff (n : Int) : 0 ≤ bits .and .i64 n 65535 ∧ bits .and .i64 n 65535 ≤ 65535 := by
  have h2 : (BitVec.ofInt 64 65535).toNat = 65535 := by decide
  have h3 : (BitVec.ofInt 64 n).toNat &&& 65535 ≤ 65535 := Nat.and_le_right
  have e : bits .and .i64 n 65535 = IntKind.i64.wrap ((BitVec.ofInt 64 n &&& BitVec.ofInt 64 65535).toNat : Int) := rfl
  rw [e, BitVec.toNat_and, h2, IntKind.wrap_i64]
  omega
end Go.Proofs.YtaallpfkgcndmaaDoor.Pm
