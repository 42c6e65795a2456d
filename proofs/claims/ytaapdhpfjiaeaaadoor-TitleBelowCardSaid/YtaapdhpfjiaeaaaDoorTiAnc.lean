/-
  The ancestors of a name: plain facts.
-/
import Derived.Test.YtaapdhpfjiaeaaaDoorTiRound
namespace Go.Proofs.YtaapdhpfjiaeaaaDoor.Ti
open Go.Proofs.YtaapdhpfjiaeaaaDoor.Rf

/-- The beginnings of l before each of its slashes among its first k bytes. -/
def ancK (l : List UInt8) : Nat → List (List UInt8)
  | 0 => []
  | k + 1 => ancK l k ++ (if l[k]? = some 47 then [l.take k] else [])
def ancestors (sp : Int) (l : List UInt8) : List (Int × List UInt8) := if valid sp l = true then (ancK l l.length).map fun x => (sp, x) else []
theorem ancK_len (l : List UInt8) : ∀ k, (ancK l k).length ≤ k
  | 0 => Nat.le_refl _
  | k + 1 => by
    have := ancK_len l k
    rw [ancK, List.length_append]
    split <;> simp <;> omega
theorem ancK_yes {l : List UInt8} {k : Nat} (h : l[k]? = some 47) : ancK l (k + 1) = ancK l k ++ [l.take k] := by rw [ancK, if_pos h]
theorem ancK_no {l : List UInt8} {k : Nat} (h : ¬ l[k]? = some 47) : ancK l (k + 1) = ancK l k := by rw [ancK, if_neg h]; simp
theorem ancK_take (l : List UInt8) (j : Nat) : ∀ k, k ≤ j → ancK (l.take j) k = ancK l k
  | 0, _ => rfl
  | k + 1, h => by
    have e1 : (l.take j)[k]? = l[k]? := by rw [List.getElem?_take, if_pos (by omega)]
    have e2 : (l.take j).take k = l.take k := by rw [List.take_take, Nat.min_eq_left (by omega)]
    rw [ancK, ancK, ancK_take l j k (by omega), e1, e2]
theorem ancK_at (l : List UInt8) : ∀ (n i : Nat), i < (ancK l n).length → ∃ j, j < n ∧ l[j]? = some 47 ∧ (ancK l n)[i]? = some (l.take j) ∧ (ancK l n).take i = ancK l j
  | 0, i, h => by simp [ancK] at h
  | n + 1, i, h => by
    by_cases hs : l[n]? = some 47
    · rw [ancK_yes hs] at h ⊢
      by_cases hi : i < (ancK l n).length
      · obtain ⟨j, a, b, c, d⟩ := ancK_at l n i hi
        exact ⟨j, by omega, b, by rw [List.getElem?_append_left hi]; exact c, by rw [List.take_append_of_le_length (by omega)]; exact d⟩
      · have he : i = (ancK l n).length := by simp at h; omega
        subst he
        exact ⟨n, by omega, hs, by simp, by simp⟩
    · rw [ancK_no hs] at h ⊢
      obtain ⟨j, a, b, c, d⟩ := ancK_at l n i h
      exact ⟨j, by omega, b, c, d⟩
theorem parts_split (c : UInt8) (b : List UInt8) : ∀ a : List UInt8, parts c (a ++ c :: b) = parts c a ++ parts c b
  | [] => by rw [List.nil_append, parts_cons_eq]; rfl
  | x :: a => by
    rw [List.cons_append]
    by_cases h : x = c
    · subst h; rw [parts_cons_eq, parts_cons_eq, parts_split x b a]; rfl
    · obtain ⟨p, q, e⟩ := parts_ne c a
      rw [parts_cons_ne h e, parts_cons_ne h (p := p) (q := q ++ parts c b) (by rw [parts_split c b a, e]; rfl)]; rfl
theorem at_split {l : List UInt8} {j : Nat} {c : UInt8} (h : l[j]? = some c) : l = l.take j ++ c :: l.drop (j + 1) := by
  obtain ⟨hj, e⟩ := List.getElem?_eq_some_iff.1 h
  rw [← e, List.getElem_cons_drop hj, List.take_append_drop]
theorem vparts_take {l : List UInt8} {j : Nat} (h : l[j]? = some 47) (hv : vparts l = true) : vparts (l.take j) = true := by
  rw [at_split h, vparts, parts_split, List.all_append, Bool.and_eq_true] at hv
  exact hv.1
theorem space_take {l : List UInt8} (j : Nat) (h : space l = 0) : space (l.take j) = 0 := by
  unfold space at h ⊢
  by_cases hf : 0 ≤ Lib.index (l.take j) [58]
  · have e : Lib.index l [58] = Lib.index (l.take j) [58] := by
      rcases Lib.index_spec (l.take j) [58] with ⟨h1, _⟩ | ⟨i, h1, h2, h3, h4⟩
      · omega
      · rw [h1]
        have hr := Lib.index_room (l.take j) [58] hf
        rw [h1, List.length_take] at hr
        simp at hr
        apply Lib.index_first
        · omega
        · unfold Lib.occAt at h3 ⊢
          rw [List.isPrefixOf_iff_prefix] at h3 ⊢
          rw [List.drop_take] at h3
          exact h3.trans (List.take_prefix _ _)
        · intro k hk
          have h5 := h4 k hk
          cases e : Lib.occAt l [58] k
          · rfl
          · unfold Lib.occAt at h5 e
            rw [List.isPrefixOf_iff_prefix] at e
            obtain ⟨r, hr'⟩ := e
            have : [58].isPrefixOf ((l.take j).drop k) = true := by
              rw [List.drop_take, ← hr']
              obtain ⟨m, hm⟩ : ∃ m, j - k = m + 1 := ⟨j - k - 1, by omega⟩
              rw [hm]; simp [List.isPrefixOf]
            rw [this] at h5; cases h5
    have e1 : Lib.cut (l.take j) [58] = ((l.take j).take (Lib.index (l.take j) [58]).toNat, (l.take j).drop ((Lib.index (l.take j) [58]).toNat + 1), true) := by unfold Lib.cut; rw [if_pos hf]; rfl
    have e2 : (Lib.cut l [58]).1 = (l.take j).take (Lib.index (l.take j) [58]).toNat ∧ (Lib.cut l [58]).2.2 = true := by
      unfold Lib.cut; rw [e, if_pos hf]
      have hr := Lib.index_room (l.take j) [58] hf
      rw [List.length_take] at hr
      simp at hr
      refine ⟨?_, rfl⟩
      simp only
      rw [List.take_take, Nat.min_eq_left (by omega)]
    rw [e2.1, if_pos e2.2] at h
    rw [e1]; simpa using h
  · have e1 : (Lib.cut (l.take j) [58]).2.2 = false := by unfold Lib.cut; rw [if_neg hf]
    rw [e1]; simp
theorem vbytes_take {l : List UInt8} (j : Nat) (h : vbytes l = true) : vbytes (l.take j) = true := by
  unfold vbytes at h ⊢
  rw [Bool.and_eq_true] at h ⊢
  refine ⟨?_, ?_⟩
  · rw [List.all_eq_true] at h ⊢
    exact fun x hx => h.1 x (List.mem_of_mem_take hx)
  · have h2 := h.2
    unfold Lib.contains at h2 ⊢
    simp only [Bool.not_eq_true', decide_eq_false_iff_not] at h2 ⊢
    intro hc
    apply h2
    rcases Lib.index_spec (l.take j) [32, 32] with ⟨h1, _⟩ | ⟨i, h1, h3, h4, _⟩
    · omega
    · rcases Lib.index_spec l [32, 32] with ⟨h5, h6⟩ | ⟨k, h5, _⟩
      · have h7 := h6 i (by rw [List.length_take] at h3; omega)
        unfold Lib.occAt at h4 h7
        rw [List.isPrefixOf_iff_prefix] at h4
        rw [List.drop_take] at h4
        have h8 := List.isPrefixOf_iff_prefix.2 (h4.trans (List.take_prefix _ _))
        rw [h8] at h7; cases h7
      · omega
/-- A title above a valid title is valid. -/
theorem valid_take {sp : Int} {l : List UInt8} {j : Nat} (hv : valid sp l = true) (h : l[j]? = some 47) : valid sp (l.take j) = true := by
  have hj := (List.getElem?_eq_some_iff.1 h).1
  unfold valid at hv
  split at hv
  · cases hv
  · rename_i h1
    split at hv
    · cases hv
    · rename_i h2
      split at hv
      · cases hv
      · rename_i h3
        split at hv
        · cases hv
        · rename_i h4
          rw [Bool.and_eq_true] at hv
          obtain ⟨_, c, r, hl, _, hc⟩ := js_vparts hv.2
          have hj1 : 1 ≤ j := by
            cases j with
            | zero => rw [hl] at h; simp at h; exact absurd h hc
            | succ j => omega
          have hh : (l.take j).head? = l.head? := by
            obtain ⟨m, rfl⟩ : ∃ m, j = m + 1 := ⟨j - 1, by omega⟩
            rw [hl]; rfl
          unfold valid
          rw [if_neg h1, if_neg (by rw [List.length_take]; omega), hh, if_neg h3, if_neg (fun q => h4 ⟨q.1, fun e => q.2 (space_take j e)⟩), Bool.and_eq_true]
          exact ⟨vbytes_take j hv.1, vparts_take h hv.2⟩
theorem anc_take {sp : Int} {l : List UInt8} {i : Nat} (h : i < (ancestors sp l).length) : ∃ x : List UInt8, (ancestors sp l)[i]? = some (sp, x) ∧ valid sp x = true ∧ x.length < l.length ∧ ancestors sp x = (ancestors sp l).take i ∧ x.length ≤ 100 := by
  unfold ancestors at h ⊢
  by_cases hv : valid sp l = true
  · rw [if_pos hv] at h ⊢
    simp at h
    obtain ⟨j, a, b, c, d⟩ := ancK_at l l.length i h
    have hv' := valid_take hv b
    refine ⟨l.take j, by rw [List.getElem?_map, c]; rfl, hv', by rw [List.length_take]; omega, ?_, ?_⟩
    · rw [if_pos hv', List.length_take, Nat.min_eq_left (by omega), ancK_take l j j (Nat.le_refl _), ← List.map_take, d]
    · have hl : l.length ≤ 100 := by
        unfold valid at hv
        split at hv
        · cases hv
        · split at hv
          · cases hv
          · omega
      rw [List.length_take]; omega
  · rw [if_neg hv] at h; simp at h
end Go.Proofs.YtaapdhpfjiaeaaaDoor.Ti
