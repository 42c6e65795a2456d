/-
  Plain facts for the contract of Parse: cutting at the point, prefixes, the number of a row of digits.
-/
import Derived.Test.YtfocokjihbenmaaDoorNuText
import Derived.Lib.IndexMore
import Derived.Lib.Strings
namespace Go.Proofs.YtfocokjihbenmaaDoor.Nu

theorem cut_lib : ∀ l : List UInt8, Lib.cut l [46] = cut l
  | [] => rfl
  | b :: l => by
    have ih := cut_lib l
    have hg := Lib.index_ge l [46]
    by_cases hb : b = 46
    · subst hb
      have hI : Lib.index (46 :: l) [46] = 0 := by rw [Lib.index, if_pos (by simp [List.isPrefixOf])]
      unfold Lib.cut cut
      rw [hI, if_pos (by decide), if_pos rfl]
      rfl
    · have hp : List.isPrefixOf [46] (b :: l) = false := by
        simp only [List.isPrefixOf, Bool.and_true]
        exact beq_eq_false_iff_ne.2 fun h => hb h.symm
      have hI : Lib.index (b :: l) [46] = if Lib.index l [46] = -1 then -1 else Lib.index l [46] + 1 := by
        rw [Lib.index, hp]
        by_cases hi : Lib.index l [46] = -1
        · rw [if_pos hi, hi]; rfl
        · rw [if_neg hi, if_neg Bool.false_ne_true, if_neg (fun h => hi (beq_iff_eq.1 h))]
      unfold Lib.cut at ih ⊢
      unfold cut
      rw [if_neg hb, hI]
      by_cases hi : Lib.index l [46] = -1
      · rw [if_neg (by omega)] at ih
        rw [if_pos hi, if_neg (by omega), ← ih]
      · rw [if_pos (by omega)] at ih
        rw [if_neg hi, if_pos (by omega), ← ih]
        have e : (Lib.index l [46] + 1).toNat = (Lib.index l [46]).toNat + 1 := by omega
        rw [e, Nat.add_right_comm]
        rfl
theorem pre_lib (l : List UInt8) (c : UInt8) : Lib.hasPrefix l [c] = true ↔ l.head? = some c := by
  unfold Lib.hasPrefix
  cases l with
  | nil => simp [List.isPrefixOf]
  | cons b l =>
    simp only [List.isPrefixOf, Bool.and_true, beq_iff_eq, List.head?_cons, Option.some.injEq]
    exact eq_comm
theorem parse_neg {l : List UInt8} (h : Lib.hasPrefix l [45] = true) : parse l = pbody true (Lib.trimPrefix l [45]) := by
  unfold parse Lib.trimPrefix
  rw [if_pos ((pre_lib l 45).1 h), if_pos h]
  rfl
theorem parse_pos {l : List UInt8} (h : Lib.hasPrefix l [45] = false) : parse l = pbody false (Lib.trimPrefix l [43]) := by
  unfold parse Lib.trimPrefix
  rw [if_neg (fun e => by rw [(pre_lib l 45).2 e] at h; cases h)]
  by_cases hp : Lib.hasPrefix l [43] = true
  · rw [if_pos hp, if_pos ((pre_lib l 43).1 hp)]
    rfl
  · rw [if_neg hp, if_neg (fun e => hp ((pre_lib l 43).2 e))]
theorem cut_false : ∀ {l : List UInt8}, (cut l).2.2 = false → (cut l).2.1 = []
  | [], _ => rfl
  | b :: l, h => by
    unfold cut at h ⊢
    split at h
    · cases h
    · rename_i hb
      rw [if_neg hb]
      exact cut_false (l := l) h
theorem adB_ok {l : List UInt8} (h : adB l = true) : l.all isD = true ∧ l.length ≤ 9 := by
  unfold adB at h
  rw [Bool.and_eq_true, decide_eq_true_iff] at h
  exact ⟨h.2, h.1.2⟩
theorem id_ok {l : List UInt8} (h : idB (cut l).1 (cut l).2.1 (cut l).2.2 = true) : ((cut l).1 ++ (cut l).2.1).all isD = true ∧ (cut l).1.length ≤ 9 ∧ (cut l).2.1.length ≤ 9 := by
  unfold idB at h
  cases hp : (cut l).2.2
  · rw [hp] at h
    rw [cut_false hp, List.append_nil]
    have h2 := adB_ok h
    exact ⟨h2.1, h2.2, Nat.zero_le _⟩
  · rw [hp, if_pos rfl, Bool.and_eq_true, Bool.or_eq_true] at h
    obtain ⟨h1, h2⟩ := h
    have k2 := adB_ok h2
    rw [List.all_append]
    rcases h1 with h1 | h1
    · rw [List.isEmpty_iff.1 h1]
      exact ⟨by rw [k2.1]; rfl, Nat.zero_le _, k2.2⟩
    · have k1 := adB_ok h1
      exact ⟨by rw [k1.1, k2.1]; rfl, k1.2, k2.2⟩
theorem valFrom_lt : ∀ (l : List UInt8) (a : Nat), l.all isD = true → valFrom a l < (a + 1) * 10 ^ l.length
  | [], a, _ => by simp [valFrom]
  | x :: l, a, h => by
    rw [List.all_cons, Bool.and_eq_true] at h
    have hx : 48 ≤ x.toNat ∧ x.toNat ≤ 57 := of_decide_eq_true h.1
    have ih := valFrom_lt l (10 * a + (x.toNat - 48)) h.2
    have e : valFrom a (x :: l) = valFrom (10 * a + (x.toNat - 48)) l := rfl
    rw [e, List.length_cons, Nat.pow_succ, Nat.mul_comm (10 ^ l.length) 10, ← Nat.mul_assoc]
    exact Nat.lt_of_lt_of_le ih (Nat.mul_le_mul_right _ (by omega))
theorem val_lt {l : List UInt8} (h : l.all isD = true) : val l < 10 ^ l.length := by
  have := valFrom_lt l 0 h
  rwa [Nat.zero_add, Nat.one_mul] at this
theorem all_take {l : List UInt8} (h : l.all isD = true) (p : Nat) : (l.take p).all isD = true := by
  rw [List.all_eq_true] at h ⊢
  exact fun x hx => h x (List.mem_of_mem_take hx)
theorem val_step {l : List UInt8} {p : Nat} {x : UInt8} (hx : l[p]? = some x) : val (l.take (p + 1)) = 10 * val (l.take p) + (x.toNat - 48) := by
  rw [List.take_add_one, hx]
  unfold val
  rw [valFrom_append]
  rfl
theorem val_take_lt {l : List UInt8} (h : l.all isD = true) {p : Nat} (hp : p ≤ 17) : val (l.take p) < 100000000000000000 := by
  have h1 := val_lt (all_take h p)
  have h2 : (l.take p).length ≤ 17 := by rw [List.length_take]; omega
  have h3 : 10 ^ (l.take p).length ≤ 10 ^ 17 := Nat.pow_le_pow_right (by decide) h2
  have h4 : (10 : Nat) ^ 17 = 100000000000000000 := by decide
  omega
theorem val_18 {l : List UInt8} (h : l.all isD = true) (hl : l.length ≤ 18) : val l < 1000000000000000000 := by
  have h1 := val_lt h
  have h3 : 10 ^ l.length ≤ 10 ^ 18 := Nat.pow_le_pow_right (by decide) hl
  have h4 : (10 : Nat) ^ 18 = 1000000000000000000 := by decide
  omega
end Go.Proofs.YtfocokjihbenmaaDoor.Nu
