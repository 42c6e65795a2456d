/-
  The contracts of the reference's At, Index and run.
-/
import Derived.Test.YtdogoblnblkogaaDoorTkRTag
import Derived.Test.YtdogoblnblkogaaDoorTkRPure
namespace Go.Proofs.YtdogoblnblkogaaDoor.Tk
open Go.RowKit

theorem At_any (s t : ByteArray) (i : Nat) (w : World) (hi : i ≤ s.size) (hs : s.size ≤ 65536) :
    Calls Tryd.prog 71 #[.string s, .int .i64 (i : Int), .string t] w fun e w' => e = .returned (.bool (Lib.hasPrefix (s.data.toList.drop i) t.data.toList)) ∧ w = w' := by
  have h1 : (i : Int) ≤ (s.size : Int) := by omega
  by_cases h2 : i + t.size ≤ s.size
  · have h3 : (t.size : Int) ≤ (s.size : Int) - (i : Int) := by omega
    have h4 : i + t.size ≤ s.size := h2
    have h5 : (i : Int) + (t.size : Int) ≤ (s.size : Int) := by omega
    have h6 : t.size ≤ s.size - i := by omega
    have HO : Hid (Lib.hasPrefix (s.data.toList.drop i) t.data.toList = ((s.extract i (i + t.size)).toList == t.toList)) := Lib.hid (Lib.occ_of_piece s t i h2)
    go_enter Tryd.func71, Tryd.ntmps71
    go_wp2
    go_ret
    exact ⟨ret_bool (by rw [HO.out]), rfl⟩
  · have h3 : decide ((t.size : Int) ≤ (s.size : Int) - (i : Int)) = false := by simp; omega
    have h3' : ¬ (t.size : Int) ≤ (s.size : Int) - (i : Int) := by omega
    have HO : Hid (Lib.hasPrefix (s.data.toList.drop i) t.data.toList = false) := Lib.hid (by
      cases e : Lib.hasPrefix (s.data.toList.drop i) t.data.toList
      · rfl
      · have := hp_len e
        rw [List.length_drop] at this
        have a1 : s.data.toList.length = s.size := rfl
        have a2 : t.data.toList.length = t.size := rfl
        have a3 : t.data.toList.length = 0 ∨ i + t.size ≤ s.size := by omega
        omega)
    go_enter Tryd.func71, Tryd.ntmps71
    go_wp2
    go_ret
    exact ⟨ret_bool (by rw [HO.out]), rfl⟩

/-- The first index from f on at which t stands in s, or -1. -/
def indexFrom (s t : List UInt8) (f : Nat) : Int := if Lib.index (s.drop f) t = -1 then -1 else Lib.index (s.drop f) t + f
theorem indexFrom_zero (s t : List UInt8) : indexFrom s t 0 = Lib.index s t := by
  unfold indexFrom
  rw [List.drop_zero]
  split
  · exact (by assumption : Lib.index s t = -1).symm
  · omega
theorem indexFrom_hit {s t : List UInt8} {f i : Nat} (hf : f ≤ i) (hi : i ≤ s.length) (h : Lib.occAt s t i = true) (hn : ∀ j, f ≤ j → j < i → Lib.occAt s t j = false) : indexFrom s t f = i := by
  have e : Lib.index (s.drop f) t = ((i - f : Nat) : Int) := by
    apply Lib.index_first
    · simp; omega
    · unfold Lib.occAt at h ⊢; rw [List.drop_drop, show f + (i - f) = i from by omega]; exact h
    · intro j hj
      have := hn (f + j) (by omega) (by omega)
      unfold Lib.occAt at this ⊢; rw [List.drop_drop]; exact this
  unfold indexFrom
  rw [e, if_neg (by omega)]
  omega
theorem indexFrom_none {s t : List UInt8} {f : Nat} (hn : ∀ j, f ≤ j → j ≤ s.length → Lib.occAt s t j = false) (hf : f ≤ s.length) : indexFrom s t f = -1 := by
  unfold indexFrom
  rcases Lib.index_spec (s.drop f) t with ⟨h, _⟩ | ⟨i, _, hi, ho, _⟩
  · rw [if_pos h]
  · have := hn (f + i) (by omega) (by simp at hi; omega)
    unfold Lib.occAt at ho this
    rw [List.drop_drop] at ho
    rw [ho] at this; cases this

set_option maxHeartbeats 400000 in
theorem Index_any (s t : ByteArray) (f : Nat) (w : World) (hf : f ≤ s.size) (hs : s.size < 4294967281) (ht : t.size < 4294967281) :
    Calls Tryd.prog 72 #[.string s, .string t, .int .i64 (f : Int)] w fun e w' => e = .returned (.int .i64 (indexFrom s.data.toList t.data.toList f)) ∧ w = w' := by
  go_enter Tryd.func72, Tryd.ntmps72
  go_wp2
  go_loop [7] (fun i => ∃ k : Nat, f ≤ k ∧ k ≤ s.size + 1 ∧ i = .int .i64 k ∧ Hid (∀ j, f ≤ j → j < k → Lib.occAt s.data.toList t.data.toList j = false)) (fun i => s.size + 1 - (intOf i).toNat)
  case atStart => exact ⟨f, by omega, by omega, rfl, Lib.hid fun j h1 h2 => by omega⟩
  case round =>
    obtain ⟨k, hk1, hk2, rfl, hr⟩ := hrel
    by_cases hlt : k + t.size ≤ s.size
    · have e1 : (k : Int) + (t.size : Int) ≤ (s.size : Int) := by omega
      cases ho : Lib.occAt s.data.toList t.data.toList k
      · have hd : ((s.extract k (k + t.size)).toList == t.toList) = false := by rw [← Lib.occ_of_piece s t k hlt]; exact ho
        have HO := Lib.hid ho; clear ho
        go_wp2
        go_round
        case rel => exact ⟨k + 1, by omega, by omega, by go_num, Lib.hid fun j h1 h2 => by
          by_cases hj : j = k
          · subst hj; exact HO.out
          · exact hr.out j h1 (by omega)⟩
        case measure => simp [intOf]; omega
      · have hd : ((s.extract k (k + t.size)).toList == t.toList) = true := by rw [← Lib.occ_of_piece s t k hlt]; exact ho
        have HF := Lib.hid (indexFrom_hit hk1 (by show k ≤ s.size; omega) ho hr.out)
        clear ho
        go_wp2
        go_ret
        exact ⟨ret_int (by rw [HF.out]), rfl⟩
    · have e1 : ¬ (k : Int) + (t.size : Int) ≤ (s.size : Int) := by omega
      have HF := Lib.hid (indexFrom_none (s := s.data.toList) (t := t.data.toList) (f := f) (fun j h1 h2 => by
        by_cases hj : j < k
        · exact hr.out j h1 hj
        · cases ho : Lib.occAt s.data.toList t.data.toList j
          · rfl
          · rcases Lib.occAt_room ho with h' | h'
            · have a1 : s.data.toList.length = s.size := rfl
              have a2 : t.data.toList.length = t.size := rfl
              omega
            · have a2 : t.size = 0 := by have : t.data.toList.length = t.size := rfl; rw [h'] at this; simpa using this.symm
              have a1 : s.data.toList.length = s.size := rfl
              omega) (by show f ≤ s.size; omega))
      go_wp2
      go_ret
      exact ⟨ret_int (by rw [HF.out]), rfl⟩

theorem run_step {c : UInt8} {l : List UInt8} {k : Nat} (h : k < l.length) (he : l[k] = c) : run c (l.drop k) = 1 + run c (l.drop (k + 1)) := by
  rw [List.drop_eq_getElem_cons h]; unfold run
  rw [List.takeWhile_cons_of_pos (by simpa using he), List.length_cons]; omega
theorem run_stop {c : UInt8} {l : List UInt8} {k : Nat} (h : k < l.length) (he : l[k] ≠ c) : run c (l.drop k) = 0 := by
  rw [List.drop_eq_getElem_cons h]; unfold run
  rw [List.takeWhile_cons_of_neg (by simpa using he)]; rfl
set_option maxHeartbeats 400000 in
theorem run_any (s : ByteArray) (i : Nat) (c : UInt8) (w : World) (hi : i ≤ s.size) (hs : s.size ≤ 65536) :
    Calls Tryd.prog 73 #[.string s, .int .i64 (i : Int), .int .u8 (c.toNat : Int)] w fun e w' => e = .returned (.int .i64 (i + run c (s.data.toList.drop i) : Nat)) ∧ w = w' := by
  go_enter Tryd.func73, Tryd.ntmps73
  go_wp2
  go_loop [1] (fun x => ∃ k : Nat, i ≤ k ∧ k ≤ s.size ∧ x = .int .i64 k ∧ Hid (i + run c (s.data.toList.drop i) = k + run c (s.data.toList.drop k))) (fun x => s.size - (intOf x).toNat)
  case atStart => exact ⟨i, by omega, by omega, rfl, Lib.hid rfl⟩
  case round =>
    obtain ⟨k, hk1, hk2, rfl, hr⟩ := hrel
    by_cases hlt : k < s.size
    · have hlt' : (k : Int) < (s.size : Int) := by omega
      by_cases he : s[k] = c
      · have hd : ((s[k].toNat : Int) == (c.toNat : Int)) = true := by rw [he]; simp
        have HN : Hid (i + run c (s.data.toList.drop i) = (k + 1) + run c (s.data.toList.drop (k + 1))) := Lib.hid (by rw [hr.out, run_step (show k < s.data.toList.length from hlt) he]; omega)
        have HE := Lib.hid he; clear he
        go_wp2
        go_round
        case rel => exact ⟨k + 1, by omega, by omega, by go_num, HN⟩
        case measure => simp [intOf]; omega
      · have hd : ((s[k].toNat : Int) == (c.toNat : Int)) = false := by
          rw [beq_eq_false_iff_ne]; intro e; exact he (UInt8.toNat_inj.1 (by omega))
        have HN : Hid (i + run c (s.data.toList.drop i) = k) := Lib.hid (by rw [hr.out, run_stop (show k < s.data.toList.length from hlt) he]; rfl)
        go_wp2
        go_ret
        exact ⟨ret_int (by have := HN.out; omega), rfl⟩
    · have hlt' : decide ((k : Int) < (s.size : Int)) = false := by simp; omega
      have hlt'' : ¬ (k : Int) < (s.size : Int) := by omega
      have HN : Hid (i + run c (s.data.toList.drop i) = k) := Lib.hid (by rw [hr.out, List.drop_of_length_le (show s.data.toList.length ≤ k by show s.size ≤ k; omega)]; rfl)
      go_wp2
      go_ret
      exact ⟨ret_int (by have := HN.out; omega), rfl⟩
end Go.Proofs.YtdogoblnblkogaaDoor.Tk
