/-
  The contracts of the reference's lower, sameLetters, Index, SpaceName and cut.
-/
import Derived.Test.YtaapdhpfjiaeaaaDoorTiRound
import Derived.Test.YtaapdhpfjiaeaaaDoorTiKnown
namespace Go.Proofs.YtaapdhpfjiaeaaaDoor.Ti
open Go.RowKit

theorem lower_any (c : UInt8) (w : World) :
    Calls Tryd.prog 78 #[.int .u8 (c.toNat : Int)] w fun e w' => e = .returned (.int .u8 ((low c).toNat : Int)) ∧ w = w' := by
  by_cases h1 : 65 ≤ (c.toNat : Int)
  · by_cases h2 : (c.toNat : Int) ≤ 90
    · go_enter Tryd.func78, Tryd.ntmps78
      go_wp2
      go_ret
      exact ⟨ret_int (by rw [low_up (by omega) (by omega)]), rfl⟩
    · go_enter Tryd.func78, Tryd.ntmps78
      go_wp2
      go_ret
      exact ⟨ret_int (by rw [low_not (by omega)]), rfl⟩
  · go_enter Tryd.func78, Tryd.ntmps78
    go_wp2
    go_ret
    exact ⟨ret_int (by rw [low_not (by omega)]), rfl⟩
theorem lower_q (c : UInt8) (w : World) (n : Nat) :
    Calls Tryd.prog 78 #[.int .u8 (c.toNat : Int)] (w.drewN n) fun e w' => e = .returned (.int .u8 ((low c).toNat : Int)) ∧ ∃ m, w' = w.drewN m :=
  (lower_any c _).mono fun _ _ ⟨he, hm⟩ => ⟨he, n, hm.symm⟩

theorem sameLetters_len (a b : ByteArray) (w : World) (h : a.size ≠ b.size) :
    Calls Tryd.prog 61 #[.string a, .string b] w fun e w' => e = .returned (.bool (fold a.data.toList b.data.toList)) ∧ ∃ n, w' = w.drewN n := by
  have h1 : ((a.size : Int) != (b.size : Int)) = true := by rw [bne_iff_ne]; omega
  go_enter Tryd.func61, Tryd.ntmps61
  go_wp2
  go_ret
  exact ⟨ret_bool (by rw [fold_len (by simpa using h)]), 0, rfl⟩
set_option maxHeartbeats 400000 in
theorem sameLetters_same (a b : ByteArray) (w : World) (h : a.size = b.size) (ha : a.size ≤ maxLen) :
    Calls Tryd.prog 61 #[.string a, .string b] w fun e w' => e = .returned (.bool (fold a.data.toList b.data.toList)) ∧ ∃ n, w' = w.drewN n := by
  unfold maxLen at ha
  have h1 : ((a.size : Int) != (b.size : Int)) = false := by rw [bne_eq_false_iff_eq]; omega
  have H := Lib.hid h; clear h
  go_enter Tryd.func61, Tryd.ntmps61
  go_wp2
  go_loopw [5] (fun i wr => ∃ (k nq : Nat), k ≤ a.size ∧ i = .int .i64 k ∧ Hid (wr = w.drewN nq) ∧ Hid ((a.data.toList.take k).map low = (b.data.toList.take k).map low)) (fun i _ => a.size - (intOf i).toNat)
  case atStart => exact ⟨0, 0, Nat.zero_le _, rfl, Lib.hid rfl, Lib.hid rfl⟩
  case round =>
    obtain ⟨k, m0, hk, rfl, hw, hr⟩ := hrel
    by_cases hlt : k < a.size
    · have hlb : k < b.size := by have := H.out; omega
      by_cases hc : low a[k] = low b[k]
      · have hd : (((low a[k]).toNat : Int) != ((low b[k]).toNat : Int)) = false := by rw [hc]; simp
        have HC := Lib.hid hc; clear hc
        go_wp2
        go_quiet ((go_at_call 78; exact lower_q _ _ _))
        go_wp2
        go_roundw
        case rel => exact ⟨k + 1, m0 + nq, by omega, by go_num, Lib.hid (by rw [hw.out, World.drewN_drewN]), Lib.hid (fold_step hr.out HC.out hlt hlb)⟩
        case measure => simp [intOf]; omega
      · have hd : (((low a[k]).toNat : Int) != ((low b[k]).toNat : Int)) = true := by
          rw [bne_iff_ne]; intro e; exact hc (UInt8.toNat_inj.1 (by omega))
        go_wp2
        go_quiet ((go_at_call 78; exact lower_q _ _ _))
        go_wp2
        go_ret
        exact ⟨ret_bool (by rw [fold_not hc hlt hlb]), m0 + nq, by rw [hw.out, World.drewN_drewN]⟩
    · have he : fold a.data.toList b.data.toList = true := by
        have h2 := hr.out
        have h3 := H.out
        rw [List.take_of_length_le (by simp; omega), List.take_of_length_le (by simp; omega)] at h2
        unfold fold; rw [h2]; simp
      have HE := Lib.hid he; clear he
      go_wp2
      go_ret
      exact ⟨ret_bool (by rw [HE.out]), m0, hw.out⟩
theorem sameLetters_any (a b : ByteArray) (w : World) (ha : a.size ≤ maxLen) :
    Calls Tryd.prog 61 #[.string a, .string b] w fun e w' => e = .returned (.bool (fold a.data.toList b.data.toList)) ∧ ∃ n, w' = w.drewN n := by
  by_cases h : a.size = b.size
  · exact sameLetters_same a b w h ha
  · exact sameLetters_len a b w h

/-- The first index from f on at which t stands in s, or -1. -/
def indexFrom (s t : List UInt8) (f : Nat) : Int := if Lib.index (s.drop f) t = -1 then -1 else Lib.index (s.drop f) t + f
theorem indexFrom_zero (s t : List UInt8) : indexFrom s t 0 = Lib.index s t := by
  unfold indexFrom
  rw [List.drop_zero]
  split
  · exact (by assumption : Lib.index s t = -1).symm
  · omega
theorem indexFrom_hit {s t : List UInt8} {f i : Nat} (hf : f ≤ i) (hi : i ≤ s.length) (h : Lib.occAt s t i = true) (hn : ∀ j, f ≤ j → j < i → Lib.occAt s t j = false) : indexFrom s t f = i := by
  have e : Lib.index (s.drop f) t = ((i - f : Nat) : Int) := by
    apply Lib.index_first
    · simp; omega
    · unfold Lib.occAt at h ⊢; rw [List.drop_drop, show f + (i - f) = i from by omega]; exact h
    · intro j hj
      have := hn (f + j) (by omega) (by omega)
      unfold Lib.occAt at this ⊢; rw [List.drop_drop]; exact this
  unfold indexFrom
  rw [e, if_neg (by omega)]
  omega
theorem indexFrom_none {s t : List UInt8} {f : Nat} (hn : ∀ j, f ≤ j → j ≤ s.length → Lib.occAt s t j = false) (hf : f ≤ s.length) : indexFrom s t f = -1 := by
  unfold indexFrom
  rcases Lib.index_spec (s.drop f) t with ⟨h, _⟩ | ⟨i, _, hi, ho, _⟩
  · rw [if_pos h]
  · have := hn (f + i) (by omega) (by simp at hi; omega)
    unfold Lib.occAt at ho this
    rw [List.drop_drop] at ho
    rw [ho] at this; cases this

set_option maxHeartbeats 400000 in
theorem Index_any (s t : ByteArray) (f : Nat) (w : World) (hf : f ≤ s.size) (hs : s.size < 4294967281) (ht : t.size < 4294967281) :
    Calls Tryd.prog 41 #[.string s, .string t, .int .i64 (f : Int)] w fun e w' => e = .returned (.int .i64 (indexFrom s.data.toList t.data.toList f)) ∧ w = w' := by
  go_enter Tryd.func41, Tryd.ntmps41
  go_wp2
  go_loop [7] (fun i => ∃ k : Nat, f ≤ k ∧ k ≤ s.size + 1 ∧ i = .int .i64 k ∧ Hid (∀ j, f ≤ j → j < k → Lib.occAt s.data.toList t.data.toList j = false)) (fun i => s.size + 1 - (intOf i).toNat)
  case atStart => exact ⟨f, by omega, by omega, rfl, Lib.hid fun j h1 h2 => by omega⟩
  case round =>
    obtain ⟨k, hk1, hk2, rfl, hr⟩ := hrel
    by_cases hlt : k + t.size ≤ s.size
    · have e1 : (k : Int) + (t.size : Int) ≤ (s.size : Int) := by omega
      cases ho : Lib.occAt s.data.toList t.data.toList k
      · have hd : ((s.extract k (k + t.size)).toList == t.toList) = false := by rw [← Lib.occ_of_piece s t k hlt]; exact ho
        have HO := Lib.hid ho; clear ho
        go_wp2
        go_round
        case rel => exact ⟨k + 1, by omega, by omega, by go_num, Lib.hid fun j h1 h2 => by
          by_cases hj : j = k
          · subst hj; exact HO.out
          · exact hr.out j h1 (by omega)⟩
        case measure => simp [intOf]; omega
      · have hd : ((s.extract k (k + t.size)).toList == t.toList) = true := by rw [← Lib.occ_of_piece s t k hlt]; exact ho
        have HF := Lib.hid (indexFrom_hit hk1 (by show k ≤ s.size; omega) ho hr.out)
        clear ho
        go_wp2
        go_ret
        exact ⟨ret_int (by rw [HF.out]), rfl⟩
    · have e1 : ¬ (k : Int) + (t.size : Int) ≤ (s.size : Int) := by omega
      have HF := Lib.hid (indexFrom_none (s := s.data.toList) (t := t.data.toList) (f := f) (fun j h1 h2 => by
        by_cases hj : j < k
        · exact hr.out j h1 hj
        · cases ho : Lib.occAt s.data.toList t.data.toList j
          · rfl
          · rcases Lib.occAt_room ho with h' | h'
            · have a1 : s.data.toList.length = s.size := rfl
              have a2 : t.data.toList.length = t.size := rfl
              omega
            · have a2 : t.size = 0 := by have : t.data.toList.length = t.size := rfl; rw [h'] at this; simpa using this.symm
              have a1 : s.data.toList.length = s.size := rfl
              omega) (by show f ≤ s.size; omega))
      go_wp2
      go_ret
      exact ⟨ret_int (by rw [HF.out]), rfl⟩
end Go.Proofs.YtaapdhpfjiaeaaaDoor.Ti
