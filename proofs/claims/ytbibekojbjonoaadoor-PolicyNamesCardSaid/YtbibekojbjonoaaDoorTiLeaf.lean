/-
  The contracts of toSmall, isSmall and equalFold of package title, for every argument.
-/
import Derived.Test.YtbibekojbjonoaaDoorChecked
import Derived.Test.YtbibekojbjonoaaDoorTiPure
import Derived.WalkKit
import Derived.WalkSpells
import Derived.WalkLawsBesides
import Derived.Outline
import Derived.Deep.QuietTactic
import Derived.BigQuiet
import Derived.Lib.Hide
namespace Go.Proofs.YtbibekojbjonoaaDoor.Ti
open Go.RowKit

theorem ret_int {k : IntKind} {a b : Int} (h : a = b) : Ending.returned (.int k a) = .returned (.int k b) := by rw [h]
theorem ret_bool {a b : Bool} (h : a = b) : Ending.returned (.bool a) = .returned (.bool b) := by rw [h]
theorem ret_str {a b : ByteArray} (h : a = b) : Ending.returned (.string a) = .returned (.string b) := by rw [h]

theorem isSmall_any (c : UInt8) (w : World) :
    Calls Tryd.prog 42 #[.int .u8 (c.toNat : Int)] w fun e w' => e = .returned (.bool (small c)) ∧ w = w' := by
  by_cases h1 : 97 ≤ (c.toNat : Int)
  · by_cases h2 : (c.toNat : Int) ≤ 122
    · go_enter Tryd.func42, Tryd.ntmps42
      go_wp2
      go_ret
      exact ⟨by simp [small]; omega, rfl⟩
    · go_enter Tryd.func42, Tryd.ntmps42
      go_wp2
      go_ret
      exact ⟨by simp [small]; omega, rfl⟩
  · go_enter Tryd.func42, Tryd.ntmps42
    go_wp2
    go_ret
    exact ⟨by simp [small]; omega, rfl⟩

theorem toSmall_any (c : UInt8) (w : World) :
    Calls Tryd.prog 83 #[.int .u8 (c.toNat : Int)] w fun e w' => e = .returned (.int .u8 ((low c).toNat : Int)) ∧ w = w' := by
  by_cases h1 : 65 ≤ (c.toNat : Int)
  · by_cases h2 : (c.toNat : Int) ≤ 90
    · go_enter Tryd.func83, Tryd.ntmps83
      go_wp2
      go_ret
      exact ⟨ret_int (by rw [low_up (by omega) (by omega)]; omega), rfl⟩
    · go_enter Tryd.func83, Tryd.ntmps83
      go_wp2
      go_ret
      exact ⟨ret_int (by rw [low_not (by omega)]), rfl⟩
  · go_enter Tryd.func83, Tryd.ntmps83
    go_wp2
    go_ret
    exact ⟨ret_int (by rw [low_not (by omega)]), rfl⟩

theorem equalFold_len (a b : ByteArray) (w : World) (h : a.size ≠ b.size) :
    Calls Tryd.prog 67 #[.string a, .string b] w fun e w' => e = .returned (.bool (fold a.data.toList b.data.toList)) ∧ ∃ n, w' = w.drewN n := by
  have h1 : ((a.size : Int) != (b.size : Int)) = true := by rw [bne_iff_ne]; omega
  go_enter Tryd.func67, Tryd.ntmps67
  go_wp2
  go_ret
  exact ⟨ret_bool (by rw [fold_len (by simpa using h)]), 0, rfl⟩

theorem toSmall_q (c : UInt8) (w : World) (n : Nat) :
    Calls Tryd.prog 83 #[.int .u8 (c.toNat : Int)] (w.drewN n) fun e w' => e = .returned (.int .u8 ((low c).toNat : Int)) ∧ ∃ m, w' = w.drewN m :=
  (toSmall_any c _).mono fun _ _ ⟨he, hm⟩ => ⟨he, n, hm.symm⟩

set_option maxHeartbeats 400000 in
theorem equalFold_same (a b : ByteArray) (w : World) (h : a.size = b.size) (ha : a.size ≤ maxLen) :
    Calls Tryd.prog 67 #[.string a, .string b] w fun e w' => e = .returned (.bool (fold a.data.toList b.data.toList)) ∧ ∃ n, w' = w.drewN n := by
  unfold maxLen at ha
  have h1 : ((a.size : Int) != (b.size : Int)) = false := by rw [bne_eq_false_iff_eq]; omega
  have H := Lib.hid h; clear h
  go_enter Tryd.func67, Tryd.ntmps67
  go_wp2
  go_loopw [13] (fun i wr => ∃ (k nq : Nat), k ≤ a.size ∧ i = .int .i64 k ∧ Hid (wr = w.drewN nq) ∧ Hid ((a.data.toList.take k).map low = (b.data.toList.take k).map low)) (fun i _ => a.size - (intOf i).toNat)
  case atStart => exact ⟨0, 0, Nat.zero_le _, rfl, Lib.hid rfl, Lib.hid rfl⟩
  case round =>
    obtain ⟨k, m0, hk, rfl, hw, hr⟩ := hrel
    by_cases hlt : k < a.size
    · have hlb : k < b.size := by have := H.out; omega
      by_cases hc : low a[k] = low b[k]
      · have hd : (((low a[k]).toNat : Int) != ((low b[k]).toNat : Int)) = false := by rw [hc]; simp
        have HC := Lib.hid hc; clear hc
        go_wp2
        go_quiet ((go_at_call 83; exact toSmall_q _ _ _))
        go_wp2
        go_roundw
        case rel => exact ⟨k + 1, m0 + nq, by omega, by go_num, Lib.hid (by rw [hw.out, World.drewN_drewN]), Lib.hid (fold_step hr.out HC.out hlt hlb)⟩
        case measure => simp [intOf]; omega
      · have hd : (((low a[k]).toNat : Int) != ((low b[k]).toNat : Int)) = true := by
          rw [bne_iff_ne]; intro e; exact hc (UInt8.toNat_inj.1 (by omega))
        go_wp2
        go_quiet ((go_at_call 83; exact toSmall_q _ _ _))
        go_wp2
        go_ret
        exact ⟨ret_bool (by rw [fold_not hc hlt hlb]), m0 + nq, by rw [hw.out, World.drewN_drewN]⟩
    · have he : fold a.data.toList b.data.toList = true := by
        have h2 := hr.out
        have h3 := H.out
        rw [List.take_of_length_le (by simp; omega), List.take_of_length_le (by simp; omega)] at h2
        unfold fold; rw [h2]; simp
      have HE := Lib.hid he; clear he
      go_wp2
      go_ret
      exact ⟨ret_bool (by rw [HE.out]), m0, hw.out⟩

theorem equalFold_any (a b : ByteArray) (w : World) (ha : a.size ≤ maxLen) :
    Calls Tryd.prog 67 #[.string a, .string b] w fun e w' => e = .returned (.bool (fold a.data.toList b.data.toList)) ∧ ∃ n, w' = w.drewN n := by
  by_cases h : a.size = b.size
  · exact equalFold_same a b w h ha
  · exact equalFold_len a b w h
end Go.Proofs.YtbibekojbjonoaaDoor.Ti
