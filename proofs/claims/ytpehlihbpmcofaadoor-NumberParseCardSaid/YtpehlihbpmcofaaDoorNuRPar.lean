/-
  The contracts of the reference's digits and value.
-/
import Derived.Test.YtpehlihbpmcofaaDoorNuParse
namespace Go.Proofs.YtpehlihbpmcofaaDoor.Nu
open Go.RowKit
set_option linter.unusedVariables false

def run1 (l : List UInt8) (i : Nat) : Nat := i + ((l.drop i).takeWhile isD).length
theorem run1_yes {l : List UInt8} {i : Nat} {x : UInt8} (hx : l[i]? = some x) (h : isD x = true) : run1 l (i + 1) = run1 l i := by
  obtain ⟨hi, he⟩ := List.getElem?_eq_some_iff.1 hx
  unfold run1
  rw [List.drop_eq_getElem_cons hi, he, List.takeWhile_cons_of_pos h, List.length_cons]
  omega
theorem run1_no {l : List UInt8} {i : Nat} {x : UInt8} (hx : l[i]? = some x) (h : isD x = false) : run1 l i = i := by
  obtain ⟨hi, he⟩ := List.getElem?_eq_some_iff.1 hx
  unfold run1
  rw [List.drop_eq_getElem_cons hi, he, List.takeWhile_cons_of_neg (by rw [h]; exact Bool.false_ne_true)]
  rfl
theorem run1_end {l : List UInt8} {i : Nat} (h : l.length ≤ i) : run1 l i = i := by
  unfold run1
  rw [List.drop_eq_nil_of_le h]
  rfl
set_option maxRecDepth 100000 in
set_option maxHeartbeats 1000000 in
theorem digits_any (s : ByteArray) (i : Nat) (w : World) (hs : s.size ≤ 1000) (hi : i ≤ s.size) : Calls Tryd.prog 59 #[.string s, .int .i64 (i : Int)] w fun e w' => e = .returned (.int .i64 (run1 s.data.toList i : Int)) ∧ w = w' := by
  go_enter Tryd.func59, Tryd.ntmps59
  go_wp2
  go_loop [1] (fun x => ∃ j : Nat, j ≤ s.size ∧ x = .int .i64 (j : Int) ∧ Hid (run1 s.data.toList j = run1 s.data.toList i)) (fun x => s.size - (intOf x).toNat)
  case atStart => exact ⟨i, hi, rfl, Lib.hid rfl⟩
  case round =>
    obtain ⟨j, hj, rfl, HR⟩ := hrel
    have hsz := Lib.size_eq s
    by_cases hlt : j < s.size
    · obtain ⟨x, hx⟩ : ∃ x : UInt8, s[j]'hlt = x := ⟨_, rfl⟩
      have hxl : s.data.toList[j]? = some x := by rw [← hx]; exact Lib.data_getElem? s j hlt
      have hd : decide ((j : Int) < (s.size : Int)) = true := decide_eq_true (by omega)
      by_cases h1 : x.toNat < 48
      · have HN := Lib.hid (run1_no hxl (decide_eq_false (by omega : ¬ (48 ≤ x.toNat ∧ x.toNat ≤ 57))))
        have d1 : decide ((48 : Int) ≤ (x.toNat : Int)) = false := decide_eq_false (by omega)
        clear hxl h1 hsz
        go_wp2
        go_ret
        exact ⟨by rw [← HR.out, HN.out]; rfl, rfl⟩
      · have d1 : decide ((48 : Int) ≤ (x.toNat : Int)) = true := decide_eq_true (by omega)
        by_cases h2 : 57 < x.toNat
        · have HN := Lib.hid (run1_no hxl (decide_eq_false (by omega : ¬ (48 ≤ x.toNat ∧ x.toNat ≤ 57))))
          have d2 : decide ((x.toNat : Int) ≤ (57 : Int)) = false := decide_eq_false (by omega)
          clear hxl h1 h2 hsz
          go_wp2
          go_ret
          exact ⟨by rw [← HR.out, HN.out]; rfl, rfl⟩
        · have d2 : decide ((x.toNat : Int) ≤ (57 : Int)) = true := decide_eq_true (by omega)
          have HY := Lib.hid (run1_yes hxl (decide_eq_true (by omega : 48 ≤ x.toNat ∧ x.toNat ≤ 57)))
          clear hxl h1 h2 hsz
          go_wp2
          go_round
          case rel => exact ⟨j + 1, by omega, by go_num, Lib.hid (by rw [HY.out, HR.out])⟩
          case measure => simp [intOf]; omega
    · obtain rfl : j = s.size := by omega
      have HN := Lib.hid (run1_end (l := s.data.toList) (i := s.size) (by omega))
      clear hsz
      go_wp2
      go_ret
      exact ⟨by rw [← HR.out, HN.out]; rfl, rfl⟩
theorem step_u8 {x : UInt8} {y : Nat} (hx : isD x = true) (hy : x.toNat - 48 = y) : IntKind.u8.wrap ((x.toNat : Int) - 48) = (y : Int) ∧ y ≤ 9 := by
  have h : 48 ≤ x.toNat ∧ x.toNat ≤ 57 := of_decide_eq_true hx
  refine ⟨?_, by omega⟩
  rw [IntKind.wrap_u8]
  omega
theorem step_n10 {v y : Nat} (hv : v < 100000000000000000) (hy : y ≤ 9) : IntKind.i64.wrap ((v : Int) * 10) = (v : Int) * 10 ∧ IntKind.i64.wrap ((v : Int) * 10 + (y : Int)) = ((10 * v + y : Nat) : Int) ∧ IntKind.i64.wrap (y : Int) = (y : Int) := by
  refine ⟨IntWalk.i64_in _ (by omega), ?_, IntWalk.i64_in _ (by omega)⟩
  rw [IntWalk.i64_in _ (by omega)]
  omega
set_option maxRecDepth 100000 in
set_option maxHeartbeats 1000000 in
theorem value_any (s : ByteArray) (w : World) (hs : s.size ≤ 18) (ha : s.data.toList.all isD = true) : Calls Tryd.prog 60 #[.string s] w fun e w' => e = .returned (.int .i64 (val s.data.toList : Int)) ∧ w = w' := by
  have HA := Lib.hid ha
  have HZ := Lib.hid (Lib.size_eq s)
  clear ha
  go_enter Tryd.func60, Tryd.ntmps60
  go_wp2
  go_loop [3, 4] (fun x y => ∃ j v : Nat, j ≤ s.size ∧ x = .int .i64 (v : Int) ∧ y = .int .i64 (j : Int) ∧ Hid (v = val (s.data.toList.take j))) (fun _ y => s.size - (intOf y).toNat)
  case atStart => exact ⟨0, 0, Nat.zero_le _, rfl, rfl, Lib.hid rfl⟩
  case round =>
    obtain ⟨j, v, hj, rfl, rfl, HR⟩ := hrel
    by_cases hlt : j < s.size
    · obtain ⟨x, hx⟩ : ∃ x : UInt8, s[j]'hlt = x := ⟨_, rfl⟩
      have hxl : s.data.toList[j]? = some x := by rw [← hx]; exact Lib.data_getElem? s j hlt
      have hd : decide ((j : Int) < (s.size : Int)) = true := decide_eq_true (by omega)
      obtain ⟨y, hy⟩ : ∃ y, x.toNat - 48 = y := ⟨_, rfl⟩
      obtain ⟨f1, f2⟩ := step_u8 (digit_at HA.out hxl) hy
      have hv2 : v < 100000000000000000 := by rw [HR.out]; exact val_take_lt HA.out (by omega)
      obtain ⟨g1, g2, g3⟩ := step_n10 hv2 f2
      have HV2 : Hid (10 * v + y = val (s.data.toList.take (j + 1))) := Lib.hid (by rw [val_step hxl, HR.out, hy])
      clear hxl hy f2 hv2 HR
      go_wp2
      go_round
      case rel => exact ⟨j + 1, 10 * v + y, by omega, rfl, by go_num, HV2⟩
      case measure => simp [intOf]; omega
    · obtain rfl : j = s.size := by omega
      have HN : Hid (v = val s.data.toList) := Lib.hid (by rw [HR.out, List.take_of_length_le (by rw [← HZ.out]; exact Nat.le_refl _)])
      clear HR
      go_wp2
      go_ret
      exact ⟨by rw [← HN.out]; rfl, rfl⟩
end Go.Proofs.YtpehlihbpmcofaaDoor.Nu
