/-
  The contracts of number and Parse of the calendar's reference.
-/
import Derived.Test.YtlkbdnjpcagopaaDoorCaParse
import Derived.Test.YtlkbdnjpcagopaaDoorCaRMin
namespace Go.Proofs.YtlkbdnjpcagopaaDoor.Ca
open Go.RowKit
set_option linter.unusedVariables false
set_option linter.unusedSimpArgs false

/-- The number of some bytes; -1 if they are not all digits. -/
def rn (l : List UInt8) : Int := if l.all isD then dv l else -1
theorem rn_yes {l : List UInt8} (h : ∀ c ∈ l, isD c = true) : rn l = dv l := by unfold rn; rw [if_pos (List.all_eq_true.2 h)]
theorem rn_no {l : List UInt8} {c : UInt8} (hc : c ∈ l) (h : isD c = false) : rn l = -1 := by
  unfold rn; rw [if_neg]; intro ha; rw [List.all_eq_true.1 ha c hc] at h; cases h
theorem rn_dig {l : List UInt8} (h : 0 ≤ rn l) : ∀ c ∈ l, isD c = true := by
  unfold rn at h
  split at h
  · rename_i ha; exact List.all_eq_true.1 ha
  · omega
theorem rn_bd {l : List UInt8} (h : l.length ≤ 4) : -1 ≤ rn l ∧ rn l < 10000 := by
  unfold rn; split
  · rename_i ha; have := dv_small (List.all_eq_true.1 ha) h; omega
  · omega
theorem part_take (s : ByteArray) (i k : Nat) (h : i + k < s.size) : (s.data.toList.drop i).take (k + 1) = (s.data.toList.drop i).take k ++ [s[i + k]] := by
  rw [List.take_succ_eq_append_getElem (by rw [List.length_drop]; simp; omega), List.getElem_drop]
  simp [ByteArray.getElem_eq_getElem_data]
set_option maxRecDepth 100000 in
set_option maxHeartbeats 2000000 in
theorem rnum_any (s : ByteArray) (i n : Nat) (w : World) (hn : n ≤ 4) (hi : i + n ≤ s.size) (hs : s.size ≤ 1000) :
    Calls Tryd.prog 43 #[.string s, .int .i64 i, .int .i64 n] w fun e w' => e = .returned (.int .i64 (rn ((s.data.toList.drop i).take n))) ∧ Below w.heap.size w w' := by
  go_enter Tryd.func43, Tryd.ntmps43
  go_wp2
  go_loop [7, 8] (fun v t => ∃ k : Nat, k ≤ n ∧ t = .int .i64 ((i : Int) + k) ∧ v = .int .i64 (dv ((s.data.toList.drop i).take k)) ∧ Hid (∀ c ∈ (s.data.toList.drop i).take k, isD c = true)) (fun _ t => i + n - (intOf t).toNat)
  case atStart => exact ⟨0, Nat.zero_le _, by go_num, rfl, Lib.hid (by simp)⟩
  case round =>
    obtain ⟨k, hk, rfl, rfl, HD⟩ := hrel
    have hb := dv_small HD.out (by rw [List.length_take]; omega)
    by_cases hlt : k < n
    · have hik : i + k < s.size := by omega
      have hpt := part_take s i k hik
      have hj : (i : Int) + k < (i : Int) + n := by omega
      have hj2 : ((i : Int) + k).toNat = i + k := by omega
      have hj3 : (i : Int) + k < (s.size : Int) := by omega
      by_cases hdg : isD s[i + k] = true
      · obtain ⟨b1, b2⟩ := isD_bd hdg
        have i1 : (48 : Int) ≤ (s[i + k].toNat : Int) := by omega
        have i2 : (s[i + k].toNat : Int) ≤ 57 := by omega
        have HS : Hid (dv ((s.data.toList.drop i).take (k + 1)) = dv ((s.data.toList.drop i).take k) * 10 + ((s[i + k].toNat : Int) - 48)) := Lib.hid (by rw [hpt]; unfold dv; rw [dvf_app]; show 10 * _ + _ = _; rw [Int.mul_comm])
        have HD2 : Hid (∀ c ∈ (s.data.toList.drop i).take (k + 1), isD c = true) := Lib.hid (by
          rw [hpt]; intro c hc
          rcases List.mem_append.1 hc with h | h
          · exact HD.out c h
          · simp at h; rw [h]; exact hdg)
        clear hpt hdg b1 b2
        go_wp2
        go_round
        case rel => exact ⟨k + 1, by omega, by go_num, by rw [HS.out], HD2⟩
        case measure => simp [intOf]; omega
      · have HR : Hid (rn ((s.data.toList.drop i).take n) = -1) := Lib.hid (rn_no (c := s[i + k]) (by
          have : (s.data.toList.drop i).take (k + 1) <+: (s.data.toList.drop i).take n := List.take_prefix_take_left (by omega)
          exact this.subset (by rw [hpt]; simp)) (by simpa using hdg))
        have hnd : ¬ (48 ≤ s[i + k].toNat ∧ s[i + k].toNat ≤ 57) := fun h => hdg (by unfold isD; rw [decide_eq_true_iff]; exact h)
        clear hpt hdg
        by_cases hlo : s[i + k].toNat < 48
        · have i1 : (s[i + k].toNat : Int) < 48 := by omega
          clear hnd hlo
          go_wp2
          go_ret
          exact ⟨by rw [HR.out]; rfl, Below.refl _ _⟩
        · have i1 : (48 : Int) ≤ (s[i + k].toNat : Int) := by omega
          have i2 : (57 : Int) < (s[i + k].toNat : Int) := by omega
          clear hnd hlo
          go_wp2
          go_ret
          exact ⟨by rw [HR.out]; rfl, Below.refl _ _⟩
    · obtain rfl : k = n := by omega
      have HR := Lib.hid (rn_yes HD.out)
      go_wp2
      go_ret
      exact ⟨by rw [HR.out]; rfl, Below.refl _ _⟩
/-- What a text of the right form holds. -/
structure Fm (l : List UInt8) : Prop where
  a : gb l 4 = 45
  b : gb l 7 = 45
  c : l.length = 16 → gb l 10 = 32 ∧ gb l 13 = 58
theorem fits_eq {a b : UInt8} (h : fits a b = true) (ha : a ≠ 48) : b = a := by unfold fits at h; rw [if_neg ha] at h; exact of_decide_eq_true h
theorem form_fm {l : List UInt8} (h : form l = true) (hl : l.length = 10 ∨ l.length = 16) : Fm l := by
  have h2 := h
  unfold form at h2
  rw [Bool.and_eq_true] at h2
  have hh := (allFit_iff layB l (by show l.length ≤ 16; omega)).1 h2.2
  exact ⟨fits_eq (a := 45) (hh 4 (by omega)) (by decide), fits_eq (a := 45) (hh 7 (by omega)) (by decide), fun e => ⟨fits_eq (a := 32) (hh 10 (by omega)) (by decide), fits_eq (a := 58) (hh 13 (by omega)) (by decide)⟩⟩
theorem part_gb {l : List UInt8} {a n j : Nat} (h : ∀ c ∈ (l.drop a).take n, isD c = true) (hj : j < n) (hl : a + j < l.length) : isD (gb l (a + j)) = true := by
  refine h _ ?_
  have e : gb l (a + j) = ((l.drop a).take n)[j]'(by rw [List.length_take, List.length_drop]; omega) := by
    unfold gb; rw [List.getElem_take, List.getElem_drop, List.getD_eq_getElem?_getD, List.getElem?_eq_getElem hl]; rfl
  rw [e]; exact List.getElem_mem _
theorem fm_form {l : List UInt8} (hl : l.length = 10 ∨ l.length = 16) (f : Fm l) (h1 : ∀ c ∈ (l.drop 0).take 4, isD c = true) (h2 : ∀ c ∈ (l.drop 5).take 2, isD c = true) (h3 : ∀ c ∈ (l.drop 8).take 2, isD c = true)
    (h4 : l.length = 16 → (∀ c ∈ (l.drop 11).take 2, isD c = true) ∧ (∀ c ∈ (l.drop 14).take 2, isD c = true)) : form l = true := by
  have k1 := fun j hj => part_gb (j := j) h1 hj (by omega)
  have k2 := fun j hj => part_gb (j := j) h2 hj (by omega)
  have k3 := fun j hj => part_gb (j := j) h3 hj (by omega)
  have k4 := fun (e : l.length = 16) j hj => part_gb (j := j) (h4 e).1 hj (by omega)
  have k5 := fun (e : l.length = 16) j hj => part_gb (j := j) (h4 e).2 hj (by omega)
  unfold form
  rw [Bool.and_eq_true]
  refine ⟨by rcases hl with e | e <;> rw [e] <;> rfl, (allFit_iff layB l (by show l.length ≤ 16; omega)).2 fun i hi => ?_⟩
  have dg : ∀ b : UInt8, isD b = true → fits 48 b = true := fun b hb => by unfold fits; rw [if_pos rfl]; exact hb
  have sg : ∀ a b : UInt8, a ≠ 48 → b = a → fits a b = true := fun a b ha hb => by unfold fits; rw [if_neg ha]; simp [hb]
  have h16 : i ≤ 15 := by omega
  match i, h16 with
  | 0, _ => exact dg _ (k1 0 (by omega))
  | 1, _ => exact dg _ (k1 1 (by omega))
  | 2, _ => exact dg _ (k1 2 (by omega))
  | 3, _ => exact dg _ (k1 3 (by omega))
  | 4, _ => exact sg 45 _ (by decide) f.a
  | 5, _ => exact dg _ (k2 0 (by omega))
  | 6, _ => exact dg _ (k2 1 (by omega))
  | 7, _ => exact sg 45 _ (by decide) f.b
  | 8, _ => exact dg _ (k3 0 (by omega))
  | 9, _ => exact dg _ (k3 1 (by omega))
  | 10, _ => exact sg 32 _ (by decide) (f.c (by omega)).1
  | 11, _ => exact dg _ (k4 (by omega) 0 (by omega))
  | 12, _ => exact dg _ (k4 (by omega) 1 (by omega))
  | 13, _ => exact sg 58 _ (by decide) (f.c (by omega)).2
  | 14, _ => exact dg _ (k5 (by omega) 0 (by omega))
  | 15, _ => exact dg _ (k5 (by omega) 1 (by omega))
  | n + 16, h => omega
end Go.Proofs.YtlkbdnjpcagopaaDoor.Ca
