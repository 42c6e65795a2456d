/-
  The contracts of decimal and hasForm of package calendar.
-/
import Derived.Test.YtlkbdnjpcagopaaDoorCaVal
import Derived.Laws.RangeString
namespace Go.Proofs.YtlkbdnjpcagopaaDoor.Ca
open Go.RowKit
set_option linter.unusedVariables false
set_option linter.unusedSimpArgs false

theorem dvf_app (a : Int) (l m : List UInt8) : dvf a (l ++ m) = dvf (dvf a l) m := by unfold dvf; rw [List.foldl_append]
theorem isD_bd {b : UInt8} (h : isD b = true) : 48 ≤ b.toNat ∧ b.toNat ≤ 57 := by unfold isD at h; rwa [decide_eq_true_iff] at h
theorem dv_bd : ∀ (l : List UInt8) (a : Int), 0 ≤ a → (∀ c ∈ l, isD c = true) → 0 ≤ dvf a l ∧ dvf a l < (a + 1) * 10 ^ l.length
  | [], a, h, _ => by simp [dvf]; omega
  | c :: l, a, h, hl => by
    have hc := isD_bd (hl c (by simp))
    have ih := dv_bd l (10 * a + ((c.toNat : Int) - 48)) (by omega) (fun x hx => hl x (by simp [hx]))
    have e : dvf a (c :: l) = dvf (10 * a + ((c.toNat : Int) - 48)) l := rfl
    rw [e, List.length_cons]
    refine ⟨ih.1, Int.lt_of_lt_of_le ih.2 ?_⟩
    have hp : (0 : Int) ≤ 10 ^ l.length := Int.pow_nonneg (by decide)
    have e2 : (10 : Int) ^ (l.length + 1) = 10 * 10 ^ l.length := by rw [Int.pow_succ, Int.mul_comm]
    rw [e2, ← Int.mul_assoc]
    exact Int.mul_le_mul_of_nonneg_right (by omega) hp
theorem dv_small {l : List UInt8} (h : ∀ c ∈ l, isD c = true) (hl : l.length ≤ 4) : 0 ≤ dv l ∧ dv l < 10000 := by
  have := dv_bd l 0 (by omega) h
  have h1 : l.length = 0 ∨ l.length = 1 ∨ l.length = 2 ∨ l.length = 3 ∨ l.length = 4 := by omega
  unfold dv
  rcases h1 with e | e | e | e | e <;> rw [e] at this <;> omega
theorem take_snoc (s : ByteArray) (k : Nat) (h : k < s.size) : s.data.toList.take (k + 1) = s.data.toList.take k ++ [s[k]] := by
  rw [List.take_succ_eq_append_getElem (by simpa using h)]; rfl
set_option maxRecDepth 100000 in
set_option maxHeartbeats 1000000 in
theorem decimal_any (s : ByteArray) (w : World) (hs : s.size ≤ 4) (hd : ∀ c ∈ s.data.toList, isD c = true) :
    Calls Tryd.prog 42 #[.string s] w fun e w' => e = .returned (.int .i64 (dv s.data.toList)) ∧ w.iter s s.size = w' := by
  have HD := Lib.hid hd
  clear hd
  go_enter Tryd.func42, Tryd.ntmps42
  go_wp2
  go_loopw [3] (fun n w' => ∃ pos : Nat, w' = w.iter s pos ∧ pos ≤ s.size ∧ n = .int .i64 (dv (s.data.toList.take pos))) (fun _ w' => s.size - w'.iterPos w.heap.size)
  case atStart => exact ⟨0, rfl, Nat.zero_le _, rfl⟩
  case round =>
    obtain ⟨pos, rfl, hp, rfl⟩ := hrel
    have hlen : s.data.toList.length = s.size := by simp
    have hb := dv_small (l := s.data.toList.take pos) (fun c hc => HD.out c (List.mem_of_mem_take hc)) (by rw [List.length_take]; omega)
    clear hlen
    by_cases hlt : pos < s.size
    · have hc := isD_bd (HD.out s[pos] (by simp [ByteArray.getElem_eq_getElem_data]))
      obtain ⟨b1, b2⟩ := hc
      have hts := take_snoc s pos hlt
      have HS : Hid (dv (s.data.toList.take (pos + 1)) = 10 * dv (s.data.toList.take pos) + ((s[pos].toNat : Int) - 48)) := Lib.hid (by rw [hts]; unfold dv; rw [dvf_app]; rfl)
      have hnx : ∀ ty, (Instr.next (.pointer (some ⟨w.heap.size, 0, none⟩)) true ty).run Tryd.prog (w.iter s pos) = _ := fun ty => run_next_ascii w s pos ty hlt (by omega)
      clear hts
      go_wp2
      go_roundw
      case rel => exact ⟨pos + 1, rfl, by omega, by rw [HS.out]⟩
      case measure => simp; omega
    · obtain rfl : pos = s.size := by omega
      have hnx : ∀ ty, (Instr.next (.pointer (some ⟨w.heap.size, 0, none⟩)) true ty).run Tryd.prog (w.iter s s.size) = _ := fun ty => run_next_end w s s.size ty (by omega)
      have HT : Hid (s.data.toList.take s.size = s.data.toList) := Lib.hid (List.take_of_length_le (by simp))
      go_wp2
      go_ret
      exact ⟨by rw [HT.out]; rfl, rfl⟩
def layS : ByteArray := ⟨#[48, 48, 48, 48, 45, 48, 48, 45, 48, 48, 32, 48, 48, 58, 48, 48]⟩
def gb (l : List UInt8) (i : Nat) : UInt8 := l.getD i 0
theorem allFit_iff : ∀ (a l : List UInt8), l.length ≤ a.length → (allFit a l = true ↔ ∀ i : Nat, i < l.length → fits (gb a i) (gb l i) = true)
  | a, [], _ => by cases a <;> simp [allFit]
  | [], b :: l, h => by simp at h
  | x :: a, b :: l, h => by
    have ih := allFit_iff a l (by simpa using h)
    unfold allFit
    rw [Bool.and_eq_true, ih]
    constructor
    · rintro ⟨h0, h1⟩ i hj
      cases i with
      | zero => exact h0
      | succ i => exact h1 i (by simpa using hj)
    · intro hh
      exact ⟨hh 0 (by simp), fun i hj => hh (i + 1) (by simpa using hj)⟩
theorem lay_get (k : Nat) (h : k < 16) : (⟨#[48, 48, 48, 48, 45, 48, 48, 45, 48, 48, 32, 48, 48, 58, 48, 48]⟩ : ByteArray)[k]'h = gb layB k := by
  match k, h with
  | 0, _ | 1, _ | 2, _ | 3, _ | 4, _ | 5, _ | 6, _ | 7, _ | 8, _ | 9, _ | 10, _ | 11, _ | 12, _ | 13, _ | 14, _ | 15, _ => rfl
  | n + 16, h => omega
theorem lay_else (k : Nat) (h : k < 16) : gb layB k = 48 ∨ gb layB k = 45 ∨ gb layB k = 32 ∨ gb layB k = 58 := by
  match k, h with
  | 0, _ | 1, _ | 2, _ | 3, _ | 5, _ | 6, _ | 8, _ | 9, _ | 11, _ | 12, _ | 14, _ | 15, _ => exact .inl rfl
  | 4, _ | 7, _ => exact .inr (.inl rfl)
  | 10, _ => exact .inr (.inr (.inl rfl))
  | 13, _ => exact .inr (.inr (.inr rfl))
  | n + 16, h => omega
theorem gb_str (s : ByteArray) (k : Nat) (h : k < s.size) : gb s.data.toList k = s[k] := by
  unfold gb; rw [List.getD_eq_getElem?_getD, List.getElem?_eq_getElem (by simpa using h)]; simp [ByteArray.getElem_eq_getElem_data]
theorem u8_eqb {b c : UInt8} (h : b = c) : ((b.toNat : Int) == (c.toNat : Int)) = true ∧ ((b.toNat : Int) != (c.toNat : Int)) = false := by subst h; simp
theorem u8_neb {b c : UInt8} (h : b ≠ c) : ((b.toNat : Int) == (c.toNat : Int)) = false ∧ ((b.toNat : Int) != (c.toNat : Int)) = true := by have := u8_ne h; simp [bne, this]
set_option maxRecDepth 100000 in
set_option maxHeartbeats 2000000 in
theorem hasForm_any (s : ByteArray) (w : World) (hsz : s.size ≤ 1000) :
    Calls Tryd.prog 41 #[.string s] w fun e w' => e = .returned (.bool (form s.data.toList)) ∧ Below w.heap.size w w' := by
  have hsl : s.data.toList.length = s.size := by simp
  by_cases h10 : s.size = 10 ∨ s.size = 16
  · have hF : form s.data.toList = allFit layB s.data.toList := by unfold form; rw [hsl]; rcases h10 with e | e <;> rw [e] <;> rfl
    have HF := Lib.hid hF
    have hle : s.size ≤ 16 := by omega
    have HI := Lib.hid (allFit_iff layB s.data.toList (by rw [hsl]; exact hle))
    have h0 : ((s.size : Int) != 10 && (s.size : Int) != 16) = false := by rcases h10 with e | e <;> rw [e] <;> rfl
    clear hF hsl
    rcases h10 with e | e
    all_goals
      have g1 : (s.size : Int) = 10 ∨ (s.size : Int) = 16 := by omega
      have n1 : ((s.size : Int) != 10) = decide (s.size ≠ 10) := by rw [e]; rfl
      have n2 : ((s.size : Int) != 16) = decide (s.size ≠ 16) := by rw [e]; rfl
      rw [e] at n1 n2
      simp only [ne_eq, Nat.reduceEqDiff, not_true_eq_false, not_false_eq_true, decide_true, decide_false] at n1 n2
      go_enter Tryd.func41, Tryd.ntmps41
      go_wp2
      go_loopw [15] (fun n wr => ∃ (k nq : Nat), n = .int .i64 k ∧ k ≤ s.size ∧ Hid (∀ i : Nat, i < k → fits (gb layB i) (gb s.data.toList i) = true) ∧ Hid (wr = w.drewN nq)) (fun n _ => s.size - (intOf n).toNat)
      case atStart => exact ⟨0, 0, rfl, Nat.zero_le _, Lib.hid (fun i h => by omega), Lib.hid rfl⟩
      case round =>
        obtain ⟨k, nk, rfl, hk, HL, HW⟩ := hrel
        by_cases hlt : k < s.size
        · have h16 : k < 16 := by omega
          have hk10 : (k : Int) < s.size := by omega
          rw [e] at hk10
          have hk16 : (k : Int) < 16 := by omega
          have hsk := gb_str s k hlt
          have hLk : (⟨#[48, 48, 48, 48, 45, 48, 48, 45, 48, 48, 32, 48, 48, 58, 48, 48]⟩ : ByteArray)[k]'h16 = gb layB k := lay_get k h16
          have hlS : k < s.data.toList.length := by simpa using hlt
          by_cases hz : gb layB k = 48
          · have hz2 : (⟨#[48, 48, 48, 48, 45, 48, 48, 45, 48, 48, 32, 48, 48, 58, 48, 48]⟩ : ByteArray)[k]'h16 = 48 := hLk.trans hz
            have z1 : ((((⟨#[48, 48, 48, 48, 45, 48, 48, 45, 48, 48, 32, 48, 48, 58, 48, 48]⟩ : ByteArray)[k]'h16).toNat : Int) == 48) = true := (u8_eqb hz2).1
            have z2 : ((((⟨#[48, 48, 48, 48, 45, 48, 48, 45, 48, 48, 32, 48, 48, 58, 48, 48]⟩ : ByteArray)[k]'h16).toNat : Int) != 48) = false := (u8_eqb hz2).2
            by_cases hdg : isD s[k] = true
            · obtain ⟨b1, b2⟩ := isD_bd hdg
              have HFIT : Hid (fits (gb layB k) (gb s.data.toList k) = true) := Lib.hid (by rw [hsk, hz]; unfold fits; rw [if_pos rfl]; exact hdg)
              have i1 : (48 : Int) ≤ (s[k].toNat : Int) := by omega
              have i2 : (s[k].toNat : Int) ≤ 57 := by omega
              clear hz hz2 hdg hLk hsk b1 b2
              go_wp2
              go_quiet (fail)
              go_wp2
              go_roundw
              case rel => exact ⟨k + 1, nk + nq, by go_num, by omega, Lib.hid (fun i h => by
                by_cases hik : i < k
                · exact HL.out i hik
                · obtain rfl : i = k := by omega
                  exact HFIT.out), Lib.hid (by rw [HW.out, World.drewN_drewN])⟩
              case measure => simp [intOf]; omega
            · have HNO : Hid (form s.data.toList = false) := Lib.hid (by
                rw [HF.out, Bool.eq_false_iff]
                intro ht
                have := (HI.out.1 ht) k hlS
                rw [hsk, hz] at this
                unfold fits at this; rw [if_pos rfl] at this; exact hdg this)
              have hnd : ¬ (48 ≤ s[k].toNat ∧ s[k].toNat ≤ 57) := fun h => hdg (by unfold isD; rw [decide_eq_true_iff]; exact h)
              clear hz hz2 hdg hLk hsk
              by_cases hlo : s[k].toNat < 48
              · have i1 : (s[k].toNat : Int) < 48 := by omega
                clear hnd hlo
                go_wp2
                go_quiet (fail)
                go_wp2
                go_ret
                exact ⟨by rw [HNO.out]; rfl, by rw [HW.out]; exact below_drewN (below_drewN (Below.refl _ _) _) _⟩
              · have i1 : (48 : Int) ≤ (s[k].toNat : Int) := by omega
                have i2 : decide ((s[k].toNat : Int) ≤ 57) = false := by rw [decide_eq_false_iff_not]; omega
                clear hnd hlo
                go_wp2
                go_quiet (fail)
                go_wp2
                go_ret
                exact ⟨by rw [HNO.out]; rfl, by rw [HW.out]; exact below_drewN (below_drewN (Below.refl _ _) _) _⟩
          · have hz2 : (⟨#[48, 48, 48, 48, 45, 48, 48, 45, 48, 48, 32, 48, 48, 58, 48, 48]⟩ : ByteArray)[k]'h16 ≠ 48 := fun e => hz (hLk.symm.trans e)
            have z1 : ((((⟨#[48, 48, 48, 48, 45, 48, 48, 45, 48, 48, 32, 48, 48, 58, 48, 48]⟩ : ByteArray)[k]'h16).toNat : Int) == 48) = false := (u8_neb hz2).1
            have z2 : ((((⟨#[48, 48, 48, 48, 45, 48, 48, 45, 48, 48, 32, 48, 48, 58, 48, 48]⟩ : ByteArray)[k]'h16).toNat : Int) != 48) = true := (u8_neb hz2).2
            have hel := lay_else k h16
            by_cases hq : s[k] = gb layB k
            · have HFIT : Hid (fits (gb layB k) (gb s.data.toList k) = true) := Lib.hid (by rw [hsk, hq]; unfold fits; rw [if_neg hz]; simp)
              obtain ⟨_, q1⟩ := u8_eqb (hq.trans hLk.symm)
              have hv : s[k].toNat = 45 ∨ s[k].toNat = 32 ∨ s[k].toNat = 58 := by
                rw [hq]
                rcases hel with h | h | h | h
                · exact absurd h hz
                all_goals rw [h]; decide
              clear hz hz2 hLk hsk hel hq
              by_cases hlo : s[k].toNat < 48
              · have i1 : (s[k].toNat : Int) < 48 := by omega
                clear hv hlo
                go_wp2
                go_quiet (fail)
                go_wp2
                go_roundw
                case rel => exact ⟨k + 1, nk + nq, by go_num, by omega, Lib.hid (fun i h => by
                  by_cases hik : i < k
                  · exact HL.out i hik
                  · obtain rfl : i = k := by omega
                    exact HFIT.out), Lib.hid (by rw [HW.out, World.drewN_drewN])⟩
                case measure => simp [intOf]; omega
              · have i1 : (48 : Int) ≤ (s[k].toNat : Int) := by omega
                have i2 : (57 : Int) < (s[k].toNat : Int) := by omega
                clear hv hlo
                go_wp2
                go_quiet (fail)
                go_wp2
                go_roundw
                case rel => exact ⟨k + 1, nk + nq, by go_num, by omega, Lib.hid (fun i h => by
                  by_cases hik : i < k
                  · exact HL.out i hik
                  · obtain rfl : i = k := by omega
                    exact HFIT.out), Lib.hid (by rw [HW.out, World.drewN_drewN])⟩
                case measure => simp [intOf]; omega
            · have HNO : Hid (form s.data.toList = false) := Lib.hid (by
                rw [HF.out, Bool.eq_false_iff]
                intro ht
                have := (HI.out.1 ht) k hlS
                rw [hsk] at this
                unfold fits at this; rw [if_neg hz] at this; exact hq (of_decide_eq_true this))
              obtain ⟨_, q1⟩ := u8_neb (fun e => hq (e.trans hLk) : s[k] ≠ (⟨#[48, 48, 48, 48, 45, 48, 48, 45, 48, 48, 32, 48, 48, 58, 48, 48]⟩ : ByteArray)[k]'h16)
              clear hz hz2 hLk hsk hel hq
              by_cases hlo : s[k].toNat < 48
              · have i1 : (s[k].toNat : Int) < 48 := by omega
                clear hlo
                go_wp2
                go_quiet (fail)
                go_wp2
                go_ret
                exact ⟨by rw [HNO.out]; rfl, by rw [HW.out]; exact below_drewN (below_drewN (Below.refl _ _) _) _⟩
              · by_cases hhi : s[k].toNat ≤ 57
                · have i1 : (48 : Int) ≤ (s[k].toNat : Int) := by omega
                  have i2 : (s[k].toNat : Int) ≤ 57 := by omega
                  clear hlo hhi
                  go_wp2
                  go_quiet (fail)
                  go_wp2
                  go_ret
                  exact ⟨by rw [HNO.out]; rfl, by rw [HW.out]; exact below_drewN (below_drewN (Below.refl _ _) _) _⟩
                · have i1 : (48 : Int) ≤ (s[k].toNat : Int) := by omega
                  have i2 : (57 : Int) < (s[k].toNat : Int) := by omega
                  clear hlo hhi
                  go_wp2
                  go_quiet (fail)
                  go_wp2
                  go_ret
                  exact ⟨by rw [HNO.out]; rfl, by rw [HW.out]; exact below_drewN (below_drewN (Below.refl _ _) _) _⟩
        · obtain rfl : k = s.size := by omega
          have hnk : ¬ (s.size : Int) < s.size := by omega
          have HNO : Hid (form s.data.toList = true) := Lib.hid (by
            rw [HF.out, HI.out]
            exact fun i h2 => HL.out i (by simpa using h2))
          rw [e] at hnk
          go_wp2
          go_ret
          exact ⟨by rw [HNO.out]; rfl, by rw [HW.out]; exact below_drewN (Below.refl _ _) _⟩
  · have HF : Hid (form s.data.toList = false) := Lib.hid (by
      unfold form; rw [hsl, Bool.and_eq_false_iff]; left; simp; omega)
    have n1 : ((s.size : Int) != 10) = true := by simp; omega
    have n2 : ((s.size : Int) != 16) = true := by simp; omega
    clear h10 hsl
    go_enter Tryd.func41, Tryd.ntmps41
    go_wp2
    go_ret
    exact ⟨by rw [HF.out]; rfl, Below.refl _ _⟩
end Go.Proofs.YtlkbdnjpcagopaaDoor.Ca
