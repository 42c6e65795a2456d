/-
  The contracts of isSmall, isNameByte and IsName of package policy.
-/
import Derived.Test.YtbibekojbjonoaaDoorPoMem
namespace Go.Proofs.YtbibekojbjonoaaDoor.Po
open Go.RowKit Go.Shelf
set_option linter.unusedVariables false
set_option linter.unusedSimpArgs false

theorem u8_eq (c k : UInt8) : (c == k) = ((c.toNat : Int) == (k.toNat : Int)) := by
  rw [Bool.eq_iff_iff, beq_iff_eq, beq_iff_eq, Int.ofNat_inj, UInt8.toNat_inj]
theorem isSmall_any (c : UInt8) (w : World) : Calls Tryd.prog 7 #[.int .u8 (c.toNat : Int)] w fun e w' => e = .returned (.bool (sml c)) ∧ w = w' := by
  by_cases h1 : 97 ≤ (c.toNat : Int)
  · by_cases h2 : (c.toNat : Int) ≤ 122
    · go_enter Tryd.func7, Tryd.ntmps7
      go_wp2
      go_ret
      exact ⟨by simp [sml]; omega, rfl⟩
    · go_enter Tryd.func7, Tryd.ntmps7
      go_wp2
      go_ret
      exact ⟨by simp [sml]; omega, rfl⟩
  · go_enter Tryd.func7, Tryd.ntmps7
    go_wp2
    go_ret
    exact ⟨by simp [sml]; omega, rfl⟩
theorem nby_digit {c : UInt8} (h1 : 48 ≤ (c.toNat : Int)) (h2 : (c.toNat : Int) ≤ 57) : nby c = true := by
  unfold nby; rw [decide_eq_true (by omega : 48 ≤ c.toNat ∧ c.toNat ≤ 57)]; simp
theorem nby_rest {c : UInt8} (h0 : sml c = false) (h : ¬ (48 ≤ (c.toNat : Int) ∧ (c.toNat : Int) ≤ 57)) : nby c = (((c.toNat : Int) == 45) || ((c.toNat : Int) == 95)) := by
  unfold nby; rw [h0, decide_eq_false (by omega : ¬ (48 ≤ c.toNat ∧ c.toNat ≤ 57)), u8_eq, u8_eq]; simp
set_option maxHeartbeats 1000000 in
theorem isNameByte_any (c : UInt8) (w : World) : Calls Tryd.prog 8 #[.int .u8 (c.toNat : Int)] w fun e w' => e = .returned (.bool (nby c)) ∧ w = w' := by
  cases hs : sml c
  · have HC := Lib.hid (isSmall_any c w)
    rw [hs] at HC
    by_cases h1 : 48 ≤ (c.toNat : Int)
    · by_cases h2 : (c.toNat : Int) ≤ 57
      · have HN := Lib.hid (nby_digit h1 h2)
        clear hs
        go_enter Tryd.func8, Tryd.ntmps8
        go_wp2_with fail
        with_reducible refine (HC.out).mono ?_
        rintro e w' ⟨rfl, rfl⟩
        go_wp2
        go_ret
        exact ⟨ret_bool HN.out.symm, rfl⟩
      · have HN := Lib.hid (nby_rest hs (fun h => h2 h.2))
        have d57 : decide ((c.toNat : Int) ≤ 57) = false := decide_eq_false h2
        clear hs
        cases h45 : ((c.toNat : Int) == 45) <;> cases h95 : ((c.toNat : Int) == 95)
        all_goals
          have HR := HN.out
          rw [h45, h95] at HR
          have HR2 := Lib.hid HR
          clear HR HN
          go_enter Tryd.func8, Tryd.ntmps8
          go_wp2_with fail
          with_reducible refine (HC.out).mono ?_
          rintro e w' ⟨rfl, rfl⟩
          go_wp2
          go_ret
          exact ⟨ret_bool HR2.out.symm, rfl⟩
    · have HN := Lib.hid (nby_rest hs (fun h => h1 h.1))
      clear hs
      cases h45 : ((c.toNat : Int) == 45) <;> cases h95 : ((c.toNat : Int) == 95)
      all_goals
        have HR := HN.out
        rw [h45, h95] at HR
        have HR2 := Lib.hid HR
        clear HR HN
        go_enter Tryd.func8, Tryd.ntmps8
        go_wp2_with fail
        with_reducible refine (HC.out).mono ?_
        rintro e w' ⟨rfl, rfl⟩
        go_wp2
        go_ret
        exact ⟨ret_bool HR2.out.symm, rfl⟩
  · have HC := Lib.hid (isSmall_any c w)
    rw [hs] at HC
    have HN : Hid (nby c = true) := Lib.hid (by unfold nby; rw [hs]; rfl)
    clear hs
    go_enter Tryd.func8, Tryd.ntmps8
    go_wp2_with fail
    with_reducible refine (HC.out).mono ?_
    rintro e w' ⟨rfl, rfl⟩
    go_wp2
    go_ret
    exact ⟨ret_bool HN.out.symm, rfl⟩
/-! ### Names -/
theorem isName_nil {l : By} (h : l.length = 0) : isName l = false := by unfold isName; rw [h]; rfl
theorem isName_long {l : By} (h : 30 < l.length) : isName l = false := by unfold isName; rw [decide_eq_false (by omega)]; rfl
theorem list_head {s : ByteArray} (h : 0 < s.size) : s.data.toList.head? = some s[0] := by
  rw [List.head?_eq_getElem?]; exact List.getElem?_eq_getElem (by rw [size_list]; exact h)
theorem isName_head {s : ByteArray} (h : 0 < s.size) (hs : sml s[0] = false) : isName s.data.toList = false := by
  unfold isName; rw [list_head h]; simp [hs]
theorem isName_no {s : ByteArray} {k : Nat} (hk : k < s.size) (hs : nby (s[k]'hk) = false) : isName s.data.toList = false := by
  unfold isName
  have : s.data.toList.all nby = false := by
    rw [List.all_eq_false]
    have hk2 : k < s.data.toList.length := by rw [size_list]; exact hk
    have hs2 : nby (s.data.toList[k]'hk2) = false := hs
    exact ⟨s.data.toList[k]'hk2, List.getElem_mem hk2, by rw [hs2]; exact Bool.false_ne_true⟩
  rw [this]; simp
theorem isName_yes {s : ByteArray} (h1 : 0 < s.size) (h2 : s.size ≤ 30) (hs : sml s[0] = true) (ha : ∀ (k : Nat) (hk : k < s.size), nby (s[k]'hk) = true) : isName s.data.toList = true := by
  unfold isName
  rw [decide_eq_true (by rw [size_list]; omega), list_head h1]
  simp only [Option.map_some, hs, beq_self_eq_true, Bool.true_and, List.all_eq_true]
  intro x hx
  obtain ⟨k, hk, rfl⟩ := List.mem_iff_getElem.1 hx
  exact ha k (by rw [← size_list]; exact hk)
theorem empty_yes {s : ByteArray} (h : s.size = 0) : s = ⟨#[]⟩ := bs_inj (by
  have : s.data.toList = [] := List.length_eq_zero_iff.1 (by rw [size_list]; exact h)
  rw [this])
theorem empty_no {s : ByteArray} (h : 0 < s.size) : s.toList.isEmpty = false ∧ s.toList ≠ [] := by
  rw [Lib.toList_data]
  have : s.data.toList ≠ [] := fun e => by have := size_list s; rw [e] at this; simp at this; omega
  exact ⟨by cases hq : s.data.toList with
    | nil => exact absurd hq this
    | cons _ _ => rfl, this⟩
set_option maxRecDepth 100000 in
set_option maxHeartbeats 2000000 in
theorem IsName_any (s : ByteArray) (w : World) (hs : s.size ≤ maxLen) : Calls Tryd.prog 4 #[.string s] w fun e w' => e = .returned (.bool (isName s.data.toList)) ∧ w = w' := by
  unfold maxLen at hs
  by_cases k0 : s.size = 0
  · have HN := Lib.hid (isName_nil (l := s.data.toList) (by rw [size_list]; exact k0))
    obtain rfl := empty_yes k0
    clear k0
    go_enter Tryd.func4, Tryd.ntmps4
    go_wp2
    go_ret
    exact ⟨ret_bool HN.out.symm, rfl⟩
  · have kpos : 0 < s.size := by omega
    obtain ⟨e1, e2⟩ := empty_no kpos
    by_cases k30 : 30 < s.size
    · have HN := Lib.hid (isName_long (l := s.data.toList) (by rw [size_list]; exact k30))
      have d30 : decide ((30 : Int) < (s.size : Int)) = true := decide_eq_true (by omega)
      clear k0 k30
      go_enter Tryd.func4, Tryd.ntmps4
      go_wp2
      go_ret
      exact ⟨ret_bool HN.out.symm, rfl⟩
    · have d30 : decide ((30 : Int) < (s.size : Int)) = false := decide_eq_false (by omega)
      have q0 : (0 : Int) < (s.size : Int) := by omega
      cases hsm : sml s[0]
      · have HN := Lib.hid (isName_head kpos hsm)
        have HC := Lib.hid (isSmall_any s[0] w)
        rw [hsm] at HC
        clear k0 k30 hsm
        go_enter Tryd.func4, Tryd.ntmps4
        go_wp2_with fail
        with_reducible refine (HC.out).mono ?_
        rintro e w' ⟨rfl, rfl⟩
        go_wp2
        go_ret
        exact ⟨ret_bool HN.out.symm, rfl⟩
      · have HY := Lib.hid (isName_yes kpos (by omega) hsm)
        have HC := Lib.hid (isSmall_any s[0] w)
        rw [hsm] at HC
        clear k0 hsm
        go_enter Tryd.func4, Tryd.ntmps4
        go_wp2_with fail
        with_reducible refine (HC.out).mono ?_
        rintro e w' ⟨rfl, rfl⟩
        go_wp2_with fail
        go_loop [19] (fun i => ∃ k : Nat, k ≤ s.size ∧ i = .int .i64 k ∧ Hid (∀ (j : Nat) (hj : j < s.size), j < k → nby (s[j]'hj) = true)) (fun i => s.size - (intOf i).toNat)
        case atStart => exact ⟨0, Nat.zero_le _, rfl, Lib.hid (fun j hj h => absurd h (by omega))⟩
        case round =>
          obtain ⟨k, hk, rfl, HA⟩ := hrel
          by_cases hlt : k < s.size
          · have hki : (k : Int) < (s.size : Int) := by omega
            obtain ⟨c, hc⟩ : ∃ c, s[k]'hlt = c := ⟨_, rfl⟩
            have hget : ∀ h, s[k]'h = c := fun _ => hc
            have HCc := Lib.hid hc
            clear hc
            cases hb : nby c
            · have HB := Lib.hid (isNameByte_any c w)
              rw [hb] at HB
              have HN : Hid (isName s.data.toList = false) := Lib.hid (isName_no hlt (by rw [HCc.out]; exact hb))
              clear hb
              go_wp2_with fail
              with_reducible refine (HB.out).mono ?_
              rintro e w' ⟨rfl, rfl⟩
              go_wp2
              go_ret
              exact ⟨ret_bool HN.out.symm, rfl⟩
            · have HB := Lib.hid (isNameByte_any c w)
              rw [hb] at HB
              have HA2 : Hid (∀ (j : Nat) (hj : j < s.size), j < k + 1 → nby (s[j]'hj) = true) := Lib.hid (fun j hj h => by
                by_cases e : j = k
                · subst e; rw [HCc.out]; exact hb
                · exact HA.out j hj (by omega))
              clear hb
              go_wp2_with fail
              with_reducible refine (HB.out).mono ?_
              rintro e w' ⟨rfl, rfl⟩
              go_wp2
              go_round
              case rel => exact ⟨k + 1, by omega, by go_num, HA2⟩
              case measure => simp [intOf]; omega
          · have HN : Hid (isName s.data.toList = true) := Lib.hid (HY.out (fun j hj => HA.out j hj (by omega)))
            go_wp2
            go_ret
            exact ⟨ret_bool HN.out.symm, rfl⟩
end Go.Proofs.YtbibekojbjonoaaDoor.Po
