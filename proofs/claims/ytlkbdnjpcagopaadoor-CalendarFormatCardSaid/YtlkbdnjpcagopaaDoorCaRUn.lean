/-
  The contract of Unit of the calendar's reference.
-/
import Derived.Test.YtlkbdnjpcagopaaDoorCaKnown
namespace Go.Proofs.YtlkbdnjpcagopaaDoor.Ca
open Go.RowKit
set_option linter.unusedVariables false
set_option linter.unusedSimpArgs false

theorem gk' (s : ByteArray) (k : Nat) (h : k < s.size) : s.data.toList[k]'(by simpa using h) = s[k] := by simp [ByteArray.getElem_eq_getElem_data]
theorem drop_end (l : List UInt8) {k : Nat} (h : l.length ≤ k) : syms (l.drop k) = [] := by rw [List.drop_eq_nil_of_le h]; rfl
theorem fold_snoc (pre : List Sy) (x : Sy) : (pre ++ [x]).foldl ustep 5 = ustep (pre.foldl ustep 5) x := by rw [List.foldl_append]; rfl
set_option maxRecDepth 100000 in
set_option maxHeartbeats 4000000 in
theorem RUnit_any (s : ByteArray) (w : World) (hs : s.size ≤ 1000) :
    Calls Tryd.prog 29 #[.string s] w fun e w' => e = .returned (.int .i64 (unit s.data.toList)) ∧ Below w.heap.size w w' := by
  have hsl : s.data.toList.length = s.size := by simp
  have HL := Lib.hid hsl
  clear hsl
  go_enter Tryd.func29, Tryd.ntmps29
  go_wp2
  go_loop [3, 4] (fun u i => ∃ (pre : List Sy) (k : Nat), i = .int .i64 k ∧ k ≤ s.size + 1 ∧ u = .int .i64 (pre.foldl ustep 5) ∧ Hid (syms s.data.toList = pre ++ syms (s.data.toList.drop k))) (fun _ i => s.size + 1 - (intOf i).toNat)
  case atStart => exact ⟨[], 0, rfl, Nat.zero_le _, rfl, Lib.hid (by simp)⟩
  case round =>
    obtain ⟨pre, k, rfl, hk, rfl, HP⟩ := hrel
    have hub := fold_bd pre 5 (by omega) (by omega)
    by_cases hlt : k < s.size
    · by_cases h9 : s[k] = 92
      · have hv : (s[k].toNat : Int) = 92 := by rw [h9]; rfl
        have HX : ∃ x : Sy, Hid (syms s.data.toList = (pre ++ [x]) ++ syms (s.data.toList.drop (k + 2))) ∧ Hid ((pre ++ [x]).foldl ustep 5 = pre.foldl ustep 5) := by
          by_cases h1 : k + 1 < s.size
          · have he := syms_esc s.data.toList k (by rw [HL.out]; exact h1) ((gk' s k hlt).trans h9)
            exact ⟨_, Lib.hid (by rw [HP.out, he, List.append_assoc]; rfl), Lib.hid (by rw [fold_snoc]; rfl)⟩
          · have he := syms_plain s.data.toList k (by rw [HL.out]; exact hlt) (fun h => by have a := h.2; rw [HL.out] at a; omega)
            refine ⟨(s.data.toList[k]'(by rw [HL.out]; exact hlt), false), Lib.hid (by rw [HP.out, he, drop_end _ (by rw [HL.out]; omega), drop_end _ (by rw [HL.out]; omega)]; simp), Lib.hid ?_⟩
            rw [fold_snoc, gk' s k hlt, h9]
            show min (pre.foldl ustep 5) (cu 92) = _
            have : cu 92 = 5 := rfl
            omega
        obtain ⟨x, HX1, HX2⟩ := HX
        clear h9
        go_wp2
        go_round
        case rel => exact ⟨pre ++ [x], k + 2, by go_num, by omega, by rw [HX2.out], HX1⟩
        case measure => simp [intOf]; omega
      · have he := syms_plain s.data.toList k (by rw [HL.out]; exact hlt) (by rw [gk' s k hlt]; exact fun h => h9 h.1)
        rw [gk' s k hlt] at he
        have HX1 : Hid (syms s.data.toList = (pre ++ [(s[k], false)]) ++ syms (s.data.toList.drop (k + 1))) := Lib.hid (by rw [HP.out, he, List.append_assoc]; rfl)
        have hst : (pre ++ [(s[k], false)]).foldl ustep 5 = min (pre.foldl ustep 5) (cu s[k]) := fold_snoc pre _
        obtain ⟨u, hu⟩ : ∃ u, pre.foldl ustep 5 = u := ⟨_, rfl⟩
        rw [hu] at hst hub
        clear he
        by_cases n105 : s[k] = 105
        · have hv : (s[k].toNat : Int) = 105 := by rw [n105]; rfl
          have HS : Hid ((pre ++ [(s[k], false)]).foldl ustep 5 = min u 1) := Lib.hid (by rw [hst, n105]; rfl)
          clear hst h9 n105
          have HU := Lib.hid hu
          go_wp2
          go_round
          case rel => exact ⟨pre ++ [(s[k], false)], k + 1, by go_num, by omega, by rw [HS.out], HX1⟩
          case measure => simp [intOf]; omega
        by_cases n72 : s[k] = 72
        · have hv : (s[k].toNat : Int) = 72 := by rw [n72]; rfl
          have HS : Hid ((pre ++ [(s[k], false)]).foldl ustep 5 = min u 2) := Lib.hid (by rw [hst, n72]; rfl)
          clear hst h9 n72 n105
          have HU := Lib.hid hu
          go_wp2
          go_round
          case rel => exact ⟨pre ++ [(s[k], false)], k + 1, by go_num, by omega, by rw [HS.out], HX1⟩
          case measure => simp [intOf]; omega
        by_cases n71 : s[k] = 71
        · have hv : (s[k].toNat : Int) = 71 := by rw [n71]; rfl
          have HS : Hid ((pre ++ [(s[k], false)]).foldl ustep 5 = min u 2) := Lib.hid (by rw [hst, n71]; rfl)
          clear hst h9 n71 n105 n72
          have HU := Lib.hid hu
          go_wp2
          go_round
          case rel => exact ⟨pre ++ [(s[k], false)], k + 1, by go_num, by omega, by rw [HS.out], HX1⟩
          case measure => simp [intOf]; omega
        by_cases n100 : s[k] = 100
        · have hv : (s[k].toNat : Int) = 100 := by rw [n100]; rfl
          have HS : Hid ((pre ++ [(s[k], false)]).foldl ustep 5 = min u 3) := Lib.hid (by rw [hst, n100]; rfl)
          clear hst h9 n100 n105 n72 n71
          have HU := Lib.hid hu
          go_wp2
          go_round
          case rel => exact ⟨pre ++ [(s[k], false)], k + 1, by go_num, by omega, by rw [HS.out], HX1⟩
          case measure => simp [intOf]; omega
        by_cases n106 : s[k] = 106
        · have hv : (s[k].toNat : Int) = 106 := by rw [n106]; rfl
          have HS : Hid ((pre ++ [(s[k], false)]).foldl ustep 5 = min u 3) := Lib.hid (by rw [hst, n106]; rfl)
          clear hst h9 n106 n105 n72 n71 n100
          have HU := Lib.hid hu
          go_wp2
          go_round
          case rel => exact ⟨pre ++ [(s[k], false)], k + 1, by go_num, by omega, by rw [HS.out], HX1⟩
          case measure => simp [intOf]; omega
        by_cases n122 : s[k] = 122
        · have hv : (s[k].toNat : Int) = 122 := by rw [n122]; rfl
          have HS : Hid ((pre ++ [(s[k], false)]).foldl ustep 5 = min u 3) := Lib.hid (by rw [hst, n122]; rfl)
          clear hst h9 n122 n105 n72 n71 n100 n106
          have HU := Lib.hid hu
          go_wp2
          go_round
          case rel => exact ⟨pre ++ [(s[k], false)], k + 1, by go_num, by omega, by rw [HS.out], HX1⟩
          case measure => simp [intOf]; omega
        by_cases n78 : s[k] = 78
        · have hv : (s[k].toNat : Int) = 78 := by rw [n78]; rfl
          have HS : Hid ((pre ++ [(s[k], false)]).foldl ustep 5 = min u 3) := Lib.hid (by rw [hst, n78]; rfl)
          clear hst h9 n78 n105 n72 n71 n100 n106 n122
          have HU := Lib.hid hu
          go_wp2
          go_round
          case rel => exact ⟨pre ++ [(s[k], false)], k + 1, by go_num, by omega, by rw [HS.out], HX1⟩
          case measure => simp [intOf]; omega
        by_cases n108 : s[k] = 108
        · have hv : (s[k].toNat : Int) = 108 := by rw [n108]; rfl
          have HS : Hid ((pre ++ [(s[k], false)]).foldl ustep 5 = min u 3) := Lib.hid (by rw [hst, n108]; rfl)
          clear hst h9 n108 n105 n72 n71 n100 n106 n122 n78
          have HU := Lib.hid hu
          go_wp2
          go_round
          case rel => exact ⟨pre ++ [(s[k], false)], k + 1, by go_num, by omega, by rw [HS.out], HX1⟩
          case measure => simp [intOf]; omega
        by_cases n68 : s[k] = 68
        · have hv : (s[k].toNat : Int) = 68 := by rw [n68]; rfl
          have HS : Hid ((pre ++ [(s[k], false)]).foldl ustep 5 = min u 3) := Lib.hid (by rw [hst, n68]; rfl)
          clear hst h9 n68 n105 n72 n71 n100 n106 n122 n78 n108
          have HU := Lib.hid hu
          go_wp2
          go_round
          case rel => exact ⟨pre ++ [(s[k], false)], k + 1, by go_num, by omega, by rw [HS.out], HX1⟩
          case measure => simp [intOf]; omega
        by_cases n109 : s[k] = 109
        · have hv : (s[k].toNat : Int) = 109 := by rw [n109]; rfl
          have HS : Hid ((pre ++ [(s[k], false)]).foldl ustep 5 = min u 4) := Lib.hid (by rw [hst, n109]; rfl)
          clear hst h9 n109 n105 n72 n71 n100 n106 n122 n78 n108 n68
          have HU := Lib.hid hu
          go_wp2
          go_round
          case rel => exact ⟨pre ++ [(s[k], false)], k + 1, by go_num, by omega, by rw [HS.out], HX1⟩
          case measure => simp [intOf]; omega
        by_cases n110 : s[k] = 110
        · have hv : (s[k].toNat : Int) = 110 := by rw [n110]; rfl
          have HS : Hid ((pre ++ [(s[k], false)]).foldl ustep 5 = min u 4) := Lib.hid (by rw [hst, n110]; rfl)
          clear hst h9 n110 n105 n72 n71 n100 n106 n122 n78 n108 n68 n109
          have HU := Lib.hid hu
          go_wp2
          go_round
          case rel => exact ⟨pre ++ [(s[k], false)], k + 1, by go_num, by omega, by rw [HS.out], HX1⟩
          case measure => simp [intOf]; omega
        by_cases n70 : s[k] = 70
        · have hv : (s[k].toNat : Int) = 70 := by rw [n70]; rfl
          have HS : Hid ((pre ++ [(s[k], false)]).foldl ustep 5 = min u 4) := Lib.hid (by rw [hst, n70]; rfl)
          clear hst h9 n70 n105 n72 n71 n100 n106 n122 n78 n108 n68 n109 n110
          have HU := Lib.hid hu
          go_wp2
          go_round
          case rel => exact ⟨pre ++ [(s[k], false)], k + 1, by go_num, by omega, by rw [HS.out], HX1⟩
          case measure => simp [intOf]; omega
        by_cases n77 : s[k] = 77
        · have hv : (s[k].toNat : Int) = 77 := by rw [n77]; rfl
          have HS : Hid ((pre ++ [(s[k], false)]).foldl ustep 5 = min u 4) := Lib.hid (by rw [hst, n77]; rfl)
          clear hst h9 n77 n105 n72 n71 n100 n106 n122 n78 n108 n68 n109 n110 n70
          have HU := Lib.hid hu
          go_wp2
          go_round
          case rel => exact ⟨pre ++ [(s[k], false)], k + 1, by go_num, by omega, by rw [HS.out], HX1⟩
          case measure => simp [intOf]; omega
        have HS : Hid ((pre ++ [(s[k], false)]).foldl ustep 5 = u) := Lib.hid (by rw [hst, show cu s[k] = 5 by unfold cu; simp [n105, n72, n71, n100, n106, n122, n78, n108, n68, n109, n110, n70, n77]]; omega)
        have HU := Lib.hid hu
        have e92 : ((s[k].toNat : Int) == 92) = false := u8_ne h9
        have e105 : ((s[k].toNat : Int) == 105) = false := u8_ne n105
        have e72 : ((s[k].toNat : Int) == 72) = false := u8_ne n72
        have e71 : ((s[k].toNat : Int) == 71) = false := u8_ne n71
        have e100 : ((s[k].toNat : Int) == 100) = false := u8_ne n100
        have e106 : ((s[k].toNat : Int) == 106) = false := u8_ne n106
        have e122 : ((s[k].toNat : Int) == 122) = false := u8_ne n122
        have e78 : ((s[k].toNat : Int) == 78) = false := u8_ne n78
        have e108 : ((s[k].toNat : Int) == 108) = false := u8_ne n108
        have e68 : ((s[k].toNat : Int) == 68) = false := u8_ne n68
        have e109 : ((s[k].toNat : Int) == 109) = false := u8_ne n109
        have e110 : ((s[k].toNat : Int) == 110) = false := u8_ne n110
        have e70 : ((s[k].toNat : Int) == 70) = false := u8_ne n70
        have e77 : ((s[k].toNat : Int) == 77) = false := u8_ne n77
        clear hst h9 n105 n72 n71 n100 n106 n122 n78 n108 n68 n109 n110 n70 n77
        go_wp2
        go_round
        case rel => exact ⟨pre ++ [(s[k], false)], k + 1, by go_num, by omega, by rw [HS.out, HU.out], HX1⟩
        case measure => simp [intOf]; omega
    · have HR : Hid (pre.foldl ustep 5 = unit s.data.toList) := Lib.hid (by
        unfold unit; rw [HP.out, drop_end _ (by rw [HL.out]; omega), List.append_nil])
      have hge : (s.size : Int) ≤ (k : Int) := by omega
      go_wp2
      go_ret
      exact ⟨by rw [← HR.out]; rfl, Below.refl _ _⟩
end Go.Proofs.YtlkbdnjpcagopaaDoor.Ca
