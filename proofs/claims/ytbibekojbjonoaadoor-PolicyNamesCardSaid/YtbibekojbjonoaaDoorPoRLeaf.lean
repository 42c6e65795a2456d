/-
  The contracts of the reference's IsName, exists, scope and sectionOK.
-/
import Derived.Test.YtbibekojbjonoaaDoorPoVal
namespace Go.Proofs.YtbibekojbjonoaaDoor.Po
open Go.RowKit Go.Shelf
set_option linter.unusedVariables false
set_option linter.unusedSimpArgs false

theorem d_t {p : Prop} [Decidable p] (h : p) : decide p = true := decide_eq_true h
theorem d_f {p : Prop} [Decidable p] (h : ¬ p) : decide p = false := decide_eq_false h
theorem nby_of {c : UInt8} : nby c = decide ((97 ≤ c.toNat ∧ c.toNat ≤ 122) ∨ (48 ≤ c.toNat ∧ c.toNat ≤ 57) ∨ c.toNat = 45 ∨ c.toNat = 95) := by
  unfold nby sml
  have h : ∀ k : UInt8, (c == k) = decide (c.toNat = k.toNat) := fun k => by
    rw [Bool.eq_iff_iff, beq_iff_eq, decide_eq_true_iff, UInt8.toNat_inj]
  rw [h, h]
  have h45 : (45 : UInt8).toNat = 45 := rfl
  have h95 : (95 : UInt8).toNat = 95 := rfl
  rw [h45, h95, Bool.eq_iff_iff]
  simp
inductive NC (c : UInt8) : Prop where
  | a (h : nby c = true) (h1 : decide ((c.toNat : Int) < 97) = false) (h2 : decide (122 < (c.toNat : Int)) = false)
  | b (h : nby c = true) (h1 : decide ((c.toNat : Int) < 97) = true) (h2 : decide ((c.toNat : Int) < 48) = true) (h3 : ((c.toNat : Int) != 45) = false)
  | c (h : nby c = true) (h1 : decide ((c.toNat : Int) < 97) = true) (h2 : decide ((c.toNat : Int) < 48) = false) (h3 : decide (57 < (c.toNat : Int)) = false)
  | d (h : nby c = true) (h1 : decide ((c.toNat : Int) < 97) = true) (h2 : decide ((c.toNat : Int) < 48) = false) (h3 : decide (57 < (c.toNat : Int)) = true) (h4 : ((c.toNat : Int) != 45) = true) (h5 : ((c.toNat : Int) != 95) = false)
  | e (h : nby c = false) (h1 : decide ((c.toNat : Int) < 97) = true) (h2 : decide ((c.toNat : Int) < 48) = true) (h3 : ((c.toNat : Int) != 45) = true) (h4 : ((c.toNat : Int) != 95) = true)
  | f (h : nby c = false) (h1 : decide ((c.toNat : Int) < 97) = true) (h2 : decide ((c.toNat : Int) < 48) = false) (h3 : decide (57 < (c.toNat : Int)) = true) (h4 : ((c.toNat : Int) != 45) = true) (h5 : ((c.toNat : Int) != 95) = true)
  | g (h : nby c = false) (h1 : decide ((c.toNat : Int) < 97) = false) (h2 : decide (122 < (c.toNat : Int)) = true) (h3 : decide ((c.toNat : Int) < 48) = false) (h4 : decide (57 < (c.toNat : Int)) = true) (h5 : ((c.toNat : Int) != 45) = true) (h6 : ((c.toNat : Int) != 95) = true)
theorem ne_t {a b : Int} (h : a ≠ b) : (a != b) = true := by rw [bne_iff_ne]; exact h
theorem ne_f {a b : Int} (h : a = b) : (a != b) = false := by rw [bne_eq_false_iff_eq]; exact h
theorem nby_nc (c : UInt8) : NC c := by
  by_cases a1 : c.toNat < 97
  · by_cases b1 : c.toNat < 48
    · by_cases e : c.toNat = 45
      · exact .b (by rw [nby_of]; exact d_t (by omega)) (d_t (by omega)) (d_t (by omega)) (ne_f (by omega))
      · exact .e (by rw [nby_of]; exact d_f (by omega)) (d_t (by omega)) (d_t (by omega)) (ne_t (by omega)) (ne_t (by omega))
    · by_cases b2 : 57 < c.toNat
      · by_cases e : c.toNat = 95
        · exact .d (by rw [nby_of]; exact d_t (by omega)) (d_t (by omega)) (d_f (by omega)) (d_t (by omega)) (ne_t (by omega)) (ne_f (by omega))
        · exact .f (by rw [nby_of]; exact d_f (by omega)) (d_t (by omega)) (d_f (by omega)) (d_t (by omega)) (ne_t (by omega)) (ne_t (by omega))
      · exact .c (by rw [nby_of]; exact d_t (by omega)) (d_t (by omega)) (d_f (by omega)) (d_f (by omega))
  · by_cases a2 : 122 < c.toNat
    · exact .g (by rw [nby_of]; exact d_f (by omega)) (d_f (by omega)) (d_t (by omega)) (d_f (by omega)) (d_t (by omega)) (ne_t (by omega)) (ne_t (by omega))
    · exact .a (by rw [nby_of]; exact d_t (by omega)) (d_f (by omega)) (d_f (by omega))
theorem sml_of (c : UInt8) : sml c = true ∧ decide ((c.toNat : Int) < 97) = false ∧ decide (122 < (c.toNat : Int)) = false ∨ sml c = false ∧ decide ((c.toNat : Int) < 97) = true ∨ sml c = false ∧ decide ((c.toNat : Int) < 97) = false ∧ decide (122 < (c.toNat : Int)) = true := by
  by_cases a1 : c.toNat < 97
  · exact .inr (.inl ⟨d_f (by omega), d_t (by omega)⟩)
  · by_cases a2 : 122 < c.toNat
    · exact .inr (.inr ⟨d_f (by omega), d_f (by omega), d_t (by omega)⟩)
    · exact .inl ⟨d_t (by omega), d_f (by omega), d_f (by omega)⟩
set_option maxRecDepth 100000 in
set_option maxHeartbeats 4000000 in
theorem RIsName_any (s : ByteArray) (w : World) (hs : s.size ≤ maxLen) : Calls Tryd.prog 5 #[.string s] w fun e w' => e = .returned (.bool (isName s.data.toList)) ∧ w = w' := by
  unfold maxLen at hs
  by_cases k0 : s.size = 0
  · have HN := Lib.hid (isName_nil (l := s.data.toList) (by rw [size_list]; exact k0))
    obtain rfl := empty_yes k0
    clear k0
    go_enter Tryd.func5, Tryd.ntmps5
    go_wp2
    go_ret
    exact ⟨ret_bool HN.out.symm, rfl⟩
  · have kpos : 0 < s.size := by omega
    have d0 : decide ((s.size : Int) < 1) = false := d_f (by omega)
    by_cases k30 : 30 < s.size
    · have HN := Lib.hid (isName_long (l := s.data.toList) (by rw [size_list]; exact k30))
      have d30 : decide ((30 : Int) < (s.size : Int)) = true := d_t (by omega)
      clear k0 k30
      go_enter Tryd.func5, Tryd.ntmps5
      go_wp2
      go_ret
      exact ⟨ret_bool HN.out.symm, rfl⟩
    · have d30 : decide ((30 : Int) < (s.size : Int)) = false := d_f (by omega)
      have q0 : (0 : Int) < (s.size : Int) := by omega
      obtain ⟨c0, hc0⟩ : ∃ c, s[0]'kpos = c := ⟨_, rfl⟩
      have hget0 : ∀ h, s[0]'h = c0 := fun _ => hc0
      have HN0 := Lib.hid (fun h => isName_head kpos h)
      have HY := Lib.hid (isName_yes kpos (by omega))
      rw [hc0] at HN0 HY
      clear hc0 k0
      rcases sml_of c0 with ⟨hsm, g1, g2⟩ | ⟨hsm, g1⟩ | ⟨hsm, g1, g2⟩
      · have HY2 := Lib.hid (HY.out hsm)
        clear HY HN0 hsm
        go_enter Tryd.func5, Tryd.ntmps5
        go_wp2
        clear g1 g2 d0 d30
        go_loop [3] (fun i => ∃ k : Nat, k ≤ s.size ∧ i = .int .i64 k ∧ Hid (∀ (j : Nat) (hj : j < s.size), j < k → nby (s[j]'hj) = true)) (fun i => s.size - (intOf i).toNat)
        case atStart => exact ⟨0, Nat.zero_le _, rfl, Lib.hid (fun j hj h => absurd h (by omega))⟩
        case round =>
          obtain ⟨k, hk, rfl, HA⟩ := hrel
          by_cases hlt : k < s.size
          · have hki : (k : Int) < (s.size : Int) := by omega
            obtain ⟨c, hc⟩ : ∃ c, s[k]'hlt = c := ⟨_, rfl⟩
            have hget : ∀ h, s[k]'h = c := fun _ => hc
            have HCc := Lib.hid hc
            clear hc hget0
            have HA2 : Hid (nby c = true → ∀ (j : Nat) (hj : j < s.size), j < k + 1 → nby (s[j]'hj) = true) := Lib.hid (fun hb j hj h => by
              by_cases e : j = k
              · subst e; rw [HCc.out]; exact hb
              · exact HA.out j hj (by omega))
            have HNo : Hid (nby c = false → isName s.data.toList = false) := Lib.hid (fun hb => isName_no hlt (by rw [HCc.out]; exact hb))
            rcases nby_nc c with ⟨h, h1, h2⟩ | ⟨h, h1, h2, h3⟩ | ⟨h, h1, h2, h3⟩ | ⟨h, h1, h2, h3, h4, h5⟩ | ⟨h, h1, h2, h3, h4⟩ | ⟨h, h1, h2, h3, h4, h5⟩ | ⟨h, h1, h2, h3, h4, h5, h6⟩
            iterate 4
              · have HA3 := Lib.hid (HA2.out h)
                clear h HA2 HNo
                go_wp2
                go_round
                case rel => exact ⟨k + 1, by omega, by go_num, HA3⟩
                case measure => simp [intOf]; omega
            all_goals
              have HN := Lib.hid (HNo.out h)
              clear h HA2 HNo
              go_wp2
              go_ret
              exact ⟨ret_bool HN.out.symm, rfl⟩
          · have HN : Hid (isName s.data.toList = true) := Lib.hid (HY2.out (fun j hj => HA.out j hj (by omega)))
            have dlt : decide ((k : Int) < (s.size : Int)) = false := d_f (by omega)
            go_wp2
            go_ret
            exact ⟨ret_bool HN.out.symm, rfl⟩
      · have HN := Lib.hid (HN0.out hsm)
        clear HY HN0 hsm
        go_enter Tryd.func5, Tryd.ntmps5
        go_wp2
        go_ret
        exact ⟨ret_bool HN.out.symm, rfl⟩
      · have HN := Lib.hid (HN0.out hsm)
        clear HY HN0 hsm
        go_enter Tryd.func5, Tryd.ntmps5
        go_wp2
        go_ret
        exact ⟨ret_bool HN.out.symm, rfl⟩
end Go.Proofs.YtbibekojbjonoaaDoor.Po
