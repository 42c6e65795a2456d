/-
  The contract of exists of package policy.
-/
import Derived.Test.YtbibekojbjonoaaDoorPoWord
namespace Go.Proofs.YtbibekojbjonoaaDoor.Po
open Go.RowKit Go.Shelf
set_option linter.unusedVariables false
set_option linter.unusedSimpArgs false

theorem has_cons (a : Grp) (gs : List Grp) (n : By) : has (a :: gs) n = (decide (a.nm = n) || has gs n) := by
  unfold has; rw [List.any_cons]; cases built n <;> cases decide (a.nm = n) <;> rfl
theorem any_hit {gs : List Grp} {k : Nat} (h : k < gs.length) {n : By} (e : gs[k].nm = n) : has gs n = true := by
  unfold has
  rw [Bool.or_eq_true, List.any_eq_true]
  exact .inr ⟨gs[k], List.getElem_mem h, by simpa using e⟩
theorem any_none {gs : List Grp} {n : By} (hb : built n = false) (h : ∀ (j : Nat) (hj : j < gs.length), gs[j].nm ≠ n) : has gs n = false := by
  unfold has
  rw [hb, Bool.false_or, List.any_eq_false]
  intro g hg
  obtain ⟨j, hj, rfl⟩ := List.mem_iff_getElem.1 hg
  simpa using h j hj
theorem bsl_ne {a b : By} (h : a ≠ b) : ((bsl a).toList == (bsl b).toList) = false := by rw [str_beq]; exact decide_eq_false h
theorem bsl_eq' {a b : By} (h : a = b) : ((bsl a).toList == (bsl b).toList) = true := by rw [str_beq]; exact decide_eq_true h
theorem lit_eq {a b : By} (h : a = b) : ((bsl a).toList == b) = true := by rw [bsl_toList, beq_iff_eq]; exact h
theorem lit_ne {a b : By} (h : a ≠ b) : ((bsl a).toList == b) = false := by rw [bsl_toList, beq_eq_false_iff_ne]; exact h
set_option maxRecDepth 100000 in
set_option maxHeartbeats 2000000 in
theorem exists_any (v : Value) (gs : List Grp) (n : By) (w : World) (hv : RdG w w.heap.size v gs) : Calls Tryd.prog 24 #[v, .string (bsl n)] w fun e w' => e = .returned (.bool (has gs n)) ∧ Below w.heap.size w w' := by
  obtain ⟨A, c, rfl, hl1, hl2, hr⟩ := hv.ex
  unfold maxLen at hl2
  have HR := Lib.hid hr
  clear hr hv
  by_cases h1 : n = wAll
  · have HE : Hid (has gs n = true) := Lib.hid (by unfold has; rw [h1]; rfl)
    have t1 : ((bsl n).toList == [97, 108, 108]) = true := lit_eq (b := wAll) h1
    clear h1
    go_enter Tryd.func24, Tryd.ntmps24
    go_wp2
    go_ret
    exact ⟨ret_bool HE.out.symm, Below.refl _ _⟩
  · by_cases h2 : n = wUsers
    · have HE : Hid (has gs n = true) := Lib.hid (by unfold has; rw [h2]; rfl)
      have t1 : ((bsl n).toList == [97, 108, 108]) = false := lit_ne (b := wAll) h1
      have t2 : ((bsl n).toList == [117, 115, 101, 114, 115]) = true := lit_eq (b := wUsers) h2
      clear h1 h2
      go_enter Tryd.func24, Tryd.ntmps24
      go_wp2
      go_ret
      exact ⟨ret_bool HE.out.symm, Below.refl _ _⟩
    · have HB : Hid (built n = false) := Lib.hid (by unfold built; rw [decide_eq_false h1, decide_eq_false h2]; rfl)
      have t1 : ((bsl n).toList == [97, 108, 108]) = false := lit_ne (b := wAll) h1
      have t2 : ((bsl n).toList == [117, 115, 101, 114, 115]) = false := lit_ne (b := wUsers) h2
      clear h1 h2
      go_enter Tryd.func24, Tryd.ntmps24
      go_wp2
      clear t1 t2
      go_loopw [15] (fun i wr => ∃ k : Nat, k ≤ gs.length ∧ i = .int .i64 k ∧ Hid (∀ (j : Nat) (hj : j < gs.length), j < k → gs[j].nm ≠ n) ∧ Hid (Below w.heap.size w wr)) (fun i _ => gs.length - (intOf i).toNat)
      case atStart => exact ⟨0, Nat.zero_le _, rfl, Lib.hid (fun j hj h => absurd h (by omega)), Lib.hid (Below.refl _ _)⟩
      case round =>
        obtain ⟨k, hk, rfl, HA, HW⟩ := hrel
        by_cases hlt : k < gs.length
        · obtain ⟨g, o, rfl, hg, q⟩ := HR.out (by omega)
          have hki : (k : Int) < (gs.length : Int) := by omega
          obtain ⟨m, q1, q2, q3⟩ := q k gs[k] (List.getElem?_eq_getElem hlt)
          obtain ⟨Am, cm, rfl, _⟩ := q3.ex
          clear q3
          generalize gs[k].ms.length = zm at q2
          have hc : ∀ j, wr.cell? ⟨g, j, none⟩ = w.cell? ⟨g, j, none⟩ := fun j => HW.out.cell (p := ⟨g, j, none⟩) hg
          rw [← hc] at q1 q2
          obtain ⟨x, hx⟩ : ∃ x, gs[k].nm = x := ⟨_, rfl⟩
          rw [hx] at q1
          have HX := Lib.hid hx
          have hB : Below w.heap.size w (wr.alloc (.cells #[.string (bsl x), .slice Am zm cm] 58)) := HW.out.alloc HW.out.size _
          have HB2 := Lib.hid hB
          clear hc q hx hB
          by_cases he : x = n
          · have t3 := bsl_eq' he
            have HE : Hid (has gs n = true) := Lib.hid (any_hit hlt (HX.out.trans he))
            clear he
            go_wp2
            go_ret
            exact ⟨ret_bool HE.out.symm, HB2.out⟩
          · have t3 := bsl_ne he
            have HA2 : Hid (∀ (j : Nat) (hj : j < gs.length), j < k + 1 → gs[j].nm ≠ n) := Lib.hid (fun j hj h => by
              by_cases e : j = k
              · subst e; rw [HX.out]; exact he
              · exact HA.out j hj (by omega))
            clear he
            go_wp2
            go_roundw
            case rel => exact ⟨k + 1, by omega, by go_num, HA2, HB2⟩
            case measure => simp [intOf]; omega
        · have HE : Hid (has gs n = false) := Lib.hid (any_none HB.out fun j hj => HA.out j hj (by omega))
          go_wp2
          go_ret
          exact ⟨ret_bool HE.out.symm, HW.out⟩
end Go.Proofs.YtbibekojbjonoaaDoor.Po
