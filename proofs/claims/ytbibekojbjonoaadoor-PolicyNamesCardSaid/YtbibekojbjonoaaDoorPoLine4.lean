/-
  The contract of readLine of package policy, for any line.
-/
import Derived.Test.YtbibekojbjonoaaDoorPoLine2
import Derived.Test.YtbibekojbjonoaaDoorPoLine3
namespace Go.Proofs.YtbibekojbjonoaaDoor.Po
open Go.RowKit Go.Shelf
set_option linter.unusedVariables false
set_option linter.unusedSimpArgs false

theorem hash_no {m : By} (h : m.head? ≠ some 35) : Lib.hasPrefix m [35] = false := by
  unfold Lib.hasPrefix
  cases m with
  | nil => rfl
  | cons c r =>
    have : c ≠ 35 := fun e => h (by rw [e]; rfl)
    simp [List.isPrefixOf, Ne.symm this]
theorem hash_yes {m : By} (h : m.head? = some 35) : Lib.hasPrefix m [35] = true := by
  cases m with
  | nil => cases h
  | cons c r =>
    have : c = 35 := by simpa using h
    subst this
    simp [Lib.hasPrefix, List.isPrefixOf]
set_option maxRecDepth 100000 in
set_option maxHeartbeats 4000000 in
theorem readLine_skip {lo gp : Nat} {P : Pol} {gv rv dv : Value} {L : List Gv} (l : By) (w : World) (h : PS lo gp w P gv rv dv L) (ha : (cw l).1 = [] ∨ (cw l).1.head? = some 35) (hs : l.length ≤ 100000) :
    Calls Tryd.prog 12 #[.pointer (some ⟨gp, 0, none⟩), .string (bsl l)] w fun e w' => e = .returned (.bool true) ∧ PS lo gp w' P gv rv dv L ∧ Fr lo gp w w' := by
  have HC := Lib.hid (cutWord_any l w (by omega))
  have HH := Lib.hid h
  have hls := h.ls
  clear h
  by_cases h0 : (cw l).1 = []
  · rw [h0, show bsl ([] : By) = ⟨#[]⟩ from rfl] at HC
    clear ha h0
    go_enter Tryd.func12, Tryd.ntmps12
    go_wp2_with fail
    with_reducible refine (HC.out).mono ?_
    rintro e w1 ⟨rfl, hb1⟩
    have H1 := Lib.hid (HH.out.step hb1)
    have F1 : Hid (Fr lo gp w w1) := Lib.hid (Fr.of hb1 hls)
    clear hb1
    go_wp2
    go_ret
    exact ⟨rfl, H1.out, F1.out⟩
  · have h1 : (cw l).1.head? = some 35 := ha.resolve_left h0
    have HP := Lib.hid (fun W => HasHash (cw l).1 W)
    rw [hash_yes h1] at HP
    obtain ⟨e1, e2⟩ := empty_no (s := bsl (cw l).1) (by rw [bsl_size]; exact List.length_pos_iff.2 h0)
    clear ha h0 h1
    generalize (cw l).1 = a at HC HP e1 e2
    go_enter Tryd.func12, Tryd.ntmps12
    go_wp2_with fail
    with_reducible refine (HC.out).mono ?_
    rintro e w1 ⟨rfl, hb1⟩
    have H1 := Lib.hid (HH.out.step hb1)
    have F1 : Hid (Fr lo gp w w1) := Lib.hid (Fr.of hb1 hls)
    clear hb1
    go_wp2_with fail
    with_reducible refine (HP.out _).mono ?_
    rintro e w2 ⟨rfl, hw2⟩
    have hw3 := hw2.symm
    subst hw3
    clear hw2
    go_wp2
    go_ret
    exact ⟨rfl, H1.out, F1.out⟩
set_option maxRecDepth 100000 in
set_option maxHeartbeats 4000000 in
theorem readLine_other {lo gp : Nat} {P : Pol} {gv rv dv : Value} {L : List Gv} (l : By) (w : World) (h : PS lo gp w P gv rv dv L) (h0 : (cw l).1 ≠ []) (h1 : (cw l).1.head? ≠ some 35)
    (n1 : (cw l).1 ≠ wGroup) (n2 : (cw l).1 ≠ wAllow) (n3 : (cw l).1 ≠ wDeny) (n4 : (cw l).1 ≠ wGuard) (n5 : (cw l).1 ≠ wStrict) (hs : l.length ≤ 100000) :
    Calls Tryd.prog 12 #[.pointer (some ⟨gp, 0, none⟩), .string (bsl l)] w fun e w' => e = .returned (.bool false) ∧ PS lo gp w' P gv rv dv L ∧ Fr lo gp w w' := by
  have HC := Lib.hid (cutWord_any l w (by omega))
  have HH := Lib.hid h
  have hls := h.ls
  clear h
  have HP := Lib.hid (fun W => HasHash (cw l).1 W)
  rw [hash_no h1] at HP
  obtain ⟨e1, e2⟩ := empty_no (s := bsl (cw l).1) (by rw [bsl_size]; exact List.length_pos_iff.2 h0)
  have t1 : ((bsl (cw l).1).toList == [103, 114, 111, 117, 112]) = false := lit_ne (b := wGroup) n1
  have t2 : ((bsl (cw l).1).toList == [97, 108, 108, 111, 119]) = false := lit_ne (b := wAllow) n2
  have t3 : ((bsl (cw l).1).toList == [100, 101, 110, 121]) = false := lit_ne (b := wDeny) n3
  have t4 : ((bsl (cw l).1).toList == [103, 117, 97, 114, 100]) = false := lit_ne (b := wGuard) n4
  have t5 : ((bsl (cw l).1).toList == [115, 116, 114, 105, 99, 116]) = false := lit_ne (b := wStrict) n5
  clear h0 h1 n1 n2 n3 n4 n5
  generalize (cw l).1 = a at HC HP e1 e2 t1 t2 t3 t4 t5
  go_enter Tryd.func12, Tryd.ntmps12
  go_wp2_with fail
  with_reducible refine (HC.out).mono ?_
  rintro e w1 ⟨rfl, hb1⟩
  have H1 := Lib.hid (HH.out.step hb1)
  have F1 : Hid (Fr lo gp w w1) := Lib.hid (Fr.of hb1 hls)
  clear hb1
  go_wp2_with fail
  with_reducible refine (HP.out _).mono ?_
  rintro e w2 ⟨rfl, hw2⟩
  have hw3 := hw2.symm
  subst hw3
  clear hw2
  go_wp2
  go_ret
  exact ⟨rfl, H1.out, F1.out⟩
/-! ### Any line -/
def LineP (lo gp : Nat) (P : Pol) (l : By) (w : World) (e : Ending) (w' : World) : Prop :=
  Fr lo gp w w' ∧ ((stmt l = .bad ∧ e = .returned (.bool false)) ∨ (stmt l ≠ .bad ∧ e = .returned (.bool true) ∧ ∃ gv rv dv L, PS lo gp w' (P.add (stmt l)) gv rv dv L))
theorem st_of_skip {l : By} (h : (cw l).1 = [] ∨ (cw l).1.head? = some 35) : stmt l = .skip := by unfold stmt; rw [if_pos h]
theorem st_of_group {l : By} (h : (cw l).1 = wGroup) : stmt l = stGroup (cw l).2 := by
  unfold stmt
  rw [if_neg (by rw [h]; decide), if_pos h]
theorem st_of_rule {l : By} (h : (cw l).1 = wAllow ∨ (cw l).1 = wDeny) : stmt l = stRule (decide ((cw l).1 = wAllow)) (cw l).2 := by
  unfold stmt
  rcases h with h | h
  · rw [if_neg (by rw [h]; decide), if_neg (by rw [h]; decide), if_pos (.inl h)]
  · rw [if_neg (by rw [h]; decide), if_neg (by rw [h]; decide), if_pos (.inr h)]
theorem st_of_guard {l : By} (h : (cw l).1 = wGuard ∨ (cw l).1 = wStrict) : stmt l = stGuard (decide ((cw l).1 = wStrict)) (cw l).2 := by
  unfold stmt
  rcases h with h | h
  · rw [if_neg (by rw [h]; decide), if_neg (by rw [h]; decide), if_neg (by rw [h]; decide), if_pos (.inl h)]
  · rw [if_neg (by rw [h]; decide), if_neg (by rw [h]; decide), if_neg (by rw [h]; decide), if_pos (.inr h)]
theorem rule_ok (al : Bool) (r : By) : stRule al r = if ruleOK r = true then .rul (mkRul al r) else .bad := by
  unfold stRule ruleOK knownR
  by_cases h1 : right (cw r).1 = 0
  · rw [if_neg (fun h => h.1 h1), if_neg (by simp [h1])]
  · by_cases h2 : (scope (cw (cw r).2).2).ok = true
    · rw [if_pos ⟨h1, h2⟩, if_pos (by simp [h1, h2])]
    · rw [if_neg (fun h => h2 h.2), if_neg (by simp [h2])]
theorem guard_ok (st : Bool) (r : By) : stGuard st r = if gudOK r = true then .gud (mkGud st r) else .bad := by
  unfold stGuard gudOK
  by_cases h1 : (Ti.parse (tr (Lib.cut (cw r).2 [124]).1)).2 = 0
  · cases h2 : forgot (cw r).2
    · rw [if_pos ⟨h1, rfl⟩, if_pos (by simp [h1])]
    · rw [if_neg (fun h => by cases h.2), if_neg (by simp)]
  · rw [if_neg (fun h => h1 h.1), if_neg (by simp [h1])]
theorem group_ok2 (r : By) : stGroup r = if grpOK r = true then .grp ⟨(cw r).1, words (cw r).2⟩ else .bad := by
  unfold stGroup grpOK
  by_cases h : (cw r).1 = []
  · rw [if_pos h, if_neg (by simp [h])]
  · rw [if_neg h, if_pos (by simp [h])]
theorem readLine_any {lo gp : Nat} {P : Pol} {gv rv dv : Value} {L : List Gv} (l : By) (w : World) (h : PS lo gp w P gv rv dv L) (ht : Tb w) (hs : l.length ≤ 100000) (hz1 : P.gs.length ≤ 100000) (hz2 : P.rs.length ≤ 100000) (hz3 : P.ds.length ≤ 100000) :
    Calls Tryd.prog 12 #[.pointer (some ⟨gp, 0, none⟩), .string (bsl l)] w (LineP lo gp P l w) := by
  by_cases k0 : (cw l).1 = [] ∨ (cw l).1.head? = some 35
  · refine (readLine_skip l w h k0 hs).mono fun e w' ⟨h1, h2, h3⟩ => ⟨h3, .inr ⟨by rw [st_of_skip k0]; exact fun e => (by cases e), h1, _, _, _, _, by rw [st_of_skip k0]; exact h2⟩⟩
  by_cases k1 : (cw l).1 = wGroup
  · refine (readLine_group l w h k1 hs hz1).mono fun e w' ⟨h1, ⟨gv', L', h2⟩, h3⟩ => ⟨h3, ?_⟩
    rw [st_of_group k1, group_ok2]
    cases hok : grpOK (cw l).2
    · exact .inl ⟨rfl, by rw [h1, hok]⟩
    · exact .inr ⟨by simp, by rw [h1, hok], _, _, _, _, h2⟩
  by_cases k2 : (cw l).1 = wAllow
  · refine (readLine_allow l w h ht k2 hs hz2).mono fun e w' ⟨h1, ⟨rv', h2⟩, h3⟩ => ⟨h3, ?_⟩
    rw [st_of_rule (.inl k2), decide_eq_true k2, rule_ok]
    cases hok : ruleOK (cw l).2
    · exact .inl ⟨rfl, by rw [h1, hok]⟩
    · exact .inr ⟨by simp, by rw [h1, hok], _, _, _, _, h2⟩
  by_cases k3 : (cw l).1 = wDeny
  · refine (readLine_deny l w h ht k3 hs hz2).mono fun e w' ⟨h1, ⟨rv', h2⟩, h3⟩ => ⟨h3, ?_⟩
    rw [st_of_rule (.inr k3), decide_eq_false k2, rule_ok]
    cases hok : ruleOK (cw l).2
    · exact .inl ⟨rfl, by rw [h1, hok]⟩
    · exact .inr ⟨by simp, by rw [h1, hok], _, _, _, _, h2⟩
  by_cases k4 : (cw l).1 = wGuard
  · refine (readLine_guard l w h ht k4 hs hz3).mono fun e w' ⟨h1, ⟨rv', h2⟩, h3⟩ => ⟨h3, ?_⟩
    rw [st_of_guard (.inl k4), decide_eq_false (by rw [k4]; decide), guard_ok]
    cases hok : gudOK (cw l).2
    · exact .inl ⟨rfl, by rw [h1, hok]⟩
    · exact .inr ⟨by simp, by rw [h1, hok], _, _, _, _, h2⟩
  by_cases k5 : (cw l).1 = wStrict
  · refine (readLine_strict l w h ht k5 hs hz3).mono fun e w' ⟨h1, ⟨rv', h2⟩, h3⟩ => ⟨h3, ?_⟩
    rw [st_of_guard (.inr k5), decide_eq_true k5, guard_ok]
    cases hok : gudOK (cw l).2
    · exact .inl ⟨rfl, by rw [h1, hok]⟩
    · exact .inr ⟨by simp, by rw [h1, hok], _, _, _, _, h2⟩
  refine (readLine_other l w h (fun e => k0 (.inl e)) (fun e => k0 (.inr e)) k1 k2 k3 k4 k5 hs).mono fun e w' ⟨h1, h2, h3⟩ => ⟨h3, .inl ⟨?_, h1⟩⟩
  unfold stmt
  rw [if_neg k0, if_neg k1, if_neg (fun h => h.elim k2 k3), if_neg (fun h => h.elim k4 k5)]
end Go.Proofs.YtbibekojbjonoaaDoor.Po
