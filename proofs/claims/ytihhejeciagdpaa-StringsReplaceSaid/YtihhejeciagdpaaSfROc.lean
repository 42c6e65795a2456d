/-
  The contracts of occurrences, Count of the reference of chapter 9.
-/
import Derived.Test.YtihhejeciagdpaaSfRSl
namespace Go.Proofs.Ytihhejeciagdpaa.Sf
open Go.RowKit Go.Shelf
set_option linter.unusedVariables false

theorem ocs_no {s t : ByteArray} {acc : List Nat} {p e a : Nat} (h : occ s t = acc ++ oc s t ((al s).drop p) e) (hp : p ≤ rc s) (ha : ag s p = a) (hn : ¬ (e ≤ a ∧ hasP s t a = true)) : occ s t = acc ++ oc s t ((al s).drop (p + 1)) e := by
  rw [h, oc_step s t hp, ha, if_neg (fun hh => hn ⟨hh.1.2, hh.2⟩)]
theorem ocs_yes {s t : ByteArray} {acc : List Nat} {p e a : Nat} (h : occ s t = acc ++ oc s t ((al s).drop p) e) (hp : p ≤ rc s) (ha : ag s p = a) (ht : t.size ≠ 0) (he : e ≤ a) (hy : hasP s t a = true) : occ s t = (acc ++ [a]) ++ oc s t ((al s).drop (p + 1)) (a + t.size) := by
  rw [h, oc_step s t hp, ha, if_pos ⟨⟨ht, he⟩, hy⟩, List.append_assoc]; rfl
theorem acc_len {s t : ByteArray} {acc r : List Nat} (h : occ s t = acc ++ r) : acc.length ≤ s.size := by
  have := occ_len s t
  rw [h, List.length_append] at this; omega
theorem own_RI {w : World} {base : Nat} {t : TypeId} {v : Value} {l : List Nat} (h : w.ownsRow base t 1 v l.length (ints l)) : ∃ A c, v = .slice A l.length c ∧ RI w A c l := own_RV h
theorem emp_yes {s : ByteArray} (h : s.size = 0) : s.toList.isEmpty = true := by
  rw [Lib.toList_data]; cases hl : s.data.toList with
  | nil => rfl
  | cons a l => rw [← size_list, hl] at h; cases h
set_option maxRecDepth 100000 in
set_option maxHeartbeats 4000000 in
theorem occurrences_any (s t : ByteArray) (w : World) (hs : s.size ≤ 1048576) (ht : t.size ≤ 1048576) :
    Calls Try.prog 39 #[.string s, .string t] w fun e w' => ∃ A c, e = .returned (.slice A (occ s t).length c) ∧ RI w' A c (occ s t) ∧ Below w.heap.size w w' := by
  have hs4 : s.size ≤ 4294967281 := by omega
  have ht4 : t.size ≤ 4294967281 := by omega
  by_cases h0 : t.size = 0
  · have e1 := emp_yes h0
    have HO := Lib.hid (occ_emp (s := s) h0)
    clear h0
    go_enter Try.func39, Try.ntmps39
    go_wp2
    go_ret
    refine ⟨none, 0, by rw [HO.out]; rfl, ?_, Below.refl _ _⟩
    rw [HO.out]
    exact ⟨Nat.le_refl _, by omega, fun i hi => absurd hi (Nat.not_lt_zero _)⟩
  · have e1 := emp_no h0
    have HT0 := Lib.hid h0
    have hrc := rc_le s
    obtain ⟨i0, hi, hz0, hz1, hz2⟩ := info_parts infoInt
    have hbk : ∀ n : Nat, n ≤ 4294967300 → n * 8 ≤ 140737488355328 := fun n h => by omega
    have HBK := Lib.hid hbk; clear hbk h0
    go_enter Try.func39, Try.ntmps39
    go_wp2_with fail
    refine (starts_rg s _ hs4).mono ?_
    rintro e w1 ⟨g, c, rfl, hg, hb1⟩
    have HG := Lib.hid hg
    have hcl := hg.le
    rw [al_len] at hcl
    have hcm := hg.mx
    have hgl := hg.lt
    have HB1 := Lib.hid hb1
    clear hg hb1
    go_wp2_with fail
    go_loopw [5, 7, 8] (fun v en iv wr => ∃ (p e : Nat) (acc : List Nat), iv = .int .i64 p ∧ en = .int .i64 e ∧ p ≤ rc s + 1 ∧ e ≤ s.size ∧ Hid (occ s t = acc ++ oc s t ((al s).drop p) e) ∧ Hid (Below w1.heap.size w1 wr) ∧ Hid (wr.ownsRow w1.heap.size 3 1 v acc.length (ints acc))) (fun _ _ i _ => rc s + 1 - (intOf i).toNat)
    case atStart => exact ⟨0, 0, [], by go_num, rfl, Nat.zero_le _, Nat.zero_le _, Lib.hid (by rw [List.drop_zero, occ_al]; rfl), Lib.hid (Below.refl _ _), Lib.hid (World.ownsRow_nil _ _ _ _)⟩
    case round =>
      obtain ⟨p, e, acc, rfl, rfl, hp, he, HP, HB, HO⟩ := hrel
      obtain ⟨VA, VC, hv⟩ := own_form HO.out
      subst hv
      have hal := acc_len HP.out
      have hsz := HB.out.size
      by_cases hlt : p ≤ rc s
      · have hd : decide ((p : Int) < (rc s : Int) + 1) = true := decide_eq_true (by omega)
        have a1 : (p : Int) < (rc s : Int) + 1 := by omega
        have hcell := (HG.out.keep HB.out).ag hlt
        have hag := ag_le s p
        obtain ⟨a, ha⟩ : ∃ a, ag s p = a := ⟨_, rfl⟩
        rw [ha] at hcell hag
        have HN := Lib.hid (ocs_no HP.out hlt ha)
        have HY := Lib.hid (ocs_yes HP.out hlt ha HT0.out)
        clear ha
        by_cases hea : e ≤ a
        · have d2 : decide ((e : Int) ≤ (a : Int)) = true := decide_eq_true (by omega)
          have HA := Lib.hid (fun w => at_any s t a w hs4 ht4 hag)
          have hin := fun h : hasP s t a = true => ((hasP_iff hag).1 h).1
          have HIn := Lib.hid hin
          clear hin
          obtain ⟨b, hb⟩ : ∃ b, hasP s t a = b := ⟨_, rfl⟩
          rw [hb] at HA HN HY HIn
          clear hb
          cases b with
          | true =>
            have hat := HIn.out rfl
            have HP2 := Lib.hid (HY.out hea rfl)
            clear HN HY HIn
            go_wp2_with fail
            refine (HA.out _).mono ?_
            rintro e w3 ⟨rfl, hb3⟩
            have HB3 := Lib.hid (HB.out.trans (hb3.mono HB.out.size))
            have HO3 := Lib.hid (own_below HO.out hb3)
            have hsz3 := HB3.out.size
            have hcell3 : w3.cell? ⟨g, p, none⟩ = some (.int .i64 (a : Int)) := (World.cell?_of_block (a := ⟨g, p, none⟩) (hb3.block g (by omega))).trans hcell
            clear hb3 hcell
            go_wp2_with (at_builtin; refine wpList_append_own _ rfl _ _ 40 rfl w1.heap.size 3 i0 (.int .i64 0) 1 8 Try.underlying40 hi hz0 hz1 hz2 rfl (by decide) _ _ _ rfl (HO3.out.alloc _) ⟨w3.heap.size, 0, none⟩ 1 1 [.int .i64 (a : Int)] rfl rfl (one_new _ _ _) (by simp [Value.oneCell']) (by unfold maxLen; omega) (HBK.out _ (by omega)) (by simp; omega) ?_)
            intro v' w4 hown' hgrow _
            have hb4 : Below w1.heap.size w1 w4 := (HB3.out.alloc (by omega) _).grown hgrow (by simp; omega) (fun k e => by have := (HO3.out.lt k e).1; omega)
            have HB4 := Lib.hid hb4
            have HO4 : Hid (w4.ownsRow w1.heap.size 3 1 v' (acc ++ [a]).length (ints (acc ++ [a]))) := Lib.hid (by
              rw [ints_snoc, List.length_append]; exact hown')
            have hcell4 : w4.cell? ⟨g, p, none⟩ = some (.int .i64 (a : Int)) := by
              have h1 := (World.cell?_of_block (a := ⟨g, p, none⟩) (hb4.block g hgl))
              have h2 := (World.cell?_of_block (a := ⟨g, p, none⟩) (HB3.out.block g hgl))
              rw [h1, ← h2]; exact hcell3
            obtain ⟨VA2, VC2, hv2⟩ := own_form hown'
            subst hv2
            clear hown' hgrow hb4 hcell3
            go_wp2_with fail
            go_roundw
            case rel => exact ⟨p + 1, a + t.size, acc ++ [a], by go_num, by go_num, by omega, hat, HP2, HB4, HO4⟩
            case measure => simp [intOf]; omega
          | false =>
            have HP2 := Lib.hid (HN.out (fun h => by cases h.2))
            clear HN HY HIn
            go_wp2_with fail
            refine (HA.out _).mono ?_
            rintro e w3 ⟨rfl, hb3⟩
            have HB3 := Lib.hid (HB.out.trans (hb3.mono HB.out.size))
            have HO3 := Lib.hid (own_below HO.out hb3)
            clear hb3 hcell
            go_wp2_with fail
            go_roundw
            case rel => exact ⟨p + 1, e, acc, by go_num, rfl, by omega, he, HP2, HB3, HO3⟩
            case measure => simp [intOf]; omega
        · have d2 : decide ((e : Int) ≤ (a : Int)) = false := decide_eq_false (by omega)
          have HP2 := Lib.hid (HN.out (fun h => hea h.1))
          clear HN HY
          go_wp2_with fail
          go_roundw
          case rel => exact ⟨p + 1, e, acc, by go_num, rfl, by omega, he, HP2, HB, HO⟩
          case measure => simp [intOf]; omega
      · have hd : decide ((p : Int) < (rc s : Int) + 1) = false := decide_eq_false (by omega)
        obtain rfl : p = rc s + 1 := by omega
        have HE : Hid (occ s t = acc) := Lib.hid (by rw [HP.out, oc_past, List.append_nil])
        obtain ⟨A', C', hv', hri⟩ := own_RI HO.out
        have HRI := Lib.hid hri
        have HV := Lib.hid hv'
        clear hri hv'
        go_wp2_with fail
        go_ret
        exact ⟨A', C', by rw [HE.out]; exact congrArg _ HV.out, by rw [HE.out]; exact HRI.out, HB1.out.trans (HB.out.mono HB1.out.size)⟩
set_option maxRecDepth 100000 in
theorem RCount_any (s t : ByteArray) (w : World) (hs : s.size ≤ 1048576) (ht : t.size ≤ 1048576) :
    Calls Try.prog 21 #[.string s, .string t] w fun e w' => e = .returned (.int .i64 ((occ s t).length : Int)) ∧ Below w.heap.size w w' := by
  go_enter Try.func21, Try.ntmps21
  go_wp2_with fail
  refine (occurrences_any s t _ hs ht).mono ?_
  rintro e w1 ⟨A, c, rfl, hr, hb1⟩
  go_wp2
  go_ret
  exact ⟨rfl, hb1⟩
end Go.Proofs.Ytihhejeciagdpaa.Sf
