/-
  The contracts of Length, at, Slice, Find of the reference of chapter 9.
-/
import Derived.Test.YtihhejeciagdpaaSfRSt
import Derived.Test.YtihhejeciagdpaaSfPad
import Derived.BigRegion
namespace Go.Proofs.Ytihhejeciagdpaa.Sf
open Go.RowKit Go.Shelf
set_option linter.unusedVariables false

/-- A row of numbers at block g. -/
structure RG (w : World) (g c : Nat) (l : List Nat) : Prop where
  le : l.length ≤ c
  mx : c ≤ 9223372036854775807
  lt : g < w.heap.size
  at_ : ∀ (i a : Nat), l[i]? = some a → w.cell? ⟨g, i, none⟩ = some (.int .i64 (a : Int))
theorem RG.keep {w w' : World} {g c : Nat} {l : List Nat} (h : RG w g c l) (hb : Below w.heap.size w w') : RG w' g c l :=
  ⟨h.le, h.mx, Nat.lt_of_lt_of_le h.lt hb.size, fun i a hi => (World.cell?_of_block (a := ⟨g, i, none⟩) (hb.block g h.lt)).trans (h.at_ i a hi)⟩
theorem own_RG {w : World} {base : Nat} {t : TypeId} {v : Value} {l : List Nat} (h : w.ownsRow base t 1 v l.length (ints l)) (hn : l.length ≠ 0) : ∃ g c, v = .slice (some ⟨g, 0, none⟩) l.length c ∧ RG w g c l := by
  obtain ⟨h1, h2⟩ := h
  rcases h2 with ⟨rfl, h0⟩ | ⟨g, cap, cur, rfl, h3, h4, h5, h6, h7, h8⟩
  · exact absurd h0 hn
  · refine ⟨g, cap, rfl, h5, by simpa [maxLen] using h6, (Array.getElem?_eq_some_iff.1 h4).1, fun i a hi => ?_⟩
    have hlt := (List.getElem?_eq_some_iff.1 hi).1
    rw [cell_of_row w g i cur t (0, 0) h4]
    have : (cur.toList.take (l.length * 1))[i]? = (ints l)[i]? := by rw [h8]
    rw [List.getElem?_take, if_pos (by omega)] at this
    unfold ints at this
    rw [List.getElem?_map, hi, Option.map_some] at this
    simpa using this
theorem starts_rg (s : ByteArray) (w : World) (hs : s.size ≤ 4294967281) : Calls Try.prog 34 #[.string s] w fun e w' => ∃ g c, e = .returned (.slice (some ⟨g, 0, none⟩) (rc s + 1) c) ∧ RG w' g c (al s) ∧ Below w.heap.size w w' := by
  refine (starts_any s w hs).mono ?_
  rintro e w' ⟨v, rfl, h, hb⟩
  obtain ⟨g, c, rfl, hg⟩ := own_RG h (by rw [al_len]; omega)
  exact ⟨g, c, by rw [al_len], hg, hb⟩
theorem RLength_any (s : ByteArray) (w : World) (hs : s.size ≤ 4294967281) : Calls Try.prog 15 #[.string s] w fun e w' => e = .returned (.int .i64 (rc s)) ∧ Below w.heap.size w w' := by
  have hrc := rc_le s
  go_enter Try.func15, Try.ntmps15
  go_wp2_with fail
  refine (starts_rg s _ hs).mono ?_
  rintro e w1 ⟨g, c, rfl, hg, hb1⟩
  go_wp2
  go_ret
  exact ⟨by go_num, hb1⟩
/-- The test of 'at'. -/
theorem at_no {s t : ByteArray} {i : Nat} (hi : i ≤ s.size) (h : ¬ (t.size : Int) ≤ (s.size : Int) - (i : Int)) : hasP s t i = false := by
  rw [Bool.eq_false_iff]
  intro hp
  have := ((hasP_iff hi).1 hp).1
  omega
theorem at_in {s t : ByteArray} {i : Nat} (hi : i ≤ s.size) (h : (t.size : Int) ≤ (s.size : Int) - (i : Int)) : hasP s t i = ((s.extract i (i + t.size)).toList == t.toList) := by
  rw [Bool.eq_iff_iff, beq_iff_eq, hasP_iff hi]
  constructor
  · rintro ⟨_, h2⟩; rw [h2]
  · intro h2
    refine ⟨by omega, bs_inj ?_⟩
    rwa [Lib.toList_data, Lib.toList_data] at h2
set_option maxRecDepth 100000 in
theorem at_any (s t : ByteArray) (i : Nat) (w : World) (hs : s.size ≤ 4294967281) (ht : t.size ≤ 4294967281) (hi : i ≤ s.size) : Calls Try.prog 37 #[.string s, .int .i64 (i : Int), .string t] w fun e w' => e = .returned (.bool (hasP s t i)) ∧ Below w.heap.size w w' := by
  by_cases h : (t.size : Int) ≤ (s.size : Int) - (i : Int)
  · have h1 : decide ((t.size : Int) ≤ (s.size : Int) - (i : Int)) = true := decide_eq_true h
    have HI := Lib.hid (at_in hi h)
    have a1 : (i : Int) + (t.size : Int) ≤ (s.size : Int) := by omega
    have a2 : ((i : Int) + (t.size : Int)).toNat = i + t.size := by omega
    have a3 : (i : Int) ≤ (i : Int) + (t.size : Int) := by omega
    go_enter Try.func37, Try.ntmps37
    go_wp2
    go_ret
    exact ⟨by rw [HI.out]; rfl, Below.refl _ _⟩
  · have h1 : decide ((t.size : Int) ≤ (s.size : Int) - (i : Int)) = false := decide_eq_false h
    have HI := Lib.hid (at_no hi h)
    go_enter Try.func37, Try.ntmps37
    go_wp2
    go_ret
    exact ⟨by rw [HI.out]; rfl, Below.refl _ _⟩
/-- What the loads of a slice's cell want. -/
theorem RG.ag {w : World} {g c : Nat} {s : ByteArray} (h : RG w g c (al s)) {i : Nat} (hi : i ≤ rc s) : w.cell? ⟨g, i, none⟩ = some (.int .i64 (ag s i : Int)) := h.at_ i _ (al_at s hi)
set_option maxRecDepth 100000 in
theorem RFind_any (s t : ByteArray) (f : Int) (w : World) (hs : s.size ≤ 4294967281) (ht : t.size ≤ 4294967281) (hf : I64 f) :
    Calls Try.prog 19 #[.string s, .string t, .int .i64 f] w fun e w' => e = .returned (.int .i64 (fnd s t f)) ∧ Below w.heap.size w w' := by
  have hrc := rc_le s
  obtain ⟨hf1, hf2⟩ := hf
  obtain ⟨F, hF⟩ : ∃ F : Nat, max 0 f = (F : Int) := ⟨(max 0 f).toNat, by omega⟩
  have HN := Lib.hid (fun h => fnd_none (s := s) (t := t) (f := f) h)
  have HY := Lib.hid (fun p => fnd_some (s := s) (t := t) (f := f) (p := p))
  have hFf : ∀ j : Nat, f ≤ (j : Int) → F ≤ j := fun j h => by omega
  have hFf2 : ∀ j : Nat, F ≤ j → f ≤ (j : Int) := fun j h => by omega
  have HFf := Lib.hid hFf
  have HFf2 := Lib.hid hFf2
  clear hFf hFf2
  have hFb : F ≤ 9223372036854775807 := by omega
  go_enter Try.func19, Try.ntmps19
  go_wp2_with fail
  refine (starts_rg s _ hs).mono ?_
  rintro e w1 ⟨g, c, rfl, hg, hb1⟩
  have HG := Lib.hid hg
  have hcl := hg.le
  rw [al_len] at hcl
  have hcm := hg.mx
  clear hg
  go_wp2_with fail
  go_loopw [8] (fun i wr => ∃ p : Nat, i = .int .i64 p ∧ F ≤ p ∧ p ≤ 9223372036854775807 ∧ Hid (∀ j, F ≤ j → j < p → hasP s t (ag s j) = false) ∧ Hid (RG wr g c (al s)) ∧ Hid (Below w.heap.size w wr)) (fun i _ => rc s + 1 - (intOf i).toNat)
  case atStart => exact ⟨F, by go_num, Nat.le_refl _, hFb, Lib.hid (fun j h1 h2 => by omega), HG, Lib.hid hb1⟩
  case round =>
    obtain ⟨p, rfl, hp, hpb, HP, HR, HB⟩ := hrel
    by_cases hlt : p ≤ rc s
    · have hd : decide ((p : Int) < (rc s : Int) + 1) = true := decide_eq_true (by omega)
      have a1 : (p : Int) < (rc s : Int) + 1 := by omega
      have hcell := HR.out.ag hlt
      have hag := ag_le s p
      have HA := Lib.hid (fun w => at_any s t (ag s p) w hs ht hag)
      obtain ⟨a, ha⟩ : ∃ a, ag s p = a := ⟨_, rfl⟩
      obtain ⟨b, hb⟩ : ∃ b, hasP s t (ag s p) = b := ⟨_, rfl⟩
      have HBv := Lib.hid hb
      rw [hb] at HA
      rw [ha] at hcell HA
      clear hb ha hag
      cases b with
      | true =>
        have HF : Hid (fnd s t f = p) := Lib.hid (HY.out p hlt (HFf2.out p hp) HBv.out (fun j h1 h2 => HP.out j (HFf.out j h2) h1))
        go_wp2_with fail
        refine (HA.out _).mono ?_
        rintro e w3 ⟨rfl, hb3⟩
        go_wp2
        go_ret
        exact ⟨by rw [HF.out]; rfl, bnx HB.out hb3⟩
      | false =>
        have HP2 : Hid (∀ j, F ≤ j → j < p + 1 → hasP s t (ag s j) = false) := Lib.hid (fun j h1 h2 => by
          rcases Nat.lt_or_ge j p with h3 | h3
          · exact HP.out j h1 h3
          · obtain rfl : j = p := by omega
            exact HBv.out)
        go_wp2_with fail
        refine (HA.out _).mono ?_
        rintro e w3 ⟨rfl, hb3⟩
        have HR3 := Lib.hid (HR.out.keep hb3)
        have HB3 := Lib.hid (bnx HB.out hb3)
        clear hb3
        go_wp2_with fail
        go_roundw
        case rel => exact ⟨p + 1, by go_num, by omega, by omega, HP2, HR3, HB3⟩
        case measure => simp [intOf]; omega
    · have hd : decide ((p : Int) < (rc s : Int) + 1) = false := decide_eq_false (by omega)
      have HF : Hid (fnd s t f = -1) := Lib.hid (HN.out (fun j h1 h2 => HP.out j (HFf.out j h2) (by omega)))
      go_wp2_with fail
      go_ret
      exact ⟨by rw [HF.out]; rfl, HB.out⟩
/-- The last step of the reference's Slice: the two loads and the part between them. -/
theorem ag_pair (s : ByteArray) (F K : Nat) : (ag s F : Int) ≤ (ag s (F + K) : Int) ∧ (ag s (F + K) : Int) ≤ (s.size : Int) := by
  have := ag_mono s (Nat.le_add_right F K)
  have := ag_le s (F + K)
  omega
set_option maxRecDepth 100000 in
set_option maxHeartbeats 2000000 in
theorem RSlice_any (s : ByteArray) (f n : Int) (w : World) (hs : s.size ≤ 4294967281) (hf : I64 f) (hn : I64 n) :
    Calls Try.prog 17 #[.string s, .int .i64 f, .int .i64 n] w fun e w' => e = .returned (.string (slice s f n)) ∧ Below w.heap.size w w' := by
  obtain ⟨hf1, hf2⟩ := hf
  obtain ⟨hn1, hn2⟩ := hn
  have hrc := rc_le s
  obtain ⟨F, hF⟩ : ∃ F, slF s f = F := ⟨_, rfl⟩
  have ho := fun h => slice_out (n := n) hF h
  have hpo := fun h => slice_pos (n := n) hF h
  have hne := fun h => slice_neg (n := n) hF h
  have hsn := fun h : n < 0 => slN_neg (s := s) (F := F) h
  obtain ⟨R, hR⟩ : ∃ R, rc s = R := ⟨_, rfl⟩
  have h1 := fun h : f < 0 => slF_neg (s := s) h
  have h2 := fun h : ¬ f < 0 => slF_pos (s := s) h
  rw [hF, hR] at h1
  rw [hF] at h2
  rw [hR] at ho hpo hsn hrc
  clear hF
  by_cases h : f < 0
  · have hm := h1 h
    have hdf : decide (f < 0) = true := decide_eq_true h
    have hFR : F ≤ R := by omega
    have hd : decide ((R : Int) < (F : Int)) = false := decide_eq_false (by omega)
    clear h1 h2 ho
    by_cases h3 : n < 0
    · have hdn : decide (0 ≤ n) = false := decide_eq_false (by omega)
      have HO := Lib.hid (hne h3)
      obtain ⟨K, hK⟩ : ∃ K, slN s F n = K := ⟨_, rfl⟩
      have hsn := hsn h3
      rw [hK] at HO hsn
      clear hpo hne hK
      have hKR : F + K ≤ R := by omega
      obtain ⟨X, hX⟩ : ∃ X : Int, max n (-(R : Int)) = X := ⟨_, rfl⟩
      have hC : max 0 ((R : Int) - (F : Int) + X) = (K : Int) := by omega
      clear hsn
      have hT : (F : Int) + (K : Int) = ((F + K : Nat) : Int) := by omega
      obtain ⟨T, hTT⟩ : ∃ T, F + K = T := ⟨_, rfl⟩
      rw [hTT] at hT HO
      have hp := ag_pair s F K
      rw [hTT] at hp
      obtain ⟨A1, hA1⟩ : ∃ A, ag s F = A := ⟨_, rfl⟩
      obtain ⟨A2, hA2⟩ : ∃ A, ag s T = A := ⟨_, rfl⟩
      rw [hA1, hA2] at hp HO
      obtain ⟨hp1, hp2⟩ := hp
      have x1 : (F : Int) < (R : Int) + 1 := by omega
      have x2 : (T : Int) < (R : Int) + 1 := by omega
      go_enter Try.func17, Try.ntmps17
      go_wp2_with fail
      refine (starts_rg s _ hs).mono ?_
      rintro e w1 ⟨g, c, rfl, hg, hb1⟩
      have c1 := hg.ag (i := F) (by omega)
      have c2 := hg.ag (i := T) (by omega)
      have hcl := hg.le
      rw [al_len, hR] at hcl
      have hcm := hg.mx
      clear hg
      rw [hR]
      rw [hA1] at c1
      rw [hA2] at c2
      go_wp2
      go_region
      go_wp2
      go_ret
      exact ⟨by rw [HO.out]; rfl, hb1.drew⟩
    · have hdn : decide (0 ≤ n) = true := decide_eq_true (by omega)
      have HO := Lib.hid (hpo h3)
      obtain ⟨K, hK⟩ : ∃ K, min n.toNat (R - F) = K := ⟨_, rfl⟩
      rw [hK] at HO
      have hC : min n ((R : Int) - (F : Int)) = (K : Int) := by omega
      have hKR : F + K ≤ R := by omega
      clear hpo hne hsn hK
      have hT : (F : Int) + (K : Int) = ((F + K : Nat) : Int) := by omega
      obtain ⟨T, hTT⟩ : ∃ T, F + K = T := ⟨_, rfl⟩
      rw [hTT] at hT HO
      have hp := ag_pair s F K
      rw [hTT] at hp
      obtain ⟨A1, hA1⟩ : ∃ A, ag s F = A := ⟨_, rfl⟩
      obtain ⟨A2, hA2⟩ : ∃ A, ag s T = A := ⟨_, rfl⟩
      rw [hA1, hA2] at hp HO
      obtain ⟨hp1, hp2⟩ := hp
      have x1 : (F : Int) < (R : Int) + 1 := by omega
      have x2 : (T : Int) < (R : Int) + 1 := by omega
      go_enter Try.func17, Try.ntmps17
      go_wp2_with fail
      refine (starts_rg s _ hs).mono ?_
      rintro e w1 ⟨g, c, rfl, hg, hb1⟩
      have c1 := hg.ag (i := F) (by omega)
      have c2 := hg.ag (i := T) (by omega)
      have hcl := hg.le
      rw [al_len, hR] at hcl
      have hcm := hg.mx
      clear hg
      rw [hR]
      rw [hA1] at c1
      rw [hA2] at c2
      go_wp2
      go_region
      go_wp2
      go_ret
      exact ⟨by rw [HO.out]; rfl, hb1.drew⟩
  · obtain rfl : f = (F : Int) := h2 h
    have hdf : decide ((F : Int) < 0) = false := decide_eq_false (by omega)
    clear h1 h2
    by_cases h4 : R < F
    · have hd : decide ((R : Int) < (F : Int)) = true := decide_eq_true (by omega)
      have HO := Lib.hid (ho h4)
      clear ho hpo hne hsn
      go_enter Try.func17, Try.ntmps17
      go_wp2_with fail
      refine (starts_rg s _ hs).mono ?_
      rintro e w1 ⟨g, c, rfl, hg, hb1⟩
      rw [hR]
      go_wp2
      go_ret
      exact ⟨by rw [HO.out]; rfl, hb1⟩
    · have hd : decide ((R : Int) < (F : Int)) = false := decide_eq_false (by omega)
      clear ho
      by_cases h3 : n < 0
      · have hdn : decide (0 ≤ n) = false := decide_eq_false (by omega)
        have HO := Lib.hid (hne h3)
        obtain ⟨K, hK⟩ : ∃ K, slN s F n = K := ⟨_, rfl⟩
        have hsn := hsn h3
        rw [hK] at HO hsn
        clear hpo hne hK
        have hKR : F + K ≤ R := by omega
        obtain ⟨X, hX⟩ : ∃ X : Int, max n (-(R : Int)) = X := ⟨_, rfl⟩
        have hC : max 0 ((R : Int) - (F : Int) + X) = (K : Int) := by omega
        clear hsn
        have hT : (F : Int) + (K : Int) = ((F + K : Nat) : Int) := by omega
        obtain ⟨T, hTT⟩ : ∃ T, F + K = T := ⟨_, rfl⟩
        rw [hTT] at hT HO
        have hp := ag_pair s F K
        rw [hTT] at hp
        obtain ⟨A1, hA1⟩ : ∃ A, ag s F = A := ⟨_, rfl⟩
        obtain ⟨A2, hA2⟩ : ∃ A, ag s T = A := ⟨_, rfl⟩
        rw [hA1, hA2] at hp HO
        obtain ⟨hp1, hp2⟩ := hp
        have x1 : (F : Int) < (R : Int) + 1 := by omega
        have x2 : (T : Int) < (R : Int) + 1 := by omega
        go_enter Try.func17, Try.ntmps17
        go_wp2_with fail
        refine (starts_rg s _ hs).mono ?_
        rintro e w1 ⟨g, c, rfl, hg, hb1⟩
        have c1 := hg.ag (i := F) (by omega)
        have c2 := hg.ag (i := T) (by omega)
        have hcl := hg.le
        rw [al_len, hR] at hcl
        have hcm := hg.mx
        clear hg
        rw [hR]
        rw [hA1] at c1
        rw [hA2] at c2
        go_wp2
        go_region
        go_wp2
        go_ret
        exact ⟨by rw [HO.out]; rfl, hb1.drew⟩
      · have hdn : decide (0 ≤ n) = true := decide_eq_true (by omega)
        have HO := Lib.hid (hpo h3)
        obtain ⟨K, hK⟩ : ∃ K, min n.toNat (R - F) = K := ⟨_, rfl⟩
        rw [hK] at HO
        have hC : min n ((R : Int) - (F : Int)) = (K : Int) := by omega
        have hKR : F + K ≤ R := by omega
        clear hpo hne hsn hK
        have hT : (F : Int) + (K : Int) = ((F + K : Nat) : Int) := by omega
        obtain ⟨T, hTT⟩ : ∃ T, F + K = T := ⟨_, rfl⟩
        rw [hTT] at hT HO
        have hp := ag_pair s F K
        rw [hTT] at hp
        obtain ⟨A1, hA1⟩ : ∃ A, ag s F = A := ⟨_, rfl⟩
        obtain ⟨A2, hA2⟩ : ∃ A, ag s T = A := ⟨_, rfl⟩
        rw [hA1, hA2] at hp HO
        obtain ⟨hp1, hp2⟩ := hp
        have x1 : (F : Int) < (R : Int) + 1 := by omega
        have x2 : (T : Int) < (R : Int) + 1 := by omega
        go_enter Try.func17, Try.ntmps17
        go_wp2_with fail
        refine (starts_rg s _ hs).mono ?_
        rintro e w1 ⟨g, c, rfl, hg, hb1⟩
        have c1 := hg.ag (i := F) (by omega)
        have c2 := hg.ag (i := T) (by omega)
        have hcl := hg.le
        rw [al_len, hR] at hcl
        have hcm := hg.mx
        clear hg
        rw [hR]
        rw [hA1] at c1
        rw [hA2] at c2
        go_wp2
        go_region
        go_wp2
        go_ret
        exact ⟨by rw [HO.out]; rfl, hb1.drew⟩
end Go.Proofs.Ytihhejeciagdpaa.Sf
