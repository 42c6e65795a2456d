/-
  The contracts of Divide, Part of the reference of chapter 9.
-/
import Derived.Test.YtihhejeciagdpaaSfROc
namespace Go.Proofs.Ytihhejeciagdpaa.Sf
open Go.RowKit Go.Shelf
set_option linter.unusedVariables false

theorem own_RS {w : World} {base : Nat} {t : TypeId} {v : Value} {l : List ByteArray} (h : w.ownsRow base t 1 v l.length (strs l)) : ∃ A c, v = .slice A l.length c ∧ RS w A c l := own_RV h
theorem occ_mono {s t : ByteArray} {i : Nat} (h : i < (occ s t).length) {f : Nat} (hf : f = pb t (occ s t) 0 i) : f ≤ (occ s t)[i] ∧ (occ s t)[i] + t.size ≤ s.size ∧ (occ s t)[i] + t.size = pb t (occ s t) 0 (i + 1) := by
  have := (occ_ok s t).at i h
  rw [getD_in h] at this
  refine ⟨by omega, this.2.1, ?_⟩
  unfold pb
  rw [if_neg (by omega), Nat.add_sub_cancel, getD_in h]
theorem pb_in {s t : ByteArray} {i : Nat} (h : i ≤ (occ s t).length) : pb t (occ s t) 0 i ≤ s.size := by
  have := (occ_ok s t).pb_le h; omega
set_option maxRecDepth 100000 in
set_option maxHeartbeats 4000000 in
theorem Divide_any (s t : ByteArray) (w : World) (hs : s.size ≤ 1048576) (ht : t.size ≤ 1048576) :
    Calls Try.prog 46 #[.string s, .string t] w fun e w' => ∃ A c, e = .returned (.slice A (parts s t).length c) ∧ RS w' A c (parts s t) ∧ Below w.heap.size w w' := by
  obtain ⟨i0, hi, hz0, hz1, hz2⟩ := info_parts infoString
  have hbk : ∀ n : Nat, n ≤ 4294967300 → n * 16 ≤ 140737488355328 := fun n h => by omega
  have HBK := Lib.hid hbk; clear hbk
  have hol := occ_len s t
  have HPb := Lib.hid (fun i h => pb_in (s := s) (t := t) (i := i) h)
  have HM := Lib.hid (fun i h f hf => occ_mono (s := s) (t := t) (i := i) h (f := f) hf)
  go_enter Try.func46, Try.ntmps46
  go_wp2_with fail
  refine (occurrences_any s t _ hs ht).mono ?_
  rintro e w1 ⟨A, c, rfl, hri, hb1⟩
  obtain ⟨n, hn⟩ : ∃ n, (occ s t).length = n := ⟨_, rfl⟩
  have HR := Lib.hid hri
  have HN := Lib.hid hn
  rw [hn] at hol
  have hcl := hri.le
  rw [hn] at hcl
  have hcm := hri.mx
  have HB1 := Lib.hid hb1
  rw [hn]
  clear hri hb1 hn
  go_wp2_with fail
  go_loopw [5, 7, 8] (fun v fv iv wr => ∃ (i : Nat) (acc : List ByteArray), iv = .int .i64 i ∧ i ≤ n ∧ fv = .int .i64 (pb t (occ s t) 0 i : Nat) ∧ Hid (acc.length = i) ∧ Hid (parts s t = acc ++ dv s t ((occ s t).drop i) (pb t (occ s t) 0 i)) ∧ Hid (Below w1.heap.size w1 wr) ∧ Hid (wr.ownsRow w1.heap.size 9 1 v acc.length (strs acc))) (fun _ _ i _ => n - (intOf i).toNat)
  case atStart => exact ⟨0, [], by go_num, Nat.zero_le _, rfl, Lib.hid rfl, Lib.hid rfl, Lib.hid (Below.refl _ _), Lib.hid (World.ownsRow_nil _ _ _ _)⟩
  case round =>
    obtain ⟨i, acc, rfl, hi2, rfl, hal, HP, HB, HO⟩ := hrel
    obtain ⟨VA, VC, hv⟩ := own_form HO.out
    subst hv
    have hsz := HB.out.size
    have hal2 : acc.length ≤ 1048576 := by rw [hal.out]; omega
    have hpb := HPb.out i (by rw [HN.out]; exact hi2)
    by_cases hlt : i < n
    · have hd : decide ((i : Int) < (n : Int)) = true := decide_eq_true (by omega)
      have hlt2 : i < (occ s t).length := by rw [HN.out]; exact hlt
      obtain ⟨g, hA, hg1, hg2⟩ := HR.out.at_ i hlt2
      obtain ⟨m1, m2, m3⟩ := HM.out i hlt2 _ rfl
      have HD := Lib.hid (dv_drop (s := s) (t := t) (l := occ s t) (i := i) (f := pb t (occ s t) 0 i) hlt2)
      have hcell : wr.cell? ⟨g, i, none⟩ = some (.int .i64 ((occ s t)[i] : Int)) := (World.cell?_of_block (a := ⟨g, i, none⟩) (HB.out.block g hg1)).trans hg2
      subst hA
      obtain ⟨a, ha⟩ : ∃ a, (occ s t)[i] = a := ⟨_, rfl⟩
      rw [ha] at HD m1 m2 m3 hcell
      obtain ⟨f, hf⟩ : ∃ f, pb t (occ s t) 0 i = f := ⟨_, rfl⟩
      rw [hf] at HP HD m1 hpb
      rw [hf]
      have HP2 : Hid (parts s t = (acc ++ [s.extract f a]) ++ dv s t ((occ s t).drop (i + 1)) (pb t (occ s t) 0 (i + 1))) := Lib.hid (by
        rw [HP.out, HD.out, m3, List.append_assoc]; rfl)
      have m4 : (f : Int) ≤ (a : Int) := by omega
      have m5 : (a : Int) ≤ (s.size : Int) := by omega
      have m6 : a ≤ s.size := by omega
      have hgl : g < wr.heap.size := by omega
      have HM3 := Lib.hid m3
      clear ha hf hg2 m3
      go_wp2_with (at_builtin; refine wpList_append_own _ rfl _ _ 60 rfl w1.heap.size 9 i0 (.string ⟨#[]⟩) 1 16 Try.underlying60 hi hz0 hz1 hz2 rfl (by decide) _ _ _ rfl (HO.out.alloc _) ⟨wr.heap.size, 0, none⟩ 1 1 [.string (s.extract f a)] rfl rfl (one_new _ _ _) (by simp [Value.oneCell']) (by unfold maxLen; omega) (HBK.out _ (by omega)) (by simp; omega) ?_)
      intro v' w4 hown' hgrow _
      have hb4 : Below w1.heap.size w1 w4 := (HB.out.alloc (by omega) _).grown hgrow (by simp; omega) (fun k e => by have := (HO.out.lt k e).1; omega)
      have HB4 := Lib.hid hb4
      have HO4 : Hid (w4.ownsRow w1.heap.size 9 1 v' (acc ++ [s.extract f a]).length (strs (acc ++ [s.extract f a]))) := Lib.hid (by
        rw [strs_snoc, List.length_append]; exact hown')
      have hcell4 : w4.cell? ⟨g, i, none⟩ = some (.int .i64 (a : Int)) := by
        have h1 := (World.cell?_of_block (a := ⟨g, i, none⟩) (hb4.block g hg1))
        have h2 := (World.cell?_of_block (a := ⟨g, i, none⟩) (HB.out.block g hg1))
        rw [h1, ← h2]; exact hcell
      obtain ⟨VA2, VC2, hv2⟩ := own_form hown'
      subst hv2
      clear hown' hgrow hb4 hcell
      go_wp2_with fail
      go_roundw
      case rel => exact ⟨i + 1, acc ++ [s.extract f a], by go_num, by omega, by rw [← HM3.out]; go_num, Lib.hid (by rw [List.length_append, hal.out]; rfl), HP2, HB4, HO4⟩
      case measure => simp [intOf]; omega
    · have hd : decide ((i : Int) < (n : Int)) = false := decide_eq_false (by omega)
      obtain rfl : i = n := by omega
      obtain ⟨f, hf⟩ : ∃ f, pb t (occ s t) 0 i = f := ⟨_, rfl⟩
      rw [hf] at HP hpb
      rw [hf]
      have HP2 : Hid (parts s t = acc ++ [s.extract f s.size]) := Lib.hid (by
        rw [HP.out, ← HN.out, dv_past])
      have m4 : (f : Int) ≤ (s.size : Int) := by omega
      clear hf
      go_wp2_with (at_builtin; refine wpList_append_own _ rfl _ _ 60 rfl w1.heap.size 9 i0 (.string ⟨#[]⟩) 1 16 Try.underlying60 hi hz0 hz1 hz2 rfl (by decide) _ _ _ rfl (HO.out.alloc _) ⟨wr.heap.size, 0, none⟩ 1 1 [.string (s.extract f s.size)] rfl rfl (one_new _ _ _) (by simp [Value.oneCell']) (by unfold maxLen; omega) (HBK.out _ (by omega)) (by simp; omega) ?_)
      intro v' w4 hown' hgrow _
      have hb4 : Below w1.heap.size w1 w4 := (HB.out.alloc (by omega) _).grown hgrow (by simp; omega) (fun k e => by have := (HO.out.lt k e).1; omega)
      have HB4 := Lib.hid hb4
      have hO4 : w4.ownsRow w1.heap.size 9 1 v' (parts s t).length (strs (parts s t)) := by
        rw [HP2.out, strs_snoc, List.length_append]; exact hown'
      obtain ⟨A', C', hv', hri⟩ := own_RS hO4
      have HRI := Lib.hid hri
      subst hv'
      clear hown' hgrow hb4 hO4 hri
      go_wp2_with fail
      go_ret
      exact ⟨A', C', rfl, HRI.out, HB1.out.trans (HB4.out.mono HB1.out.size)⟩
theorem part_load {s t : ByteArray} {i : Int} {L K : Nat} (hL : (parts s t).length = L) (hk : (if i < 0 then i + (L : Int) else i) = (K : Int)) (h : K < L) : ∀ (j : Nat) (hj : j < (parts s t).length), j = K → (parts s t)[j] = part s t i := by
  intro j hj hjk
  subst hjk
  have h2 : (occ s t).length + 1 = L := by rw [← parts_len]; exact hL
  unfold part
  simp only [h2, hk]
  rw [if_neg (by omega), Int.toNat_natCast, List.getD, List.getElem?_eq_getElem hj]; rfl
theorem part_none {s t : ByteArray} {i : Int} {L : Nat} (hL : (parts s t).length = L) (h : (if i < 0 then i + (L : Int) else i) < 0 ∨ (L : Int) ≤ (if i < 0 then i + (L : Int) else i)) : part s t i = ⟨#[]⟩ := by
  have h2 : (occ s t).length + 1 = L := by rw [← parts_len]; exact hL
  unfold part
  simp only [h2]
  generalize (if i < 0 then i + (L : Int) else i) = k at h
  split
  · rfl
  · rw [List.getD, List.getElem?_eq_none (by rw [hL]; omega)]; rfl
set_option maxRecDepth 100000 in
set_option maxHeartbeats 2000000 in
theorem RPart_any (s t : ByteArray) (i : Int) (w : World) (hs : s.size ≤ 1048576) (ht : t.size ≤ 1048576) (hi : I64 i) :
    Calls Try.prog 32 #[.string s, .string t, .int .i64 i] w fun e w' => e = .returned (.string (part s t i)) ∧ Below w.heap.size w w' := by
  obtain ⟨hi1, hi2⟩ := hi
  have hol := occ_len s t
  have hpl := parts_len s t
  obtain ⟨L, hL⟩ : ∃ L, (parts s t).length = L := ⟨_, rfl⟩
  have hLb : L ≤ 1048577 := by omega
  have hLp : 1 ≤ L := by omega
  clear hpl hol
  by_cases h : i < 0
  · have hd1 : decide (i < 0) = true := decide_eq_true h
    by_cases h2 : -(L : Int) ≤ i
    · have hd2 : decide (-(L : Int) ≤ i) = true := decide_eq_true h2
      obtain ⟨K, hK⟩ : ∃ K : Nat, i + (L : Int) = (K : Int) := ⟨(i + L).toNat, by omega⟩
      have hX := Lib.hid (fun j hj => part_load hL (K := K) (by rw [if_pos h]; exact hK) (by omega) j hj)
      obtain ⟨x, hx⟩ : ∃ x, part s t i = x := ⟨_, rfl⟩
      rw [hx] at hX
      have HO := Lib.hid hx
      have hd3 : decide ((K : Int) < 0) = false := decide_eq_false (by omega)
      have hd4 : decide ((L : Int) ≤ (K : Int)) = false := decide_eq_false (by omega)
      have hKL : (K : Int) < (L : Int) := by omega
      have hKL2 : ¬ L ≤ K := by omega
      clear hx
      go_enter Try.func32, Try.ntmps32
      go_wp2_with fail
      refine (Divide_any s t _ hs ht).mono ?_
      rintro e w1 ⟨A, c, rfl, hr, hb1⟩
      obtain ⟨g, hA, hg1, hcell⟩ := hr.at_ K (by rw [hL]; omega)
      have hcl := hr.le
      have hcm := hr.mx
      rw [hL] at hcl
      subst hA
      rw [hL]
      rw [hX.out K (by rw [hL]; omega) rfl] at hcell
      clear hr
      go_wp2
      go_ret
      exact ⟨by rw [HO.out]; rfl, hb1⟩
    · have hd2 : decide (-(L : Int) ≤ i) = false := decide_eq_false h2
      have HO := Lib.hid (part_none (s := s) (t := t) (i := i) hL (.inl (by rw [if_pos h]; omega)))
      go_enter Try.func32, Try.ntmps32
      go_wp2_with fail
      refine (Divide_any s t _ hs ht).mono ?_
      rintro e w1 ⟨A, c, rfl, hr, hb1⟩
      rw [hL]
      clear hr
      go_wp2
      go_ret
      exact ⟨by rw [HO.out]; rfl, hb1⟩
  · obtain ⟨K, rfl⟩ : ∃ K : Nat, i = (K : Int) := ⟨i.toNat, by omega⟩
    have hd1 : decide ((K : Int) < 0) = false := decide_eq_false h
    by_cases h2 : K < L
    · have hX := Lib.hid (fun j hj => part_load hL (i := (K : Int)) (K := K) (if_neg h) h2 j hj)
      obtain ⟨x, hx⟩ : ∃ x, part s t (K : Int) = x := ⟨_, rfl⟩
      rw [hx] at hX
      have HO := Lib.hid hx
      have hd4 : decide ((L : Int) ≤ (K : Int)) = false := decide_eq_false (by omega)
      have hKL : (K : Int) < (L : Int) := by omega
      have hKL2 : ¬ L ≤ K := by omega
      clear hx
      go_enter Try.func32, Try.ntmps32
      go_wp2_with fail
      refine (Divide_any s t _ hs ht).mono ?_
      rintro e w1 ⟨A, c, rfl, hr, hb1⟩
      obtain ⟨g, hA, hg1, hcell⟩ := hr.at_ K (by rw [hL]; omega)
      have hcl := hr.le
      have hcm := hr.mx
      rw [hL] at hcl
      subst hA
      rw [hL]
      rw [hX.out K (by rw [hL]; omega) rfl] at hcell
      clear hr
      go_wp2
      go_ret
      exact ⟨by rw [HO.out]; rfl, hb1⟩
    · have hd4 : decide ((L : Int) ≤ (K : Int)) = true := decide_eq_true (by omega)
      have HO := Lib.hid (part_none (s := s) (t := t) (i := (K : Int)) hL (.inr (by rw [if_neg h]; omega)))
      have hKL2 : L ≤ K := by omega
      go_enter Try.func32, Try.ntmps32
      go_wp2_with fail
      refine (Divide_any s t _ hs ht).mono ?_
      rintro e w1 ⟨A, c, rfl, hr, hb1⟩
      rw [hL]
      clear hr
      go_wp2
      go_ret
      exact ⟨by rw [HO.out]; rfl, hb1⟩
end Go.Proofs.Ytihhejeciagdpaa.Sf
