/-
  The contract of the reference's Resolve, and the law TitleResolve.
-/
import Derived.Test.YtjnnbmdacicfcaaDoorTiResolve
import Derived.Test.YtjnnbmdacicfcaaDoorTiLawFO
namespace Go.Proofs.YtjnnbmdacicfcaaDoor.Ti
open Go.RowKit

theorem pre_drop (l : List UInt8) (k : Nat) : Lib.hasPrefix (l.drop k) [47] = decide (l[k]? = some 47) := by
  cases h : l.drop k with
  | nil =>
    have : l[k]? = none := by rw [List.getElem?_eq_none_iff]; simpa using h
    rw [this]; decide
  | cons c t =>
    have : l[k]? = some c := by rw [← List.head?_drop, h]; rfl
    rw [this]
    by_cases hc : c = 47
    · subst hc; simp [Lib.hasPrefix]
    · simp [Lib.hasPrefix, List.isPrefixOf, hc, Ne.symm hc]
theorem target_hit {sp : Int} {b l : List UInt8} (h : l[lead l]? = some 47) : target sp b l = format sp b ++ l.drop (lead l) := by
  rw [target, trim_lead, pre_drop, h]; rfl
theorem target_not {sp : Int} {b l : List UInt8} (h : l[lead l]? ≠ some 47) : target sp b l = l := by
  rw [target, trim_lead, pre_drop, if_neg (by simpa using h)]
theorem RefFormat_is (sp : Int) (b fm : ByteArray) (h : fm = ⟨(format sp b.data.toList).toArray⟩) (w : World) (hs : b.size ≤ maxLen) :
    Calls Tryd.prog 18 #[.agg #[.int .i64 sp, .string b]] w fun e w' => e = .returned (.string fm) ∧ Below w.heap.size w w' :=
  h ▸ RefFormat_any sp b w hs
theorem RefParse_is {s : ByteArray} {k er : Nat} {nm : List UInt8} (h : parse s.data.toList = ((k, nm), er)) (w : World) (hs : s.size < 4294967281) :
    Calls Tryd.prog 14 #[.string s] w fun e w' => e = .returned (.tuple #[.agg #[.int .i64 (k : Int), .string ⟨nm.toArray⟩], .int .i64 (er : Int)]) ∧ Below w.heap.size w w' := by
  have := RefParse_any s w hs
  rw [h] at this
  exact this
theorem Skip_is {s : ByteArray} {L : Nat} (h : L = lead s.data.toList) (w : World) (hs : s.size ≤ maxLen) :
    Calls Tryd.prog 49 #[.string s, .bool false] w fun e w' => e = .returned (.int .i64 (L : Int)) ∧ Below w.heap.size w w' := by
  subst h
  exact (Skip_any s w hs).mono fun _ _ ⟨he, n, hn⟩ => ⟨he, hn ▸ below_drewN (Below.refl _ _) n⟩
theorem RefFormat_res {w W : World} {sp : Int} {b fm : ByteArray} (h : Res w sp b W) (hf : fm = ⟨(format sp b.data.toList).toArray⟩) (hs : b.size ≤ maxLen) :
    Calls Tryd.prog 18 #[.agg #[.int .i64 sp, .string b]] W fun e w' => e = .returned (.string fm) ∧ Res w sp b w' :=
  (RefFormat_is sp b fm hf W hs).mono fun _ _ ⟨he, hb⟩ => ⟨he, h.below hb⟩
theorem RefParse_res {w W : World} {sp : Int} {b s : ByteArray} {k er : Nat} {nm : List UInt8} (h : Res w sp b W) (hp : parse s.data.toList = ((k, nm), er)) (hs : s.size < 4294967281) :
    Calls Tryd.prog 14 #[.string s] W fun e w' => e = .returned (.tuple #[.agg #[.int .i64 (k : Int), .string ⟨nm.toArray⟩], .int .i64 (er : Int)]) ∧ Res w sp b w' :=
  (RefParse_is hp W hs).mono fun _ _ ⟨he, hb⟩ => ⟨he, h.below hb⟩

set_option maxHeartbeats 1000000 in
theorem RefResolve_any (sp : Int) (b s : ByteArray) (w : World) (hb : b.size ≤ maxLen) (hs : s.size ≤ 300) {k er : Nat} {nm : List UInt8} (hp : parse (target sp b.data.toList s.data.toList) = ((k, nm), er)) :
    Calls Tryd.prog 25 #[.agg #[.int .i64 sp, .string b], .string s] w fun e w' => e = .returned (.tuple #[.agg #[.int .i64 (k : Int), .string ⟨nm.toArray⟩], .int .i64 (er : Int)]) ∧ Below w.heap.size w w' := by
  obtain ⟨fm, hfm⟩ : ∃ fm : ByteArray, fm = ⟨(format sp b.data.toList).toArray⟩ := ⟨_, rfl⟩
  have hfl : fm.data.toList = format sp b.data.toList := by rw [hfm]
  have h1 : fm.size ≤ 109 := by rw [hfm]; exact format_len _ _
  have HF := Lib.hid hfm; clear hfm
  have R0 := res_new w sp b 24 24
  have hm : s.size ≤ maxLen := by unfold maxLen; omega
  have hle : lead s.data.toList ≤ s.size := lead_le s.data.toList
  have hit := Lib.hid (target_hit (sp := sp) (b := b.data.toList) (l := s.data.toList))
  have hnot := Lib.hid (target_not (sp := sp) (b := b.data.toList) (l := s.data.toList))
  obtain ⟨L, HL⟩ : ∃ L, L = lead s.data.toList := ⟨_, rfl⟩
  rw [← HL] at hle hit hnot
  replace HL := Lib.hid HL
  by_cases hlt : L < s.size
  · have hg : s.data.toList[L]? = some s[L] := by simp [hlt]; rfl
    by_cases hc : s[L] = 47
    · have hd : (((s[L]).toNat : Int) == 47) = true := by rw [hc]; rfl
      have ht := hit.out (by rw [hg, hc])
      have hp2 : parse (fm ++ s.extract L s.size).data.toList = ((k, nm), er) := by
        rw [← hp, ht, ← hfl]; simp [List.take_of_length_le]
      have HP := Lib.hid hp2; clear hp hp2 hg hc ht hit hnot hfl
      have h3 : fm.size + (s.size - L) ≤ 9223372036854775807 := by omega
      have h4 : ¬ 9223372036854775807 < fm.size + (s.size - L) := by omega
      go_enter Tryd.func25, Tryd.ntmps25
      go_wp2_with fail
      refine (Skip_is HL.out _ hm).mono ?_
      rintro e w1 ⟨rfl, hb1⟩
      have R1 := R0.below hb1
      have d0 := R1.a0
      have d1 := R1.a1
      have H3 := R1.drew
      go_wp2_with fail
      have d0' := H3.a0
      have d1' := H3.a1
      go_region_with (first
          | (go_at_call 18; refine (RefFormat_res (w := w) (sp := sp) (b := b) H3 HF.out hb).mono ?_; rintro e w2 ⟨rfl, R2⟩)
          | (go_at_call 14; refine (RefParse_res (w := w) (sp := sp) (b := b) (by assumption) HP.out (by simp; omega)).mono ?_; rintro e w3 ⟨rfl, R3⟩; obtain ⟨_, _, r0, r1, f0, f1, bl⟩ := id R3))
      obtain ⟨q0, q1, hB⟩ := R3.set (.int .i64 (k : Int)) (.string ⟨nm.toArray⟩)
      have HQ0 := Lib.hid q0; have HQ1 := Lib.hid q1; have HB := Lib.hid hB; clear q0 q1 hB R0 R1 hb1 H3 d0 d1 d0' d1'
      go_wp2
      refine bodyPost_ret (v := .tuple #[.agg #[.int .i64 (k : Int), .string ⟨nm.toArray⟩], .int .i64 (er : Int)]) ?_ rfl ⟨rfl, HB.out⟩
      simp [results, Tryd.results25, go_sem, HQ0.out, HQ1.out]
    · have hd : (((s[L]).toNat : Int) == 47) = false := by rw [beq_eq_false_iff_ne]; intro e; exact hc (UInt8.toNat_inj.1 (show _ = _ from Int.ofNat_inj.1 e))
      have ht := hnot.out (by rw [hg]; simpa using hc)
      rw [ht] at hp
      have HP := Lib.hid hp; clear hp hg hc ht hit hnot hfl
      go_enter Tryd.func25, Tryd.ntmps25
      go_wp2_with fail
      refine (Skip_is HL.out _ hm).mono ?_
      rintro e w1 ⟨rfl, hb1⟩
      have R1 := R0.below hb1
      go_wp2_with fail
      refine (RefParse_is HP.out _ (by omega)).mono ?_
      rintro e w3 ⟨rfl, hb3⟩
      obtain ⟨a0, a1, r0, r1, f0, f1, bl⟩ := R1.below hb3
      obtain ⟨q0, q1, hB⟩ := (R1.below hb3).set (.int .i64 (k : Int)) (.string ⟨nm.toArray⟩)
      have HQ0 := Lib.hid q0; have HQ1 := Lib.hid q1; have HB := Lib.hid hB; clear q0 q1 hB R0 R1 hb1 hb3 a0 a1
      go_wp2
      refine bodyPost_ret (v := .tuple #[.agg #[.int .i64 (k : Int), .string ⟨nm.toArray⟩], .int .i64 (er : Int)]) ?_ rfl ⟨rfl, HB.out⟩
      simp [results, Tryd.results25, go_sem, HQ0.out, HQ1.out]
  · have ht := hnot.out (by rw [List.getElem?_eq_none (by simpa using hlt)]; simp)
    rw [ht] at hp
    have HP := Lib.hid hp; clear hp ht hit hnot hfl
    go_enter Tryd.func25, Tryd.ntmps25
    go_wp2_with fail
    refine (Skip_is HL.out _ hm).mono ?_
    rintro e w1 ⟨rfl, hb1⟩
    have R1 := R0.below hb1
    go_wp2_with fail
    refine (RefParse_is HP.out _ (by omega)).mono ?_
    rintro e w3 ⟨rfl, hb3⟩
    obtain ⟨a0, a1, r0, r1, f0, f1, bl⟩ := R1.below hb3
    obtain ⟨q0, q1, hB⟩ := (R1.below hb3).set (.int .i64 (k : Int)) (.string ⟨nm.toArray⟩)
    have HQ0 := Lib.hid q0; have HQ1 := Lib.hid q1; have HB := Lib.hid hB; clear q0 q1 hB R0 R1 hb1 hb3 a0 a1
    go_wp2
    refine bodyPost_ret (v := .tuple #[.agg #[.int .i64 (k : Int), .string ⟨nm.toArray⟩], .int .i64 (er : Int)]) ?_ rfl ⟨rfl, HB.out⟩
    simp [results, Tryd.results25, go_sem, HQ0.out, HQ1.out]

set_option maxRecDepth 100000 in
set_option maxHeartbeats 1000000 in
theorem resolve_any (sp : Int) (b s : ByteArray) (w : World) (hb : b.size ≤ maxLen) (hs : s.size ≤ maxLen) (ht : Tb w) :
    Calls Tryd.prog 10 #[.agg #[.int .i64 sp, .string b], .string s] w fun e w' => e = .returned (.bool true) ∧ Below w.heap.size w w' := by
  have HS := Lib.hid hb
  unfold maxLen at hs hb
  have H2 := two_new w sp b 24
  have t0 := ht.below H2.bl
  have a0 := H2.a0
  have a1 := H2.a1
  by_cases hbig : 300 < b.size
  · have hd : decide (300 < (b.size : Int)) = true := by simp; omega
    go_enter Tryd.func10, Tryd.ntmps10
    go_wp2_with fail
    refine (known_any _ t0).mono ?_
    rintro e w1 ⟨rfl, hb1⟩
    go_wp2
    go_ret
    exact ⟨rfl, (H2.below hb1).bl⟩
  have hd : decide (300 < (b.size : Int)) = false := by simp; omega
  by_cases hbig2 : 300 < s.size
  · have hd2 : decide (300 < (s.size : Int)) = true := by simp; omega
    go_enter Tryd.func10, Tryd.ntmps10
    go_wp2_with fail
    refine (known_any _ t0).mono ?_
    rintro e w1 ⟨rfl, hb1⟩
    go_wp2
    go_ret
    exact ⟨rfl, (H2.below hb1).bl⟩
  have hd2 : decide (300 < (s.size : Int)) = false := by simp; omega
  obtain ⟨k, nm, er, hp⟩ : ∃ k nm er, parse (target sp b.data.toList s.data.toList) = ((k, nm), er) := ⟨_, _, _, rfl⟩
  have HP := Lib.hid hp; clear hp
  go_enter Tryd.func10, Tryd.ntmps10
  go_wp2_with fail
  refine (Resolve_any _ _ _ _ HS.out (by omega) t0 HP.out).mono ?_
  rintro e w1 ⟨rfl, hb1⟩
  have t1 := t0.below hb1
  have H3 := H2.below hb1
  clear a0 a1
  have a0 := H3.a0
  have a1 := H3.a1
  have c1 : Below w1.heap.size w1 (w1.alloc (.cells #[.int .i64 (k : Int), .string ⟨nm.toArray⟩] 24)) := (Below.refl _ w1).alloc (Nat.le_refl _) _
  have t1' := t1.below c1
  have H4 := H3.below c1
  have a0' := H4.a0
  have a1' := H4.a1
  go_wp2_with fail
  refine (RefResolve_any _ _ _ _ HS.out (by omega) HP.out).mono ?_
  rintro e w2 ⟨rfl, hb2⟩
  have t2 := t1'.below hb2
  have k2 := keep2 (by simpa using hb2)
  obtain ⟨e0, e1, _, _⟩ := k2
  have H5 := H4.below hb2
  have Z1 := hb1.size
  have Z2 : w1.heap.size + 1 ≤ w2.heap.size := by simpa using hb2.size
  have z2 : w1.heap.size < w2.heap.size := by omega
  have c2 : Below w2.heap.size w2 (w2.alloc (.cells #[.int .i64 (k : Int), .string ⟨nm.toArray⟩] 24)) := (Below.refl _ w2).alloc (Nat.le_refl _) _
  have t2' := t2.below c2
  have H6 := H5.below c2
  go_wp2_with fail
  refine (known_any _ t2').mono ?_
  rintro e w4 ⟨rfl, hb4⟩
  go_wp2
  go_ret
  exact ⟨rfl, (H6.below hb4).bl⟩
end Go.Proofs.YtjnnbmdacicfcaaDoor.Ti
