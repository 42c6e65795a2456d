/-
  The law TokenLines, for every two texts.
-/
import Derived.Test.YthcclcoocoikoaaDoorTkRef
import Derived.Test.YthcclcoocoikoaaDoorTkCovers
namespace Go.Proofs.YthcclcoocoikoaaDoor.Tk
open Go.RowKit

theorem noocc {s q : List UInt8} (h : Lib.index s q = -1) : ∀ j, j ≤ s.length → Lib.hasPrefix (s.drop j) q = false := by
  rcases Lib.index_spec s q with ⟨_, h2⟩ | ⟨i, h1, _⟩
  · exact h2
  · omega
theorem Rd.front {w : World} {B c g : Nat} {X Y : List Tok} (h : Rd w B (.slice (some ⟨g, 0, none⟩) (X ++ Y).length c) (X ++ Y)) : Rd w B (.slice (some ⟨g, 0, none⟩) X.length c) X := by
  obtain ⟨A, c', h1, h2, h3, h4⟩ := h.ex
  simp only [Value.slice.injEq] at h1
  obtain ⟨rfl, _, rfl⟩ := h1
  refine ⟨_, c, rfl, by rw [List.length_append] at h2; omega, h3, fun hn => ?_⟩
  obtain ⟨g', e, h5, h6⟩ := h4 (by rw [List.length_append]; omega)
  obtain rfl : g = g' := by simpa using e
  exact ⟨g, rfl, h5, fun i x hx => h6 i x (by rw [List.getElem?_append_left (List.getElem?_eq_some_iff.1 hx).1]; exact hx)⟩

theorem lines_a (a b : ByteArray) (w : World) (ht : Tb w) (h : 500 < a.size) :
    Calls Tryd.prog 7 #[.string a, .string b] w fun e w' => e = .returned (.bool true) ∧ Below w.heap.size w w' := by
  have h1 : (500 : Int) < (a.size : Int) := by omega
  go_enter Tryd.func7, Tryd.ntmps7
  go_wp2_with fail
  refine (known_any _ ht).mono ?_
  rintro e w1 ⟨rfl, hb⟩
  go_wp2
  go_ret
  exact ⟨rfl, hb⟩
theorem lines_b (a b : ByteArray) (w : World) (ht : Tb w) (h0 : a.size ≤ 500) (h : 500 < b.size) :
    Calls Tryd.prog 7 #[.string a, .string b] w fun e w' => e = .returned (.bool true) ∧ Below w.heap.size w w' := by
  have h1 : decide ((500 : Int) < (a.size : Int)) = false := by simp; omega
  have h2 : (500 : Int) < (b.size : Int) := by omega
  go_enter Tryd.func7, Tryd.ntmps7
  go_wp2_with fail
  refine (known_any _ ht).mono ?_
  rintro e w1 ⟨rfl, hb⟩
  go_wp2
  go_ret
  exact ⟨rfl, hb⟩
theorem lines_c (a b : ByteArray) (w : World) (ht : Tb w) (h0 : a.size ≤ 500) (hb0 : b.size ≤ 500) (h : 0 ≤ Lib.index a.data.toList cO) :
    Calls Tryd.prog 7 #[.string a, .string b] w fun e w' => e = .returned (.bool true) ∧ Below w.heap.size w w' := by
  have h1 : decide ((500 : Int) < (a.size : Int)) = false := by simp; omega
  have h2 : decide ((500 : Int) < (b.size : Int)) = false := by simp; omega
  have HI : Hid (indexFrom a.data.toList [60, 33, 45, 45] 0 = Lib.index a.data.toList cO) := Lib.hid (indexFrom_zero _ _)
  go_enter Tryd.func7, Tryd.ntmps7
  go_wp2_with fail
  refine (Index_any _ _ 0 _ (by omega) (by omega) (by decide)).mono ?_
  rintro e w' ⟨rfl, rfl⟩
  rw [HI.out]
  go_wp2_with fail
  refine (known_any _ ht).mono ?_
  rintro e w1 ⟨rfl, hb⟩
  go_wp2
  go_ret
  exact ⟨rfl, hb⟩
theorem lines_d (a b : ByteArray) (w : World) (ht : Tb w) (h0 : a.size ≤ 500) (hb0 : b.size ≤ 500) (hc : Lib.index a.data.toList cO = -1) (h : 0 ≤ Lib.index a.data.toList nO) :
    Calls Tryd.prog 7 #[.string a, .string b] w fun e w' => e = .returned (.bool true) ∧ Below w.heap.size w w' := by
  have h1 : decide ((500 : Int) < (a.size : Int)) = false := by simp; omega
  have h2 : decide ((500 : Int) < (b.size : Int)) = false := by simp; omega
  have HI : Hid (indexFrom a.data.toList [60, 33, 45, 45] 0 = -1) := Lib.hid ((indexFrom_zero _ _).trans hc)
  have HJ : Hid (indexFrom a.data.toList [60, 110, 111, 119, 105, 107, 105, 62] 0 = Lib.index a.data.toList nO) := Lib.hid (indexFrom_zero _ _)
  clear hc
  go_enter Tryd.func7, Tryd.ntmps7
  go_wp2_with fail
  refine (Index_any _ _ 0 _ (by omega) (by omega) (by decide)).mono ?_
  rintro e w' ⟨rfl, rfl⟩
  rw [HI.out]
  go_wp2_with fail
  refine (Index_any _ _ 0 _ (by omega) (by omega) (by decide)).mono ?_
  rintro e w' ⟨rfl, rfl⟩
  rw [HJ.out]
  go_wp2_with fail
  refine (known_any _ ht).mono ?_
  rintro e w1 ⟨rfl, hb⟩
  go_wp2
  go_ret
  exact ⟨rfl, hb⟩

set_option maxRecDepth 100000 in
set_option maxHeartbeats 4000000 in
theorem lines_e (a b : ByteArray) (w : World) (ht : Tb w) (h0 : a.size ≤ 500) (hb0 : b.size ≤ 500) (hc : Lib.index a.data.toList cO = -1) (hn : Lib.index a.data.toList nO = -1) :
    Calls Tryd.prog 7 #[.string a, .string b] w fun e w' => e = .returned (.bool true) ∧ Below w.heap.size w w' := by
  have h1 : decide ((500 : Int) < (a.size : Int)) = false := by simp; omega
  have h2 : decide ((500 : Int) < (b.size : Int)) = false := by simp; omega
  have HI : Hid (indexFrom a.data.toList [60, 33, 45, 45] 0 = -1) := Lib.hid ((indexFrom_zero _ _).trans hc)
  have HJ : Hid (indexFrom a.data.toList [60, 110, 111, 119, 105, 107, 105, 62] 0 = -1) := Lib.hid ((indexFrom_zero _ _).trans hn)
  have hlin := scan_lines a.data.toList b.data.toList (noocc hc) (noocc hn) _ 0 0 (Nat.le_refl _) (Nat.zero_le _)
  have hlin' := Lib.hid hlin
  clear hc hn hlin
  have s1 : a.size + 1 ≤ 9223372036854775807 := by omega
  go_enter Tryd.func7, Tryd.ntmps7
  go_wp2_with fail
  refine (Index_any _ _ 0 _ (by omega) (by omega) (by decide)).mono ?_
  rintro e w' ⟨rfl, rfl⟩
  rw [HI.out]
  go_wp2_with fail
  refine (Index_any _ _ 0 _ (by omega) (by omega) (by decide)).mono ?_
  rintro e w' ⟨rfl, rfl⟩
  rw [HJ.out]
  go_wp2_with fail
  generalize hA : a ++ (⟨#[10]⟩ : ByteArray) = A
  have hAd : Hid (A.data.toList = a.data.toList ++ [10]) := Lib.hid (by rw [← hA, ByteArray.data_append, Array.toList_append])
  have hAs : A.size = a.size + 1 := by have := congrArg List.length hAd.out; rw [List.length_append] at this; exact this
  clear hA
  have HAs := Lib.hid hAs
  have hA1 : A.size ≤ 501 := by omega
  clear hAs
  refine (Scan_any _ _ ht (by omega)).mono ?_
  rintro e w1 ⟨v1, rfl, ho1, hb1⟩
  have HO1 := Lib.hid ho1; have HB1 := Lib.hid hb1
  clear ho1 hb1
  go_wp2_with fail
  refine (Scan_any _ _ (ht.below HB1.out) (by omega)).mono ?_
  rintro e w2 ⟨v2, rfl, ho2, hb2⟩
  have HO2 := Lib.hid ho2
  have HO1' : Hid (Own w2 w.heap.size v1 (scanL A.data.toList 0 0)) := Lib.hid (HO1.out.below hb2 (Nat.le_refl _))
  have HB2 : Hid (Below w.heap.size w w2) := Lib.hid (HB1.out.trans (hb2.mono HB1.out.size))
  clear ho2 hb2 HO1 HB1
  have s2 : A.size + b.size ≤ 9223372036854775807 := by omega
  go_wp2_with fail
  generalize hC : A ++ b = C
  have hCd : Hid (C.data.toList = a.data.toList ++ 10 :: b.data.toList) := Lib.hid (by rw [← hC, ByteArray.data_append, Array.toList_append, hAd.out]; simp)
  have hCs : C.size = A.size + b.size := by rw [← hC]; exact ByteArray.size_append
  clear hC
  refine (Scan_any _ _ (ht.below HB2.out) (by omega)).mono ?_
  rintro e w3 ⟨v3, rfl, ho3, hb3⟩
  clear hCs
  have r1 : Rd w3 w3.heap.size v1 (scanL A.data.toList 0 0) := (HO1'.out.below hb3 (Nat.le_refl _)).rd
  have r2 : Rd w3 w3.heap.size v2 (scanL b.data.toList 0 0) := (HO2.out.below hb3 (Nat.le_refl _)).rd
  have r3 : Rd w3 w3.heap.size v3 (scanL A.data.toList 0 0 ++ (scanL b.data.toList 0 0).map (shift A.size)) := by
    have := ho3.rd
    rw [hCd.out, hlin'.out, ← hAd.out, show a.data.toList.length + 1 = A.size from HAs.out.symm] at this
    exact this
  have HB3 : Hid (Below w.heap.size w w3) := Lib.hid (HB2.out.trans (hb3.mono HB2.out.size))
  have hX0 : scanL A.data.toList 0 0 ≠ [] := by
    intro e
    have hch := scan_chain A.data.toList _ 0 0 (Nat.le_refl _) (Nat.le_refl _) (Nat.zero_le _)
    rw [e] at hch
    have : (0 : Nat) = A.data.toList.length := hch
    have h2 : A.data.toList.length = A.size := rfl
    have := HAs.out
    omega
  clear ho3 hb3 HO1' HO2 hlin' HB2 hCd
  have hrY : ∀ x ∈ scanL b.data.toList 0 0, x.2.1 < x.2.2 ∧ x.2.2 ≤ b.data.toList.length := scan_range b.data.toList _ 0 0 (Nat.le_refl _) (Nat.le_refl _) (Nat.zero_le _)
  generalize scanL A.data.toList 0 0 = X at r1 r3 hX0
  generalize scanL b.data.toList 0 0 = Y at r2 r3 hrY
  have HRY := Lib.hid hrY; clear hrY
  have hXp : 0 < X.length := List.length_pos_iff.2 hX0
  clear hX0
  have R1 := Lib.hid r1; clear r1
  obtain ⟨A2, c2, rfl, l2, m2, q2⟩ := r2.ex
  have R3 := r3
  obtain ⟨A3, c3, rfl, l3, m3, q3⟩ := r3.ex
  obtain ⟨g3, rfl, hg3, q3'⟩ := q3 (by rw [List.length_append]; omega)
  have R3' := Lib.hid R3.front
  obtain ⟨A1, c1, rfl, l1, m1, q1⟩ := R1.out.ex
  unfold maxLen at m1 m2 m3
  have Q2 := Lib.hid q2; have Q3 := Lib.hid q3'
  clear q1 q2 q3 q3' r2 R3 r3
  rw [List.length_append, List.length_map] at l3 ⊢
  have e1 : ((X.length + Y.length : Nat) : Int) = (X.length : Int) + (Y.length : Int) := by omega
  have hsum : (((X.length + Y.length : Nat) : Int) != (X.length : Int) + (Y.length : Int)) = false := by rw [bne_eq_false_iff_eq]; omega
  clear e1
  go_wp2
  go_loopw [11] (fun i wr => ∃ k nq : Nat, i = .int .i64 k ∧ k ≤ Y.length ∧ Hid (wr = w3.drewN nq)) (fun i _ => Y.length - (intOf i).toNat)
  case atStart => exact ⟨0, 0, rfl, Nat.zero_le _, Lib.hid rfl⟩
  case round =>
    obtain ⟨k, m0, rfl, hk, hw⟩ := hrel
    by_cases hlt : k < Y.length
    · have hki : (k : Int) < (Y.length : Int) := by omega
      obtain ⟨g2, rfl, hg2, q2⟩ := Q2.out (by omega)
      obtain ⟨y1, y2, y3⟩ := q2 k Y[k] (List.getElem?_eq_getElem hlt)
      obtain ⟨z1, z2, z3⟩ := Q3.out (X.length + k) (shift A.size Y[k]) (by rw [List.getElem?_append_right (by omega)]; simp [hlt])
      clear q2
      obtain ⟨kd, f, t, hx⟩ : ∃ kd f t, Y[k] = (kd, f, t) := ⟨_, _, _, rfl⟩
      rw [hx] at y1 y2 y3 z1 z2 z3
      simp only [shift] at y1 y2 y3 z1 z2 z3
      rw [Int.natCast_add] at z2 z3
      have hran := HRY.out Y[k] (List.getElem_mem hlt)
      rw [hx] at hran
      simp only at hran
      have hbl : b.data.toList.length = b.size := rfl
      rw [hbl] at hran
      clear hx hbl
      have b1 : (f : Int) ≤ 500 := by omega
      have b2 : (t : Int) ≤ 500 := by omega
      have b3 : (A.size : Int) ≤ 501 := by omega
      have b4 : (X.length : Int) + (k : Int) < (X.length : Int) + (Y.length : Int) := by omega
      have b5 : 0 ≤ (X.length : Int) + (k : Int) := by omega
      have b6 := IntWalk.i64_in ((X.length : Int) + (k : Int)) (by omega)
      have b7 := IntWalk.i64_in ((f : Int) + (A.size : Int)) (by omega)
      have b8 := IntWalk.i64_in ((t : Int) + (A.size : Int)) (by omega)
      have b9 : ((X.length : Int) + (k : Int)).toNat = X.length + k := by omega
      clear hran
      have hcell : ∀ p, wr.cell? p = w3.cell? p := fun p => by rw [hw.out]; rfl
      rw [← hcell] at y1 y2 y3 z1 z2 z3
      clear hcell
      go_wp2
      go_quiet (fail)
      clear b6 b7 b8 b9
      go_wp2
      go_roundw
      case rel => exact ⟨k + 1, m0 + nq, by go_num, by omega, Lib.hid (by rw [hw.out, World.drewN_drewN])⟩
      case measure => simp [intOf]; omega
    · have r1 : Rd wr w3.heap.size (.slice A1 X.length c1) X := R1.out.keep fun p _ => by rw [hw.out]; rfl
      have r3 : Rd wr w3.heap.size (.slice (some ⟨g3, 0, none⟩) X.length c3) X := by
        have := R3'.out.keep (w' := wr) fun p _ => by rw [hw.out]; rfl
        exact this
      have htr : Hid (Tb wr) := Lib.hid (by rw [hw.out]; exact (ht.below HB3.out).drewN m0)
      have hbr : Hid (Below w.heap.size w wr) := Lib.hid (by rw [hw.out]; exact below_drewN HB3.out m0)
      have g1 : X.length ≤ c3 := by omega
      have g2 : (X.length : Int) ≤ (c3 : Int) := by omega
      have RR1 := Lib.hid r1; have RR3 := Lib.hid r3
      clear r1 r3
      go_wp2_with fail
      refine (SameTokens_any _ _ _ _ _ _ RR3.out RR1.out).mono ?_
      rintro e w4 ⟨rfl, n, rfl⟩
      rw [decide_eq_true rfl]
      have ht4 : Hid (Tb (wr.drewN n)) := Lib.hid (htr.out.drewN n)
      go_wp2_with fail
      refine (known_any _ ht4.out).mono ?_
      rintro e w5 ⟨rfl, hb⟩
      go_wp2
      go_ret
      exact ⟨rfl, (below_drewN hbr.out n).trans (hb.mono (show w.heap.size ≤ wr.heap.size from hbr.out.size))⟩
theorem lines_any (a b : ByteArray) (w : World) (_ha : a.size ≤ maxLen) (_hb : b.size ≤ maxLen) (ht : Tb w) :
    Calls Tryd.prog 7 #[.string a, .string b] w fun e w' => e = .returned (.bool true) ∧ Below w.heap.size w w' := by
  by_cases h1 : 500 < a.size
  · exact lines_a a b w ht h1
  · by_cases h2 : 500 < b.size
    · exact lines_b a b w ht (by omega) h2
    · have g1 := Lib.index_ge a.data.toList cO
      have g2 := Lib.index_ge a.data.toList nO
      by_cases h3 : Lib.index a.data.toList cO = -1
      · by_cases h4 : Lib.index a.data.toList nO = -1
        · exact lines_e a b w ht (by omega) (by omega) h3 h4
        · exact lines_d a b w ht (by omega) (by omega) h3 (by omega)
      · exact lines_c a b w ht (by omega) (by omega) (by omega)
end Go.Proofs.YthcclcoocoikoaaDoor.Tk
