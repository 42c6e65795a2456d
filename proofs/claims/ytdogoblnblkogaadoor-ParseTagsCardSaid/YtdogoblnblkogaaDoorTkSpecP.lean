/-
  The reference's special behind its first two rules (no nowiki begins).
-/
import Derived.Test.YtdogoblnblkogaaDoorTkSpec
namespace Go.Proofs.YtdogoblnblkogaaDoor.Tk
open Go.RowKit

set_option maxRecDepth 100000 in
set_option maxHeartbeats 4000000 in
theorem special_plain (s : ByteArray) (i : Nat) (w : World) (hi : i < s.size) (hs : s.size ≤ 8192) (h1 : Lib.hasPrefix (s.data.toList.drop i) [60, 33, 45, 45] = false) (h2 : Lib.hasPrefix (s.data.toList.drop i) [60, 110, 111, 119, 105, 107, 105, 62] = false) :
    Calls Tryd.prog 37 #[.string s, .int .i64 (i : Int)] w fun e w' => e = .returned (two (ends i (specL (s.data.toList.drop i)))) ∧ Below w.heap.size w w' := by
  have hsl : Hid (s.data.toList.length = s.size) := Lib.hid rfl
  have hno : ¬ (Lib.hasPrefix (s.data.toList.drop i) nO = true ∧ upTo (s.data.toList.drop i) nO nE ≠ 0) := by rw [show Lib.hasPrefix (s.data.toList.drop i) nO = false from h2]; simp
  have HT := Lib.hid (spec_tag (i := i) h1 hno)
  have HE := Lib.hid (spec_rest (i := i) h1 hno)
  clear hno
  go_enter Tryd.func37, Tryd.ntmps37
  go_wp2_with fail
  refine (At_any _ _ i _ (by omega) (by omega)).mono ?_
  rintro e w' ⟨rfl, rfl⟩
  go_wp2_with fail
  refine (At_any _ _ i _ (by omega) (by omega)).mono ?_
  rintro e w' ⟨rfl, rfl⟩
  go_wp2
  go_loopw [8] (fun x wr => ∃ k : Nat, 1 ≤ k ∧ k ≤ 4 ∧ x = .int .i64 k ∧ Hid (Below w.heap.size w wr) ∧ Hid (tagFrom (s.data.toList.drop i) 3 1 = tagFrom (s.data.toList.drop i) (4 - k) k)) (fun x _ => 4 - (intOf x).toNat)
  case atStart => exact ⟨1, by omega, by omega, rfl, Lib.hid (Below.refl _ _), Lib.hid rfl⟩
  case round =>
    obtain ⟨k, hk1, hk, rfl, hb, hr⟩ := hrel
    have hz := hb.out.size
    have hcases : k = 1 ∨ k = 2 ∨ k = 3 ∨ k = 4 := by omega
    rcases hcases with rfl | rfl | rfl | rfl
    · cases ha : Lib.hasPrefix (s.data.toList.drop i) [60, 110, 111, 105, 110, 99, 108, 117, 100, 101, 62]
      · cases hc : Lib.hasPrefix (s.data.toList.drop i) [60, 47, 110, 111, 105, 110, 99, 108, 117, 100, 101, 62]
        · have HN : Hid (tagFrom (s.data.toList.drop i) 3 1 = tagFrom (s.data.toList.drop i) 2 2) := Lib.hid (hr.out.trans (tag_step (k := 1) ha hc))
          go_wp2_with fail
          refine (TagText_1false _).mono ?_
          rintro e w1 ⟨rfl, hb1⟩
          have B1 : Hid (Below w.heap.size w w1) := Lib.hid (hb.out.trans (hb1.mono hb.out.size))
          clear hb1
          go_wp2_with fail
          refine (At_any _ _ i _ (by omega) (by omega)).mono ?_
          rintro e w' ⟨rfl, rfl⟩
          go_wp2_with fail
          refine (TagText_1true _).mono ?_
          rintro e w2 ⟨rfl, hb2⟩
          have B2 : Hid (Below w.heap.size w w2) := Lib.hid (B1.out.trans (hb2.mono B1.out.size))
          clear hb2
          go_wp2_with fail
          refine (At_any _ _ i _ (by omega) (by omega)).mono ?_
          rintro e w' ⟨rfl, rfl⟩
          go_wp2
          go_roundw
          case rel => exact ⟨2, by omega, by omega, by first | rfl | go_num, B2, HN⟩
          case measure => simp [intOf]
        · have HN : Hid (ends i (specL (s.data.toList.drop i)) = (12, i + 12)) := Lib.hid (HT.out 12 12 (by omega) (hr.out.trans (tag_close (k := 1) ha hc)))
          have hp := hp_len hc
          rw [List.length_drop, hsl.out] at hp
          simp at hp
          go_wp2_with fail
          refine (TagText_1false _).mono ?_
          rintro e w1 ⟨rfl, hb1⟩
          have B1 : Hid (Below w.heap.size w w1) := Lib.hid (hb.out.trans (hb1.mono hb.out.size))
          clear hb1
          go_wp2_with fail
          refine (At_any _ _ i _ (by omega) (by omega)).mono ?_
          rintro e w' ⟨rfl, rfl⟩
          go_wp2_with fail
          refine (TagText_1true _).mono ?_
          rintro e w2 ⟨rfl, hb2⟩
          have B2 : Hid (Below w.heap.size w w2) := Lib.hid (B1.out.trans (hb2.mono B1.out.size))
          clear hb2
          go_wp2_with fail
          refine (At_any _ _ i _ (by omega) (by omega)).mono ?_
          rintro e w' ⟨rfl, rfl⟩
          go_wp2
          go_ret2
          exact ⟨by rw [HN.out]; rfl, B2.out⟩
      · have HN : Hid (ends i (specL (s.data.toList.drop i)) = (11, i + 11)) := Lib.hid (HT.out 11 11 (by omega) (hr.out.trans (tag_open (k := 1) ha)))
        have hp := hp_len ha
        rw [List.length_drop, hsl.out] at hp
        simp at hp
        go_wp2_with fail
        refine (TagText_1false _).mono ?_
        rintro e w1 ⟨rfl, hb1⟩
        have B1 : Hid (Below w.heap.size w w1) := Lib.hid (hb.out.trans (hb1.mono hb.out.size))
        clear hb1
        go_wp2_with fail
        refine (At_any _ _ i _ (by omega) (by omega)).mono ?_
        rintro e w' ⟨rfl, rfl⟩
        go_wp2
        go_ret2
        exact ⟨by rw [HN.out]; rfl, B1.out⟩
    · cases ha : Lib.hasPrefix (s.data.toList.drop i) [60, 105, 110, 99, 108, 117, 100, 101, 111, 110, 108, 121, 62]
      · cases hc : Lib.hasPrefix (s.data.toList.drop i) [60, 47, 105, 110, 99, 108, 117, 100, 101, 111, 110, 108, 121, 62]
        · have HN : Hid (tagFrom (s.data.toList.drop i) 3 1 = tagFrom (s.data.toList.drop i) 1 3) := Lib.hid (hr.out.trans (tag_step (k := 2) ha hc))
          go_wp2_with fail
          refine (TagText_2false _).mono ?_
          rintro e w1 ⟨rfl, hb1⟩
          have B1 : Hid (Below w.heap.size w w1) := Lib.hid (hb.out.trans (hb1.mono hb.out.size))
          clear hb1
          go_wp2_with fail
          refine (At_any _ _ i _ (by omega) (by omega)).mono ?_
          rintro e w' ⟨rfl, rfl⟩
          go_wp2_with fail
          refine (TagText_2true _).mono ?_
          rintro e w2 ⟨rfl, hb2⟩
          have B2 : Hid (Below w.heap.size w w2) := Lib.hid (B1.out.trans (hb2.mono B1.out.size))
          clear hb2
          go_wp2_with fail
          refine (At_any _ _ i _ (by omega) (by omega)).mono ?_
          rintro e w' ⟨rfl, rfl⟩
          go_wp2
          go_roundw
          case rel => exact ⟨3, by omega, by omega, by first | rfl | go_num, B2, HN⟩
          case measure => simp [intOf]
        · have HN : Hid (ends i (specL (s.data.toList.drop i)) = (12, i + 14)) := Lib.hid (HT.out 12 14 (by omega) (hr.out.trans (tag_close (k := 2) ha hc)))
          have hp := hp_len hc
          rw [List.length_drop, hsl.out] at hp
          simp at hp
          go_wp2_with fail
          refine (TagText_2false _).mono ?_
          rintro e w1 ⟨rfl, hb1⟩
          have B1 : Hid (Below w.heap.size w w1) := Lib.hid (hb.out.trans (hb1.mono hb.out.size))
          clear hb1
          go_wp2_with fail
          refine (At_any _ _ i _ (by omega) (by omega)).mono ?_
          rintro e w' ⟨rfl, rfl⟩
          go_wp2_with fail
          refine (TagText_2true _).mono ?_
          rintro e w2 ⟨rfl, hb2⟩
          have B2 : Hid (Below w.heap.size w w2) := Lib.hid (B1.out.trans (hb2.mono B1.out.size))
          clear hb2
          go_wp2_with fail
          refine (At_any _ _ i _ (by omega) (by omega)).mono ?_
          rintro e w' ⟨rfl, rfl⟩
          go_wp2
          go_ret2
          exact ⟨by rw [HN.out]; rfl, B2.out⟩
      · have HN : Hid (ends i (specL (s.data.toList.drop i)) = (11, i + 13)) := Lib.hid (HT.out 11 13 (by omega) (hr.out.trans (tag_open (k := 2) ha)))
        have hp := hp_len ha
        rw [List.length_drop, hsl.out] at hp
        simp at hp
        go_wp2_with fail
        refine (TagText_2false _).mono ?_
        rintro e w1 ⟨rfl, hb1⟩
        have B1 : Hid (Below w.heap.size w w1) := Lib.hid (hb.out.trans (hb1.mono hb.out.size))
        clear hb1
        go_wp2_with fail
        refine (At_any _ _ i _ (by omega) (by omega)).mono ?_
        rintro e w' ⟨rfl, rfl⟩
        go_wp2
        go_ret2
        exact ⟨by rw [HN.out]; rfl, B1.out⟩
    · cases ha : Lib.hasPrefix (s.data.toList.drop i) [60, 111, 110, 108, 121, 105, 110, 99, 108, 117, 100, 101, 62]
      · cases hc : Lib.hasPrefix (s.data.toList.drop i) [60, 47, 111, 110, 108, 121, 105, 110, 99, 108, 117, 100, 101, 62]
        · have HN : Hid (tagFrom (s.data.toList.drop i) 3 1 = tagFrom (s.data.toList.drop i) 0 4) := Lib.hid (hr.out.trans (tag_step (k := 3) ha hc))
          go_wp2_with fail
          refine (TagText_3false _).mono ?_
          rintro e w1 ⟨rfl, hb1⟩
          have B1 : Hid (Below w.heap.size w w1) := Lib.hid (hb.out.trans (hb1.mono hb.out.size))
          clear hb1
          go_wp2_with fail
          refine (At_any _ _ i _ (by omega) (by omega)).mono ?_
          rintro e w' ⟨rfl, rfl⟩
          go_wp2_with fail
          refine (TagText_3true _).mono ?_
          rintro e w2 ⟨rfl, hb2⟩
          have B2 : Hid (Below w.heap.size w w2) := Lib.hid (B1.out.trans (hb2.mono B1.out.size))
          clear hb2
          go_wp2_with fail
          refine (At_any _ _ i _ (by omega) (by omega)).mono ?_
          rintro e w' ⟨rfl, rfl⟩
          go_wp2
          go_roundw
          case rel => exact ⟨4, by omega, by omega, by first | rfl | go_num, B2, HN⟩
          case measure => simp [intOf]
        · have HN : Hid (ends i (specL (s.data.toList.drop i)) = (12, i + 14)) := Lib.hid (HT.out 12 14 (by omega) (hr.out.trans (tag_close (k := 3) ha hc)))
          have hp := hp_len hc
          rw [List.length_drop, hsl.out] at hp
          simp at hp
          go_wp2_with fail
          refine (TagText_3false _).mono ?_
          rintro e w1 ⟨rfl, hb1⟩
          have B1 : Hid (Below w.heap.size w w1) := Lib.hid (hb.out.trans (hb1.mono hb.out.size))
          clear hb1
          go_wp2_with fail
          refine (At_any _ _ i _ (by omega) (by omega)).mono ?_
          rintro e w' ⟨rfl, rfl⟩
          go_wp2_with fail
          refine (TagText_3true _).mono ?_
          rintro e w2 ⟨rfl, hb2⟩
          have B2 : Hid (Below w.heap.size w w2) := Lib.hid (B1.out.trans (hb2.mono B1.out.size))
          clear hb2
          go_wp2_with fail
          refine (At_any _ _ i _ (by omega) (by omega)).mono ?_
          rintro e w' ⟨rfl, rfl⟩
          go_wp2
          go_ret2
          exact ⟨by rw [HN.out]; rfl, B2.out⟩
      · have HN : Hid (ends i (specL (s.data.toList.drop i)) = (11, i + 13)) := Lib.hid (HT.out 11 13 (by omega) (hr.out.trans (tag_open (k := 3) ha)))
        have hp := hp_len ha
        rw [List.length_drop, hsl.out] at hp
        simp at hp
        go_wp2_with fail
        refine (TagText_3false _).mono ?_
        rintro e w1 ⟨rfl, hb1⟩
        have B1 : Hid (Below w.heap.size w w1) := Lib.hid (hb.out.trans (hb1.mono hb.out.size))
        clear hb1
        go_wp2_with fail
        refine (At_any _ _ i _ (by omega) (by omega)).mono ?_
        rintro e w' ⟨rfl, rfl⟩
        go_wp2
        go_ret2
        exact ⟨by rw [HN.out]; rfl, B1.out⟩
    · have HR : Hid (ends i (specL (s.data.toList.drop i)) = ends i (restL (s.data.toList.drop i))) := Lib.hid (HE.out (hr.out.trans rfl))
      have hrl := run_le 123 (s.data.toList.drop i)
      have hrm := run_le 125 (s.data.toList.drop i)
      rw [List.length_drop, hsl.out] at hrl hrm
      cases g0 : Lib.hasPrefix (s.data.toList.drop i) [123, 123]
      rotate_left
      · have hge : 2 ≤ run 123 (s.data.toList.drop i) := run_ge (c := 123) g0
        have HN : Hid (ends i (specL (s.data.toList.drop i)) = (3, i + run 123 (s.data.toList.drop i))) := Lib.hid (HR.out.trans (by unfold restL; rw [g0]; simp only [if_true]; exact ends_of (by omega)))
        clear hge
        go_wp2_with fail
        refine (At_any _ _ i _ (by omega) (by omega)).mono ?_
        rintro e w' ⟨rfl, rfl⟩
        go_wp2_with fail
        refine (run_any _ i 123 _ (by omega) (by omega)).mono ?_
        rintro e w' ⟨rfl, rfl⟩
        go_wp2
        go_ret2
        exact ⟨by rw [HN.out]; rfl, hb.out⟩
      cases g1 : Lib.hasPrefix (s.data.toList.drop i) [125, 125]
      rotate_left
      · have hge : 2 ≤ run 125 (s.data.toList.drop i) := run_ge (c := 125) g1
        have HN : Hid (ends i (specL (s.data.toList.drop i)) = (4, i + run 125 (s.data.toList.drop i))) := Lib.hid (HR.out.trans (by unfold restL; rw [g0, g1]; simp only [Bool.false_eq_true, if_false, if_true]; exact ends_of (by omega)))
        clear hge
        go_wp2_with fail
        refine (At_any _ _ i _ (by omega) (by omega)).mono ?_
        rintro e w' ⟨rfl, rfl⟩
        go_wp2_with fail
        refine (At_any _ _ i _ (by omega) (by omega)).mono ?_
        rintro e w' ⟨rfl, rfl⟩
        go_wp2_with fail
        refine (run_any _ i 125 _ (by omega) (by omega)).mono ?_
        rintro e w' ⟨rfl, rfl⟩
        go_wp2
        go_ret2
        exact ⟨by rw [HN.out]; rfl, hb.out⟩
      cases g2 : Lib.hasPrefix (s.data.toList.drop i) [91, 91]
      rotate_left
      · have HN : Hid (ends i (specL (s.data.toList.drop i)) = (5, i + 2)) := Lib.hid (HR.out.trans (by unfold restL; rw [g0, g1, g2]; rfl))
        go_wp2_with fail
        refine (At_any _ _ i _ (by omega) (by omega)).mono ?_
        rintro e w' ⟨rfl, rfl⟩
        go_wp2_with fail
        refine (At_any _ _ i _ (by omega) (by omega)).mono ?_
        rintro e w' ⟨rfl, rfl⟩
        go_wp2_with fail
        refine (At_any _ _ i _ (by omega) (by omega)).mono ?_
        rintro e w' ⟨rfl, rfl⟩
        go_wp2
        go_ret2
        exact ⟨by rw [HN.out]; rfl, hb.out⟩
      cases g3 : Lib.hasPrefix (s.data.toList.drop i) [93, 93]
      rotate_left
      · have HN : Hid (ends i (specL (s.data.toList.drop i)) = (6, i + 2)) := Lib.hid (HR.out.trans (by unfold restL; rw [g0, g1, g2, g3]; rfl))
        go_wp2_with fail
        refine (At_any _ _ i _ (by omega) (by omega)).mono ?_
        rintro e w' ⟨rfl, rfl⟩
        go_wp2_with fail
        refine (At_any _ _ i _ (by omega) (by omega)).mono ?_
        rintro e w' ⟨rfl, rfl⟩
        go_wp2_with fail
        refine (At_any _ _ i _ (by omega) (by omega)).mono ?_
        rintro e w' ⟨rfl, rfl⟩
        go_wp2_with fail
        refine (At_any _ _ i _ (by omega) (by omega)).mono ?_
        rintro e w' ⟨rfl, rfl⟩
        go_wp2
        go_ret2
        exact ⟨by rw [HN.out]; rfl, hb.out⟩
      cases g4 : Lib.hasPrefix (s.data.toList.drop i) [124]
      rotate_left
      · have HN : Hid (ends i (specL (s.data.toList.drop i)) = (7, i + 1)) := Lib.hid (HR.out.trans (by unfold restL; rw [g0, g1, g2, g3, g4]; rfl))
        go_wp2_with fail
        refine (At_any _ _ i _ (by omega) (by omega)).mono ?_
        rintro e w' ⟨rfl, rfl⟩
        go_wp2_with fail
        refine (At_any _ _ i _ (by omega) (by omega)).mono ?_
        rintro e w' ⟨rfl, rfl⟩
        go_wp2_with fail
        refine (At_any _ _ i _ (by omega) (by omega)).mono ?_
        rintro e w' ⟨rfl, rfl⟩
        go_wp2_with fail
        refine (At_any _ _ i _ (by omega) (by omega)).mono ?_
        rintro e w' ⟨rfl, rfl⟩
        go_wp2_with fail
        refine (At_any _ _ i _ (by omega) (by omega)).mono ?_
        rintro e w' ⟨rfl, rfl⟩
        go_wp2
        go_ret2
        exact ⟨by rw [HN.out]; rfl, hb.out⟩
      cases g5 : Lib.hasPrefix (s.data.toList.drop i) [61]
      rotate_left
      · have HN : Hid (ends i (specL (s.data.toList.drop i)) = (8, i + 1)) := Lib.hid (HR.out.trans (by unfold restL; rw [g0, g1, g2, g3, g4, g5]; rfl))
        go_wp2_with fail
        refine (At_any _ _ i _ (by omega) (by omega)).mono ?_
        rintro e w' ⟨rfl, rfl⟩
        go_wp2_with fail
        refine (At_any _ _ i _ (by omega) (by omega)).mono ?_
        rintro e w' ⟨rfl, rfl⟩
        go_wp2_with fail
        refine (At_any _ _ i _ (by omega) (by omega)).mono ?_
        rintro e w' ⟨rfl, rfl⟩
        go_wp2_with fail
        refine (At_any _ _ i _ (by omega) (by omega)).mono ?_
        rintro e w' ⟨rfl, rfl⟩
        go_wp2_with fail
        refine (At_any _ _ i _ (by omega) (by omega)).mono ?_
        rintro e w' ⟨rfl, rfl⟩
        go_wp2_with fail
        refine (At_any _ _ i _ (by omega) (by omega)).mono ?_
        rintro e w' ⟨rfl, rfl⟩
        go_wp2
        go_ret2
        exact ⟨by rw [HN.out]; rfl, hb.out⟩
      cases g6 : Lib.hasPrefix (s.data.toList.drop i) [10]
      rotate_left
      · have HN : Hid (ends i (specL (s.data.toList.drop i)) = (2, i + 1)) := Lib.hid (HR.out.trans (by unfold restL; rw [g0, g1, g2, g3, g4, g5, g6]; rfl))
        go_wp2_with fail
        refine (At_any _ _ i _ (by omega) (by omega)).mono ?_
        rintro e w' ⟨rfl, rfl⟩
        go_wp2_with fail
        refine (At_any _ _ i _ (by omega) (by omega)).mono ?_
        rintro e w' ⟨rfl, rfl⟩
        go_wp2_with fail
        refine (At_any _ _ i _ (by omega) (by omega)).mono ?_
        rintro e w' ⟨rfl, rfl⟩
        go_wp2_with fail
        refine (At_any _ _ i _ (by omega) (by omega)).mono ?_
        rintro e w' ⟨rfl, rfl⟩
        go_wp2_with fail
        refine (At_any _ _ i _ (by omega) (by omega)).mono ?_
        rintro e w' ⟨rfl, rfl⟩
        go_wp2_with fail
        refine (At_any _ _ i _ (by omega) (by omega)).mono ?_
        rintro e w' ⟨rfl, rfl⟩
        go_wp2_with fail
        refine (At_any _ _ i _ (by omega) (by omega)).mono ?_
        rintro e w' ⟨rfl, rfl⟩
        go_wp2
        go_ret2
        exact ⟨by rw [HN.out]; rfl, hb.out⟩
      have HN : Hid (ends i (specL (s.data.toList.drop i)) = (0, 0)) := Lib.hid (HR.out.trans (by unfold restL; rw [g0, g1, g2, g3, g4, g5, g6]; rfl))
      go_wp2_with fail
      refine (At_any _ _ i _ (by omega) (by omega)).mono ?_
      rintro e w' ⟨rfl, rfl⟩
      go_wp2_with fail
      refine (At_any _ _ i _ (by omega) (by omega)).mono ?_
      rintro e w' ⟨rfl, rfl⟩
      go_wp2_with fail
      refine (At_any _ _ i _ (by omega) (by omega)).mono ?_
      rintro e w' ⟨rfl, rfl⟩
      go_wp2_with fail
      refine (At_any _ _ i _ (by omega) (by omega)).mono ?_
      rintro e w' ⟨rfl, rfl⟩
      go_wp2_with fail
      refine (At_any _ _ i _ (by omega) (by omega)).mono ?_
      rintro e w' ⟨rfl, rfl⟩
      go_wp2_with fail
      refine (At_any _ _ i _ (by omega) (by omega)).mono ?_
      rintro e w' ⟨rfl, rfl⟩
      go_wp2_with fail
      refine (At_any _ _ i _ (by omega) (by omega)).mono ?_
      rintro e w' ⟨rfl, rfl⟩
      go_wp2
      go_ret2
      exact ⟨by rw [HN.out]; rfl, hb.out⟩
end Go.Proofs.YtdogoblnblkogaaDoor.Tk
