/-
  The contract of readGuard of package policy.
-/
import Derived.Test.YtbibekojbjonoaaDoorPoRead2
namespace Go.Proofs.YtbibekojbjonoaaDoor.Po
open Go.RowKit Go.Shelf
set_option linter.unusedVariables false
set_option linter.unusedSimpArgs false

section
variable (l a r c1 c2 nm se tn : By) (cb : Bool) (sp er : Nat)
structure GuardIn (w : World) : Prop where
  t0 : ∀ cs, Tb (w.alloc (.cells cs 36))
  hc : ∀ W, Calls Tryd.prog 19 #[.string (bsl l)] W fun e w' => e = .returned (.tuple #[.string (bsl a), .string (bsl r)]) ∧ Below W.heap.size W w'
  hk : ∀ W, Tb W → Calls Tryd.prog 39 #[.string (bsl r), .string ⟨#[124]⟩] W fun e w' => e = .returned (.tuple #[.string (bsl c1), .string (bsl c2), .bool cb]) ∧ ∃ n, w' = W.drewN n
  hs1 : ∀ W, Calls Tryd.prog 33 #[.string (bsl c2), .string ⟨#[9, 32]⟩] W fun e w' => e = .returned (.string (bsl se)) ∧ Below W.heap.size W w'
  hs2 : ∀ W, Calls Tryd.prog 33 #[.string (bsl c1), .string ⟨#[9, 32]⟩] W fun e w' => e = .returned (.string (bsl nm)) ∧ Below W.heap.size W w'
  hp : ∀ W, Tb W → Calls Tryd.prog 40 #[.string (bsl nm)] W fun e w' => e = .returned (.tuple #[.agg #[.int .i64 (sp : Nat), .string (bsl tn)], .int .i64 (er : Nat)]) ∧ Below W.heap.size W w'
end
set_option maxRecDepth 100000 in
set_option maxHeartbeats 4000000 in
theorem readGuard_f0 (l a r c1 c2 nm se tn : By) (sp er : Nat) (w : World) (H : Hid (GuardIn l a r c1 c2 nm se tn false sp er w)) (hq : ((er : Int) == 0) = false) :
    Calls Tryd.prog 23 #[.string (bsl l)] w fun e w' => e = .returned (.tuple #[.agg #[.bool false, .string (bsl a), .int .i64 (sp : Nat), .string (bsl tn), .string (bsl se)], .bool false]) ∧ Below w.heap.size w w' := by
  have hb0 : ∀ cs, Below w.heap.size w (w.alloc (.cells cs 36)) := fun cs => (Below.refl _ _).alloc (Nat.le_refl _) _
  have HB0 := Lib.hid hb0
  clear hb0
  go_enter Tryd.func23, Tryd.ntmps23
  go_wp2_with fail
  with_reducible refine (H.out.hc _).mono ?_
  rintro e w1 ⟨rfl, hb⟩
  obtain ⟨hc, hf⟩ := bcell hb
  have hz : w.heap.size < w1.heap.size := by have := hb.size; simp at this; omega
  have HB := Lib.hid ((HB0.out _).trans (hb.mono (by simp)))
  have HT1 := Lib.hid ((H.out.t0 _).below hb)
  clear hb
  go_wp2_with fail
  with_reducible refine (H.out.hk w1 HT1.out).mono ?_
  rintro e w2 ⟨rfl, hdr⟩
  have hb2 : Below w1.heap.size w1 w2 := by obtain ⟨n, rfl⟩ := hdr; exact Pa.below_drewN' _
  obtain ⟨hc2, hf2⟩ := bcell hb2
  have hz2 : w.heap.size < w2.heap.size := by have := hb2.size; omega
  have HB2 := Lib.hid (HB.out.trans (hb2.mono HB.out.size))
  have HT2 := Lib.hid (HT1.out.below hb2)
  clear hb2 hdr
  go_wp2_with fail
  with_reducible refine (H.out.hs1 w2).mono ?_
  rintro e w3 ⟨rfl, hb3⟩
  obtain ⟨hc3, hf3⟩ := bcell hb3
  have hz3 : w.heap.size < w3.heap.size := by have := hb3.size; omega
  have HB3 := Lib.hid (HB2.out.trans (hb3.mono HB2.out.size))
  have HT3 := Lib.hid (HT2.out.below hb3)
  clear hb3
  go_wp2_with fail
  with_reducible refine (H.out.hs2 w3).mono ?_
  rintro e w4 ⟨rfl, hb4⟩
  obtain ⟨hc4, hf4⟩ := bcell hb4
  have hz4 : w.heap.size < w4.heap.size := by have := hb4.size; omega
  have HB4 := Lib.hid (HB3.out.trans (hb4.mono HB3.out.size))
  have HT4 := Lib.hid (HT3.out.below hb4)
  clear hb4
  go_wp2_with fail
  with_reducible refine (H.out.hp w4 HT4.out).mono ?_
  rintro e w5 ⟨rfl, hb5⟩
  obtain ⟨hc5, hf5⟩ := bcell hb5
  have hz5 : w.heap.size < w5.heap.size := by have := hb5.size; omega
  have HB5 := Lib.hid (HB4.out.trans (hb5.mono HB4.out.size))
  clear hb5
  go_wp2
  have hbf := fun u0 u1 u2 u3 u4 o => (((((HB5.out.setCell (p := ⟨w.heap.size, 0, none⟩) (Nat.le_refl _) u0).setCell (p := ⟨w.heap.size, 1, none⟩) (Nat.le_refl _) u1).setCell (p := ⟨w.heap.size, 2, none⟩) (Nat.le_refl _) u2).setCell (p := ⟨w.heap.size, 3, none⟩) (Nat.le_refl _) u3).setCell (p := ⟨w.heap.size, 4, none⟩) (Nat.le_refl _) u4).alloc (by simp; omega) o
  exact bodyPost_ret (v := .tuple #[.agg #[.bool false, .string (bsl a), .int .i64 (sp : Nat), .string (bsl tn), .string (bsl se)], .bool false]) (by simp [results, Tryd.results23, go_sem, hc, hc2, hc3, hc4, hc5, hz, hz2, hz3, hz4, hz5]) rfl ⟨rfl, hbf _ _ _ _ _ _⟩
set_option maxRecDepth 100000 in
set_option maxHeartbeats 4000000 in
theorem readGuard_f1 (l a r c1 c2 nm se tn : By) (sp er : Nat) (w : World) (H : Hid (GuardIn l a r c1 c2 nm se tn false sp er w)) (hq : ((er : Int) == 0) = true) :
    Calls Tryd.prog 23 #[.string (bsl l)] w fun e w' => e = .returned (.tuple #[.agg #[.bool false, .string (bsl a), .int .i64 (sp : Nat), .string (bsl tn), .string (bsl se)], .bool true]) ∧ Below w.heap.size w w' := by
  have hb0 : ∀ cs, Below w.heap.size w (w.alloc (.cells cs 36)) := fun cs => (Below.refl _ _).alloc (Nat.le_refl _) _
  have HB0 := Lib.hid hb0
  clear hb0
  go_enter Tryd.func23, Tryd.ntmps23
  go_wp2_with fail
  with_reducible refine (H.out.hc _).mono ?_
  rintro e w1 ⟨rfl, hb⟩
  obtain ⟨hc, hf⟩ := bcell hb
  have hz : w.heap.size < w1.heap.size := by have := hb.size; simp at this; omega
  have HB := Lib.hid ((HB0.out _).trans (hb.mono (by simp)))
  have HT1 := Lib.hid ((H.out.t0 _).below hb)
  clear hb
  go_wp2_with fail
  with_reducible refine (H.out.hk w1 HT1.out).mono ?_
  rintro e w2 ⟨rfl, hdr⟩
  have hb2 : Below w1.heap.size w1 w2 := by obtain ⟨n, rfl⟩ := hdr; exact Pa.below_drewN' _
  obtain ⟨hc2, hf2⟩ := bcell hb2
  have hz2 : w.heap.size < w2.heap.size := by have := hb2.size; omega
  have HB2 := Lib.hid (HB.out.trans (hb2.mono HB.out.size))
  have HT2 := Lib.hid (HT1.out.below hb2)
  clear hb2 hdr
  go_wp2_with fail
  with_reducible refine (H.out.hs1 w2).mono ?_
  rintro e w3 ⟨rfl, hb3⟩
  obtain ⟨hc3, hf3⟩ := bcell hb3
  have hz3 : w.heap.size < w3.heap.size := by have := hb3.size; omega
  have HB3 := Lib.hid (HB2.out.trans (hb3.mono HB2.out.size))
  have HT3 := Lib.hid (HT2.out.below hb3)
  clear hb3
  go_wp2_with fail
  with_reducible refine (H.out.hs2 w3).mono ?_
  rintro e w4 ⟨rfl, hb4⟩
  obtain ⟨hc4, hf4⟩ := bcell hb4
  have hz4 : w.heap.size < w4.heap.size := by have := hb4.size; omega
  have HB4 := Lib.hid (HB3.out.trans (hb4.mono HB3.out.size))
  have HT4 := Lib.hid (HT3.out.below hb4)
  clear hb4
  go_wp2_with fail
  with_reducible refine (H.out.hp w4 HT4.out).mono ?_
  rintro e w5 ⟨rfl, hb5⟩
  obtain ⟨hc5, hf5⟩ := bcell hb5
  have hz5 : w.heap.size < w5.heap.size := by have := hb5.size; omega
  have HB5 := Lib.hid (HB4.out.trans (hb5.mono HB4.out.size))
  clear hb5
  go_wp2
  have hbf := fun u0 u1 u2 u3 u4 o => (((((HB5.out.setCell (p := ⟨w.heap.size, 0, none⟩) (Nat.le_refl _) u0).setCell (p := ⟨w.heap.size, 1, none⟩) (Nat.le_refl _) u1).setCell (p := ⟨w.heap.size, 2, none⟩) (Nat.le_refl _) u2).setCell (p := ⟨w.heap.size, 3, none⟩) (Nat.le_refl _) u3).setCell (p := ⟨w.heap.size, 4, none⟩) (Nat.le_refl _) u4).alloc (by simp; omega) o
  exact bodyPost_ret (v := .tuple #[.agg #[.bool false, .string (bsl a), .int .i64 (sp : Nat), .string (bsl tn), .string (bsl se)], .bool true]) (by simp [results, Tryd.results23, go_sem, hc, hc2, hc3, hc4, hc5, hz, hz2, hz3, hz4, hz5]) rfl ⟨rfl, hbf _ _ _ _ _ _⟩
set_option maxRecDepth 100000 in
set_option maxHeartbeats 4000000 in
theorem readGuard_e0 (l a r c1 c2 nm se tn : By) (sp er : Nat) (w : World) (H : Hid (GuardIn l a r c1 c2 nm se tn true sp er w)) (hq : ((er : Int) == 0) = false) (hse : se = []) :
    Calls Tryd.prog 23 #[.string (bsl l)] w fun e w' => e = .returned (.tuple #[.agg #[.bool false, .string (bsl a), .int .i64 (sp : Nat), .string (bsl tn), .string (bsl se)], .bool false]) ∧ Below w.heap.size w w' := by
  have hb0 : ∀ cs, Below w.heap.size w (w.alloc (.cells cs 36)) := fun cs => (Below.refl _ _).alloc (Nat.le_refl _) _
  have HB0 := Lib.hid hb0
  clear hb0
  have t1 : ((bsl se).toList == []) = true := lit_eq hse
  have t2 : (bsl se).toList = [] := by rw [bsl_toList]; exact hse
  clear hse
  go_enter Tryd.func23, Tryd.ntmps23
  go_wp2_with fail
  with_reducible refine (H.out.hc _).mono ?_
  rintro e w1 ⟨rfl, hb⟩
  obtain ⟨hc, hf⟩ := bcell hb
  have hz : w.heap.size < w1.heap.size := by have := hb.size; simp at this; omega
  have HB := Lib.hid ((HB0.out _).trans (hb.mono (by simp)))
  have HT1 := Lib.hid ((H.out.t0 _).below hb)
  clear hb
  go_wp2_with fail
  with_reducible refine (H.out.hk w1 HT1.out).mono ?_
  rintro e w2 ⟨rfl, hdr⟩
  have hb2 : Below w1.heap.size w1 w2 := by obtain ⟨n, rfl⟩ := hdr; exact Pa.below_drewN' _
  obtain ⟨hc2, hf2⟩ := bcell hb2
  have hz2 : w.heap.size < w2.heap.size := by have := hb2.size; omega
  have HB2 := Lib.hid (HB.out.trans (hb2.mono HB.out.size))
  have HT2 := Lib.hid (HT1.out.below hb2)
  clear hb2 hdr
  go_wp2_with fail
  with_reducible refine (H.out.hs1 w2).mono ?_
  rintro e w3 ⟨rfl, hb3⟩
  obtain ⟨hc3, hf3⟩ := bcell hb3
  have hz3 : w.heap.size < w3.heap.size := by have := hb3.size; omega
  have HB3 := Lib.hid (HB2.out.trans (hb3.mono HB2.out.size))
  have HT3 := Lib.hid (HT2.out.below hb3)
  clear hb3
  go_wp2_with fail
  with_reducible refine (H.out.hs2 w3).mono ?_
  rintro e w4 ⟨rfl, hb4⟩
  obtain ⟨hc4, hf4⟩ := bcell hb4
  have hz4 : w.heap.size < w4.heap.size := by have := hb4.size; omega
  have HB4 := Lib.hid (HB3.out.trans (hb4.mono HB3.out.size))
  have HT4 := Lib.hid (HT3.out.below hb4)
  clear hb4
  go_wp2_with fail
  with_reducible refine (H.out.hp w4 HT4.out).mono ?_
  rintro e w5 ⟨rfl, hb5⟩
  obtain ⟨hc5, hf5⟩ := bcell hb5
  have hz5 : w.heap.size < w5.heap.size := by have := hb5.size; omega
  have HB5 := Lib.hid (HB4.out.trans (hb5.mono HB4.out.size))
  clear hb5
  go_wp2
  have hbf := fun u0 u1 u2 u3 u4 o => (((((HB5.out.setCell (p := ⟨w.heap.size, 0, none⟩) (Nat.le_refl _) u0).setCell (p := ⟨w.heap.size, 1, none⟩) (Nat.le_refl _) u1).setCell (p := ⟨w.heap.size, 2, none⟩) (Nat.le_refl _) u2).setCell (p := ⟨w.heap.size, 3, none⟩) (Nat.le_refl _) u3).setCell (p := ⟨w.heap.size, 4, none⟩) (Nat.le_refl _) u4).alloc (by simp; omega) o
  exact bodyPost_ret (v := .tuple #[.agg #[.bool false, .string (bsl a), .int .i64 (sp : Nat), .string (bsl tn), .string (bsl se)], .bool false]) (by simp [results, Tryd.results23, go_sem, hc, hc2, hc3, hc4, hc5, hz, hz2, hz3, hz4, hz5]) rfl ⟨rfl, hbf _ _ _ _ _ _⟩
set_option maxRecDepth 100000 in
set_option maxHeartbeats 4000000 in
theorem readGuard_e1 (l a r c1 c2 nm se tn : By) (sp er : Nat) (w : World) (H : Hid (GuardIn l a r c1 c2 nm se tn true sp er w)) (hq : ((er : Int) == 0) = true) (hse : se = []) :
    Calls Tryd.prog 23 #[.string (bsl l)] w fun e w' => e = .returned (.tuple #[.agg #[.bool false, .string (bsl a), .int .i64 (sp : Nat), .string (bsl tn), .string (bsl se)], .bool false]) ∧ Below w.heap.size w w' := by
  have hb0 : ∀ cs, Below w.heap.size w (w.alloc (.cells cs 36)) := fun cs => (Below.refl _ _).alloc (Nat.le_refl _) _
  have HB0 := Lib.hid hb0
  clear hb0
  have t1 : ((bsl se).toList == []) = true := lit_eq hse
  have t2 : (bsl se).toList = [] := by rw [bsl_toList]; exact hse
  clear hse
  go_enter Tryd.func23, Tryd.ntmps23
  go_wp2_with fail
  with_reducible refine (H.out.hc _).mono ?_
  rintro e w1 ⟨rfl, hb⟩
  obtain ⟨hc, hf⟩ := bcell hb
  have hz : w.heap.size < w1.heap.size := by have := hb.size; simp at this; omega
  have HB := Lib.hid ((HB0.out _).trans (hb.mono (by simp)))
  have HT1 := Lib.hid ((H.out.t0 _).below hb)
  clear hb
  go_wp2_with fail
  with_reducible refine (H.out.hk w1 HT1.out).mono ?_
  rintro e w2 ⟨rfl, hdr⟩
  have hb2 : Below w1.heap.size w1 w2 := by obtain ⟨n, rfl⟩ := hdr; exact Pa.below_drewN' _
  obtain ⟨hc2, hf2⟩ := bcell hb2
  have hz2 : w.heap.size < w2.heap.size := by have := hb2.size; omega
  have HB2 := Lib.hid (HB.out.trans (hb2.mono HB.out.size))
  have HT2 := Lib.hid (HT1.out.below hb2)
  clear hb2 hdr
  go_wp2_with fail
  with_reducible refine (H.out.hs1 w2).mono ?_
  rintro e w3 ⟨rfl, hb3⟩
  obtain ⟨hc3, hf3⟩ := bcell hb3
  have hz3 : w.heap.size < w3.heap.size := by have := hb3.size; omega
  have HB3 := Lib.hid (HB2.out.trans (hb3.mono HB2.out.size))
  have HT3 := Lib.hid (HT2.out.below hb3)
  clear hb3
  go_wp2_with fail
  with_reducible refine (H.out.hs2 w3).mono ?_
  rintro e w4 ⟨rfl, hb4⟩
  obtain ⟨hc4, hf4⟩ := bcell hb4
  have hz4 : w.heap.size < w4.heap.size := by have := hb4.size; omega
  have HB4 := Lib.hid (HB3.out.trans (hb4.mono HB3.out.size))
  have HT4 := Lib.hid (HT3.out.below hb4)
  clear hb4
  go_wp2_with fail
  with_reducible refine (H.out.hp w4 HT4.out).mono ?_
  rintro e w5 ⟨rfl, hb5⟩
  obtain ⟨hc5, hf5⟩ := bcell hb5
  have hz5 : w.heap.size < w5.heap.size := by have := hb5.size; omega
  have HB5 := Lib.hid (HB4.out.trans (hb5.mono HB4.out.size))
  clear hb5
  go_wp2
  have hbf := fun u0 u1 u2 u3 u4 o => (((((HB5.out.setCell (p := ⟨w.heap.size, 0, none⟩) (Nat.le_refl _) u0).setCell (p := ⟨w.heap.size, 1, none⟩) (Nat.le_refl _) u1).setCell (p := ⟨w.heap.size, 2, none⟩) (Nat.le_refl _) u2).setCell (p := ⟨w.heap.size, 3, none⟩) (Nat.le_refl _) u3).setCell (p := ⟨w.heap.size, 4, none⟩) (Nat.le_refl _) u4).alloc (by simp; omega) o
  exact bodyPost_ret (v := .tuple #[.agg #[.bool false, .string (bsl a), .int .i64 (sp : Nat), .string (bsl tn), .string (bsl se)], .bool false]) (by simp [results, Tryd.results23, go_sem, hc, hc2, hc3, hc4, hc5, hz, hz2, hz3, hz4, hz5]) rfl ⟨rfl, hbf _ _ _ _ _ _⟩
set_option maxRecDepth 100000 in
set_option maxHeartbeats 4000000 in
theorem readGuard_s0 (l a r c1 c2 nm se tn : By) (sp er : Nat) (w : World) (H : Hid (GuardIn l a r c1 c2 nm se tn true sp er w)) (hq : ((er : Int) == 0) = false) (hse : se ≠ []) :
    Calls Tryd.prog 23 #[.string (bsl l)] w fun e w' => e = .returned (.tuple #[.agg #[.bool false, .string (bsl a), .int .i64 (sp : Nat), .string (bsl tn), .string (bsl se)], .bool false]) ∧ Below w.heap.size w w' := by
  have hb0 : ∀ cs, Below w.heap.size w (w.alloc (.cells cs 36)) := fun cs => (Below.refl _ _).alloc (Nat.le_refl _) _
  have HB0 := Lib.hid hb0
  clear hb0
  obtain ⟨t1, t2⟩ := empty_no (s := bsl se) (by rw [bsl_size]; exact List.length_pos_iff.2 hse)
  clear hse
  go_enter Tryd.func23, Tryd.ntmps23
  go_wp2_with fail
  with_reducible refine (H.out.hc _).mono ?_
  rintro e w1 ⟨rfl, hb⟩
  obtain ⟨hc, hf⟩ := bcell hb
  have hz : w.heap.size < w1.heap.size := by have := hb.size; simp at this; omega
  have HB := Lib.hid ((HB0.out _).trans (hb.mono (by simp)))
  have HT1 := Lib.hid ((H.out.t0 _).below hb)
  clear hb
  go_wp2_with fail
  with_reducible refine (H.out.hk w1 HT1.out).mono ?_
  rintro e w2 ⟨rfl, hdr⟩
  have hb2 : Below w1.heap.size w1 w2 := by obtain ⟨n, rfl⟩ := hdr; exact Pa.below_drewN' _
  obtain ⟨hc2, hf2⟩ := bcell hb2
  have hz2 : w.heap.size < w2.heap.size := by have := hb2.size; omega
  have HB2 := Lib.hid (HB.out.trans (hb2.mono HB.out.size))
  have HT2 := Lib.hid (HT1.out.below hb2)
  clear hb2 hdr
  go_wp2_with fail
  with_reducible refine (H.out.hs1 w2).mono ?_
  rintro e w3 ⟨rfl, hb3⟩
  obtain ⟨hc3, hf3⟩ := bcell hb3
  have hz3 : w.heap.size < w3.heap.size := by have := hb3.size; omega
  have HB3 := Lib.hid (HB2.out.trans (hb3.mono HB2.out.size))
  have HT3 := Lib.hid (HT2.out.below hb3)
  clear hb3
  go_wp2_with fail
  with_reducible refine (H.out.hs2 w3).mono ?_
  rintro e w4 ⟨rfl, hb4⟩
  obtain ⟨hc4, hf4⟩ := bcell hb4
  have hz4 : w.heap.size < w4.heap.size := by have := hb4.size; omega
  have HB4 := Lib.hid (HB3.out.trans (hb4.mono HB3.out.size))
  have HT4 := Lib.hid (HT3.out.below hb4)
  clear hb4
  go_wp2_with fail
  with_reducible refine (H.out.hp w4 HT4.out).mono ?_
  rintro e w5 ⟨rfl, hb5⟩
  obtain ⟨hc5, hf5⟩ := bcell hb5
  have hz5 : w.heap.size < w5.heap.size := by have := hb5.size; omega
  have HB5 := Lib.hid (HB4.out.trans (hb5.mono HB4.out.size))
  clear hb5
  go_wp2
  have hbf := fun u0 u1 u2 u3 u4 o => (((((HB5.out.setCell (p := ⟨w.heap.size, 0, none⟩) (Nat.le_refl _) u0).setCell (p := ⟨w.heap.size, 1, none⟩) (Nat.le_refl _) u1).setCell (p := ⟨w.heap.size, 2, none⟩) (Nat.le_refl _) u2).setCell (p := ⟨w.heap.size, 3, none⟩) (Nat.le_refl _) u3).setCell (p := ⟨w.heap.size, 4, none⟩) (Nat.le_refl _) u4).alloc (by simp; omega) o
  exact bodyPost_ret (v := .tuple #[.agg #[.bool false, .string (bsl a), .int .i64 (sp : Nat), .string (bsl tn), .string (bsl se)], .bool false]) (by simp [results, Tryd.results23, go_sem, hc, hc2, hc3, hc4, hc5, hz, hz2, hz3, hz4, hz5]) rfl ⟨rfl, hbf _ _ _ _ _ _⟩
set_option maxRecDepth 100000 in
set_option maxHeartbeats 4000000 in
theorem readGuard_s1 (l a r c1 c2 nm se tn : By) (sp er : Nat) (w : World) (H : Hid (GuardIn l a r c1 c2 nm se tn true sp er w)) (hq : ((er : Int) == 0) = true) (hse : se ≠ []) :
    Calls Tryd.prog 23 #[.string (bsl l)] w fun e w' => e = .returned (.tuple #[.agg #[.bool false, .string (bsl a), .int .i64 (sp : Nat), .string (bsl tn), .string (bsl se)], .bool true]) ∧ Below w.heap.size w w' := by
  have hb0 : ∀ cs, Below w.heap.size w (w.alloc (.cells cs 36)) := fun cs => (Below.refl _ _).alloc (Nat.le_refl _) _
  have HB0 := Lib.hid hb0
  clear hb0
  obtain ⟨t1, t2⟩ := empty_no (s := bsl se) (by rw [bsl_size]; exact List.length_pos_iff.2 hse)
  clear hse
  go_enter Tryd.func23, Tryd.ntmps23
  go_wp2_with fail
  with_reducible refine (H.out.hc _).mono ?_
  rintro e w1 ⟨rfl, hb⟩
  obtain ⟨hc, hf⟩ := bcell hb
  have hz : w.heap.size < w1.heap.size := by have := hb.size; simp at this; omega
  have HB := Lib.hid ((HB0.out _).trans (hb.mono (by simp)))
  have HT1 := Lib.hid ((H.out.t0 _).below hb)
  clear hb
  go_wp2_with fail
  with_reducible refine (H.out.hk w1 HT1.out).mono ?_
  rintro e w2 ⟨rfl, hdr⟩
  have hb2 : Below w1.heap.size w1 w2 := by obtain ⟨n, rfl⟩ := hdr; exact Pa.below_drewN' _
  obtain ⟨hc2, hf2⟩ := bcell hb2
  have hz2 : w.heap.size < w2.heap.size := by have := hb2.size; omega
  have HB2 := Lib.hid (HB.out.trans (hb2.mono HB.out.size))
  have HT2 := Lib.hid (HT1.out.below hb2)
  clear hb2 hdr
  go_wp2_with fail
  with_reducible refine (H.out.hs1 w2).mono ?_
  rintro e w3 ⟨rfl, hb3⟩
  obtain ⟨hc3, hf3⟩ := bcell hb3
  have hz3 : w.heap.size < w3.heap.size := by have := hb3.size; omega
  have HB3 := Lib.hid (HB2.out.trans (hb3.mono HB2.out.size))
  have HT3 := Lib.hid (HT2.out.below hb3)
  clear hb3
  go_wp2_with fail
  with_reducible refine (H.out.hs2 w3).mono ?_
  rintro e w4 ⟨rfl, hb4⟩
  obtain ⟨hc4, hf4⟩ := bcell hb4
  have hz4 : w.heap.size < w4.heap.size := by have := hb4.size; omega
  have HB4 := Lib.hid (HB3.out.trans (hb4.mono HB3.out.size))
  have HT4 := Lib.hid (HT3.out.below hb4)
  clear hb4
  go_wp2_with fail
  with_reducible refine (H.out.hp w4 HT4.out).mono ?_
  rintro e w5 ⟨rfl, hb5⟩
  obtain ⟨hc5, hf5⟩ := bcell hb5
  have hz5 : w.heap.size < w5.heap.size := by have := hb5.size; omega
  have HB5 := Lib.hid (HB4.out.trans (hb5.mono HB4.out.size))
  clear hb5
  go_wp2
  have hbf := fun u0 u1 u2 u3 u4 o => (((((HB5.out.setCell (p := ⟨w.heap.size, 0, none⟩) (Nat.le_refl _) u0).setCell (p := ⟨w.heap.size, 1, none⟩) (Nat.le_refl _) u1).setCell (p := ⟨w.heap.size, 2, none⟩) (Nat.le_refl _) u2).setCell (p := ⟨w.heap.size, 3, none⟩) (Nat.le_refl _) u3).setCell (p := ⟨w.heap.size, 4, none⟩) (Nat.le_refl _) u4).alloc (by simp; omega) o
  exact bodyPost_ret (v := .tuple #[.agg #[.bool false, .string (bsl a), .int .i64 (sp : Nat), .string (bsl tn), .string (bsl se)], .bool true]) (by simp [results, Tryd.results23, go_sem, hc, hc2, hc3, hc4, hc5, hz, hz2, hz3, hz4, hz5]) rfl ⟨rfl, hbf _ _ _ _ _ _⟩
theorem readGuard_any (l : By) (w : World) (hs : l.length ≤ 100000) (ht : Tb w) : Calls Tryd.prog 23 #[.string (bsl l)] w fun e w' => e = .returned (.tuple #[GudV (mkGud false l), .bool (gudOK l)]) ∧ Below w.heap.size w w' := by
  have hl := cw_len l
  have hk1 := Ti.cut_len (cw l).2 [124]
  have hk2 := Ti.cut_len2 (cw l).2 [124]
  have hk3 := tr_len (Lib.cut (cw l).2 [124]).1
  have H : Hid (GuardIn l (cw l).1 (cw l).2 (Lib.cut (cw l).2 [124]).1 (Lib.cut (cw l).2 [124]).2.1 (tr (Lib.cut (cw l).2 [124]).1) (tr (Lib.cut (cw l).2 [124]).2.1) (Ti.parse (tr (Lib.cut (cw l).2 [124]).1)).1.2 (Lib.cut (cw l).2 [124]).2.2 (Ti.parse (tr (Lib.cut (cw l).2 [124]).1)).1.1 (Ti.parse (tr (Lib.cut (cw l).2 [124]).1)).2 w) := Lib.hid
    { t0 := fun cs => ht.below ((Below.refl _ _).alloc (Nat.le_refl _) _)
      hc := fun W => cutWord_any l W (by omega)
      hk := fun W h => by
        obtain ⟨m, hm⟩ := h.ti.m
        exact Tryd.strings_Cut (bsl (cw l).2) ⟨#[124]⟩ m W (by rw [bsl_size]; omega) hm
      hs1 := fun W => TrimL _ W (by omega)
      hs2 := fun W => TrimL _ W (by omega)
      hp := fun W h => TParse _ W (by omega) h }
  have hok : gudOK l = (((Ti.parse (tr (Lib.cut (cw l).2 [124]).1)).2 : Int) == 0 && !((Lib.cut (cw l).2 [124]).2.2 && decide (tr (Lib.cut (cw l).2 [124]).2.1 = []))) := by unfold gudOK forgot; rw [nat_eq0]
  have hm : GudV (mkGud false l) = .agg #[.bool false, .string (bsl (cw l).1), .int .i64 ((Ti.parse (tr (Lib.cut (cw l).2 [124]).1)).1.1 : Nat), .string (bsl (Ti.parse (tr (Lib.cut (cw l).2 [124]).1)).1.2), .string (bsl (tr (Lib.cut (cw l).2 [124]).2.1))] := by simp only [GudV, mkGud]
  rw [hok, hm]
  generalize (Ti.parse (tr (Lib.cut (cw l).2 [124]).1)).1.1 = sp at H ⊢
  generalize (Ti.parse (tr (Lib.cut (cw l).2 [124]).1)).1.2 = tn at H ⊢
  generalize (Ti.parse (tr (Lib.cut (cw l).2 [124]).1)).2 = er at H ⊢
  generalize tr (Lib.cut (cw l).2 [124]).2.1 = se at H ⊢
  generalize (Lib.cut (cw l).2 [124]).2.2 = cb at H ⊢
  cases cb
  · cases hq : ((er : Int) == 0)
    · exact readGuard_f0 _ _ _ _ _ _ _ _ _ _ w H hq
    · exact readGuard_f1 _ _ _ _ _ _ _ _ _ _ w H hq
  · by_cases hse : se = []
    · rw [decide_eq_true hse]
      cases hq : ((er : Int) == 0)
      · exact readGuard_e0 _ _ _ _ _ _ _ _ _ _ w H hq hse
      · exact readGuard_e1 _ _ _ _ _ _ _ _ _ _ w H hq hse
    · rw [decide_eq_false hse]
      cases hq : ((er : Int) == 0)
      · exact readGuard_s0 _ _ _ _ _ _ _ _ _ _ w H hq hse
      · exact readGuard_s1 _ _ _ _ _ _ _ _ _ _ w H hq hse
end Go.Proofs.YtbibekojbjonoaaDoor.Po
