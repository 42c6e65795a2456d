/-
  The law TreeLists.
-/
import Derived.Test.YtfljcockbnpadaaTrApp
namespace Go.Proofs.Ytfljcockbnpadaa.Tr
open Go.RowKit

theorem depM_append : ∀ a b : List Nd, depM (a ++ b) = max (depM a) (depM b)
  | [], b => by simp [depM]
  | n :: r, b => by rw [List.cons_append, depM, depM, depM_append r b]; omega
theorem dep_append (a b : List Nd) : dep (a ++ b) = max (dep a) (dep b) := by
  have h := depM_append a b
  cases a with
  | nil => simp [dep]
  | cons x r =>
    cases b with
    | nil => simp [dep]
    | cons y q => unfold dep at *; simp only [List.cons_append, List.isEmpty_cons, Bool.false_eq_true, if_false] at *; omega
theorem ex_list (x : List UInt8) : ∃ S : ByteArray, (⟨x.toArray⟩ : ByteArray) = S ∧ S.data.toList = x := ⟨_, rfl, rfl⟩
/-- Two lists, one behind the other, in a row of the call's own. -/
theorem run_two {d : Nat} {w : World} {B : Nat} {u u2 : Value} {l m : List Nd} (ty : TypeId) (h : LRd (d + 1) w B u l) (h2 : LRd (d + 1) w B u2 m) (hB : B ≤ w.heap.size) (hz : sz l ≤ 1048576) (hz2 : sz m ≤ 1048576) :
    ∃ A c w1 A' c' w2, (Builtin.append_ #[22, 22] ty #[.slice none 0 0, u]).run Try.prog w = .ok (.slice A l.length c) w1 ∧
      (Builtin.append_ #[22, 22] ty #[.slice A l.length c, u2]).run Try.prog w1 = .ok (.slice A' (l.length + m.length) c') w2 ∧
      Below w.heap.size w w2 ∧ LRd (d + 1) w2 w2.heap.size (.slice A' (l.length + m.length) c') (l ++ m) := by
  obtain ⟨A, c, w1, ys, h1, r1, b1, o1, c1⟩ := run_copyN ty h hB
  have hl : l.length ≤ 1048576 := Nat.le_trans (sz_len l) hz
  obtain ⟨v', w2, zs, h3, c2, o2, g2⟩ := run_appN ty o1 (h2.below b1 hB (Nat.le_refl _)) (by omega) b1.size
  have hb2 : Below w.heap.size w1 w2 := (Below.refl _ _).grown g2 b1.size (fun k e => by
    rcases o1.2 with ⟨e0, _⟩ | ⟨g, cap, cur, e0, hg, _⟩
    · rw [e0] at e; simp [Value.ownBlock] at e
    · rw [e0] at e; simp [Value.ownBlock] at e; omega)
  have hb : Below w.heap.size w w2 := b1.trans hb2
  have hc : Cells (LRd d w2 w2.heap.size) (ARd d w2 w2.heap.size) (ys ++ zs) (l ++ m) :=
    Cells.append (c1.imp (fun _ _ q => q.below hb hB (Nat.le_trans hB hb.size)) (fun _ _ q => ARd.below q hb hB (Nat.le_trans hB hb.size)))
      (c2.imp (fun _ _ q => q.below hb2 hB (Nat.le_trans hB hb.size)) (fun _ _ q => ARd.below q hb2 hB (Nat.le_trans hB hb.size)))
  have hr : LRd (d + 1) w2 w2.heap.size v' (l ++ m) := own_rd (by rw [List.length_append]; exact o2) hc (by rw [sz_append]; omega) rfl
  obtain ⟨A', c', rfl⟩ := hr.form
  rw [List.length_append] at h3 hr
  exact ⟨A, c, w1, A', c', w2, h1, h3, hb, hr⟩

set_option maxRecDepth 100000 in
set_option maxHeartbeats 8000000 in
theorem TreeLists_0 (d : Nat) (v : Value) (l : List Nd) (v2 : Value) (m : List Nd) (w : World) (h : LRd (d + 1) w w.heap.size v l) (h2 : LRd (d + 1) w w.heap.size v2 m) (hz : sz l ≤ 1048576) (hz2 : sz m ≤ 1048576) :
    Calls Try.prog 7 #[v, v2] w fun e w' => e = .returned (.bool true) ∧ Below w.heap.size w w' := by
  obtain ⟨A, c, rfl⟩ := h.form
  obtain ⟨A2, c2, rfl⟩ := h2.form
  have H0 := Lib.hid (And.intro h h2); clear h h2
  have hsl : (src l).length ≤ 28311552 := Nat.le_trans (src_len l) (by omega)
  have hsm : (src m).length ≤ 28311552 := Nat.le_trans (src_len m) (by omega)
  have hcl : cnt l ≤ 1048576 := Nat.le_trans (cnt_le l) hz
  have hcm : cnt m ≤ 1048576 := Nat.le_trans (cnt_le m) hz2
  go_enter Try.func7, Try.ntmps7
  go_wp2_with fail
  refine (large_any (d + 1) w.heap.size _ l w H0.out.1 (Nat.le_refl _)).mono ?_
  rintro e w1 ⟨rfl, hb⟩
  have B1 := Lib.hid hb; clear hb
  cases big l with
  | true =>
    go_wp2_with fail
    refine (known_any w1).mono ?_
    rintro e w4 ⟨rfl, hb⟩
    have B4 := Lib.hid (B1.out.trans (hb.mono B1.out.size)); clear hb
    go_wp2_with fail
    go_ret
    exact ⟨rfl, B4.out⟩
  | false =>
    go_wp2_with fail
    refine (large_any (d + 1) w.heap.size _ m w1 (H0.out.2.below B1.out (Nat.le_refl _) (Nat.le_refl _)) B1.out.size).mono ?_
    rintro e w2 ⟨rfl, hb⟩
    have B2 := Lib.hid (B1.out.trans (hb.mono B1.out.size)); clear hb
    cases big m with
    | true =>
      go_wp2_with fail
      refine (known_any w2).mono ?_
      rintro e w4 ⟨rfl, hb⟩
      have B4 := Lib.hid (B2.out.trans (hb.mono B2.out.size)); clear hb
      go_wp2_with fail
      go_ret
      exact ⟨rfl, B4.out⟩
    | false =>
      obtain ⟨A3, c3, w3, A4, c4, w4, hr1, hr2, hb4, hR⟩ := run_two 22 (H0.out.1.below B2.out (Nat.le_refl _) (Nat.le_refl _)) (H0.out.2.below B2.out (Nat.le_refl _) (Nat.le_refl _)) B2.out.size hz hz2
      have B4 := Lib.hid (B2.out.trans (hb4.mono B2.out.size))
      have R4 := Lib.hid hR; clear hb4 hR
      have P1 := Lib.hid hr1; have P2 := Lib.hid hr2; clear hr1 hr2
      go_wp2_with (first | (at_builtin; refine wpList_app P1.out rfl _ _ rfl rfl rfl rfl ?_) | (at_builtin; refine wpList_app P2.out rfl _ _ rfl rfl rfl rfl ?_))
      refine (Source_any (d + 1) _ _ (l ++ m) w4 R4.out (Nat.le_refl _)).mono ?_
      rintro e w5 ⟨rfl, hb⟩
      obtain ⟨X, hX1, hX⟩ := ex_list (src (l ++ m))
      rw [hX1]
      have C5 := Lib.hid hb
      have HX := Lib.hid hX
      clear hb hX1 hX
      have B5 := Lib.hid (B4.out.trans (C5.out.mono B4.out.size))
      go_wp2_with fail
      refine (Source_any (d + 1) _ _ l w5 (H0.out.1.below B5.out (Nat.le_refl _) (Nat.le_refl _)) B5.out.size).mono ?_
      rintro e w6 ⟨rfl, hb⟩
      obtain ⟨S, hS1, hS⟩ := ex_list (src l)
      rw [hS1]
      have hSs : S.size ≤ 28311552 := by rw [size_of hS]; exact hsl
      have C6 := Lib.hid (C5.out.trans (hb.mono C5.out.size))
      have B6 := Lib.hid (B5.out.trans (hb.mono B5.out.size))
      have HS := Lib.hid hS
      clear hb hS1 hS
      go_wp2_with fail
      refine (Source_any (d + 1) _ _ m w6 (H0.out.2.below B6.out (Nat.le_refl _) (Nat.le_refl _)) B6.out.size).mono ?_
      rintro e w7 ⟨rfl, hb⟩
      obtain ⟨M, hM1, hM⟩ := ex_list (src m)
      rw [hM1]
      have hMs : M.size ≤ 28311552 := by rw [size_of hM]; exact hsm
      have C7 := Lib.hid (C6.out.trans (hb.mono C6.out.size))
      have B7 := Lib.hid (B6.out.trans (hb.mono B6.out.size))
      have HM := Lib.hid hM
      clear hb hM1 hM
      obtain rfl : X = S ++ M := ba_ext HX.out (by rw [cat_list, HS.out, HM.out, src_append])
      clear HX
      go_wp2_with fail
      refine (counts (d + 1) _ _ (l ++ m) w7 (R4.out.below C7.out (Nat.le_refl _) (Nat.le_refl _)) C7.out.size).mono ?_
      rintro e w8 ⟨rfl, hb⟩
      rw [cnt_append]
      have C8 := Lib.hid (C7.out.trans (hb.mono C7.out.size))
      have B8 := Lib.hid (B7.out.trans (hb.mono B7.out.size)); clear hb
      go_wp2_with fail
      refine (counts (d + 1) _ _ l w8 (H0.out.1.below B8.out (Nat.le_refl _) (Nat.le_refl _)) B8.out.size).mono ?_
      rintro e w9 ⟨rfl, hb⟩
      have C9 := Lib.hid (C8.out.trans (hb.mono C8.out.size))
      have B9 := Lib.hid (B8.out.trans (hb.mono B8.out.size)); clear hb
      go_wp2_with fail
      refine (counts (d + 1) _ _ m w9 (H0.out.2.below B9.out (Nat.le_refl _) (Nat.le_refl _)) B9.out.size).mono ?_
      rintro e w10 ⟨rfl, hb⟩
      have C10 := Lib.hid (C9.out.trans (hb.mono C9.out.size))
      have B10 := Lib.hid (B9.out.trans (hb.mono B9.out.size)); clear hb
      go_wp2_with fail
      refine (depths (d + 1) _ _ (l ++ m) w10 (R4.out.below C10.out (Nat.le_refl _) (Nat.le_refl _)) C10.out.size).mono ?_
      rintro e w11 ⟨rfl, hb⟩
      rw [dep_append]
      have B11 := Lib.hid (B10.out.trans (hb.mono B10.out.size)); clear hb
      go_wp2_with fail
      refine (depths (d + 1) _ _ l w11 (H0.out.1.below B11.out (Nat.le_refl _) (Nat.le_refl _)) B11.out.size).mono ?_
      rintro e w12 ⟨rfl, hb⟩
      have B12 := Lib.hid (B11.out.trans (hb.mono B11.out.size)); clear hb
      go_wp2_with fail
      refine (depths (d + 1) _ _ m w12 (H0.out.2.below B12.out (Nat.le_refl _) (Nat.le_refl _)) B12.out.size).mono ?_
      rintro e w13 ⟨rfl, hb⟩
      have B13 := Lib.hid (B12.out.trans (hb.mono B12.out.size)); clear hb
      go_wp2_with fail
      refine (known_any w13).mono ?_
      rintro e w14 ⟨rfl, hb⟩
      have B14 := Lib.hid (B13.out.trans (hb.mono B13.out.size)); clear hb
      go_wp2_with fail
      go_ret
      exact ⟨rfl, B14.out⟩
theorem TreeLists_any (d B : Nat) (v : Value) (l : List Nd) (d2 B2 : Nat) (v2 : Value) (m : List Nd) (w : World) (h : LRd d w B v l) (h2 : LRd d2 w B2 v2 m) (hB : B ≤ w.heap.size) (hB2 : B2 ≤ w.heap.size) (hz : sz l ≤ 1048576) (hz2 : sz m ≤ 1048576) :
    Calls Try.prog 7 #[v, v2] w fun e w' => e = .returned (.bool true) ∧ Below w.heap.size w w' :=
  TreeLists_0 (max d d2) v l v2 m w ((h.more hB).deep (by omega)) ((h2.more hB2).deep (by omega)) hz hz2
end Go.Proofs.Ytfljcockbnpadaa.Tr
