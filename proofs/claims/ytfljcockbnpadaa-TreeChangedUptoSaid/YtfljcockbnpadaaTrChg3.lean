/-
  The law TreeChanged: kids, arguments, a node more.
-/
import Derived.Test.YtfljcockbnpadaaTrChg
import Derived.Test.YtfljcockbnpadaaTrSet2
namespace Go.Proofs.Ytfljcockbnpadaa.Tr
open Go.RowKit

set_option maxRecDepth 100000 in
set_option maxHeartbeats 8000000 in
theorem TreeChanged_3 (d : Nat) (v : Value) (l : List Nd) (i how : Int) (w : World) (h : LRd (d + 1) w w.heap.size v l) (hz : sz l ≤ 1048576) (hl : 0 < l.length) (k : Nat) (hk : (bits .and .i64 i 65535).tmod (l.length : Int) = (k : Int)) (hkl : k < l.length) (x : Nd) (hx : l[k]? = some x) (hh : bits .and .i64 how 7 = 3) :
    Calls Try.prog 5 #[v, .int .i64 i, .int .i64 how] w fun e w' => e = .returned (.bool true) ∧ Below w.heap.size w w' := by
  obtain ⟨A, c, rfl⟩ := h.form
  have H0 := Lib.hid h; clear h
  have hne : ¬ (l.length : Int) = 0 := by omega
  have hne2 : ((l.length : Int) == 0) = false := by rw [beq_eq_false_iff_ne]; exact hne
  go_enter Try.func5, Try.ntmps5
  go_wp2_with fail
  refine (large_any (d + 1) w.heap.size _ l w H0.out (Nat.le_refl _)).mono ?_
  rintro e w1 ⟨rfl, hb⟩
  have B1 := Lib.hid hb; clear hb
  cases big l with
  | true =>
    go_wp2_with fail
    refine (known_any w1).mono ?_
    rintro e w4 ⟨rfl, hb⟩
    have B4 := Lib.hid (B1.out.trans (hb.mono B1.out.size)); clear hb
    go_wp2_with fail
    go_ret
    exact ⟨rfl, B4.out⟩
  | false =>
    obtain ⟨g, c2, w2, hr, cp, hc1, hc2⟩ := copy_cp 22 (H0.out.below B1.out (Nat.le_refl _) B1.out.size) hl
    obtain ⟨vk, va, ⟨a0, b0⟩, ⟨a1, b1⟩, ⟨a2, b2⟩, ⟨a3, b3⟩, ⟨a4, b4⟩, fk, ft, rk, ra⟩ := cp.at hx
    have P1 := Lib.hid hr; clear hr
    have hlk : l.length ≤ 1048576 := Nat.le_trans (sz_len l) hz
    have hsx : szN x ≤ 1048576 := Nat.le_trans (sz_mem (List.mem_of_getElem? hx)) hz
    rw [szN_eq] at hsx
    obtain ⟨Ak, ck, rfl⟩ := rk.form
    obtain ⟨A5, c5, w5, g6, c6, w6, ys, hr2, hr3, hb6, hg6, ho6, hcc⟩ := run_moreN 22 (rk.deep1.below cp.bl (Nat.le_refl _) (Nat.le_refl _)) cp.bl.size
    have hcc' : Cells (LRd (d + 1) w1 w1.heap.size) (ARd (d + 1) w1 w1.heap.size) ys (x.kids ++ [zN]) := hcc.imp (fun _ _ q => q.imp (Nat.le_refl _) (fun p hp => (cp.bl.cell hp).symm)) (fun _ _ q => ARd'.imp q (Nat.le_refl _) (fun _ _ q => q.imp (Nat.le_refl _) (fun p hp => (cp.bl.cell hp).symm)) (fun p hp => (cp.bl.cell hp).symm))
    have hs := sz_set (n' := .mk x.kind x.tag x.text (x.kids ++ [zN]) x.args) hx
    have hzz : sz (x.kids ++ [zN]) = sz x.kids + 1 := by rw [sz_append]; simp [sz, szN, szA, zN, ByteArray.size]
    rw [szN_mk, szN_eq x, hzz] at hs
    have HE := Lib.hid (ne_of (set_ne (n' := .mk x.kind x.tag x.text (x.kids ++ [zN]) x.args) hx (fun e => by have h := congrArg (fun n => n.kids.length) e; simp [Nd.kids] at h)))
    obtain ⟨hR, hB⟩ := cp.put_kids hx hb6 (by simp) hg6 ho6 hcc' (by rw [hzz]; omega) (by omega)
    have q6 := (cp.below hb6).at hx
    obtain ⟨_, _, _, _, _, ⟨d3, e3⟩, _⟩ := q6
    have R2 := Lib.hid hR
    have B2 := Lib.hid (B1.out.trans (hB.mono B1.out.size))
    have P2 := Lib.hid hr2; have P3 := Lib.hid hr3
    clear hR hB hr2 hr3 cp hs hzz hcc hcc' ho6 rk ra fk ft hb6
    go_wp2_with (first | (at_builtin; refine wpList_app P1.out rfl (.const (.slice none 0 0)) (.tmp 17) rfl rfl rfl rfl ?_; clear P1) | (at_builtin; refine wpList_app P2.out rfl (.const (.slice none 0 0)) (.tmp 68) rfl rfl rfl rfl ?_; clear P2) | (at_builtin; refine wpList_app P3.out rfl (.tmp 69) (.tmp 71) rfl rfl rfl rfl ?_; clear P3))
    generalize (w6.setCell ⟨g, k * 5 + 3, none⟩ (.slice (some ⟨g6, 0, none⟩) (x.kids.length + 1) c6)) = W at R2 B2 ⊢
    refine (equals (d + 3) _ _ _ l _ W ((H0.out.below B2.out (Nat.le_refl _) B2.out.size).deep (by omega)) R2.out (Nat.le_refl _)).mono ?_
    rintro e w3 ⟨rfl, hb⟩
    rw [HE.out.1]
    have R3 := Lib.hid (R2.out.below hb (Nat.le_refl _) hb.size)
    have B3 := Lib.hid (B2.out.trans (hb.mono B2.out.size)); clear hb
    go_wp2_with fail
    refine (equals (d + 3) _ _ _ _ l w3 R3.out ((H0.out.below B3.out (Nat.le_refl _) B3.out.size).deep (by omega)) (Nat.le_refl _)).mono ?_
    rintro e w4 ⟨rfl, hb⟩
    rw [HE.out.2]
    have B4 := Lib.hid (B3.out.trans (hb.mono B3.out.size)); clear hb
    go_wp2_with fail
    refine (known_any w4).mono ?_
    rintro e w5 ⟨rfl, hb⟩
    have B5 := Lib.hid (B4.out.trans (hb.mono B4.out.size)); clear hb
    go_wp2_with fail
    go_ret
    exact ⟨rfl, B5.out⟩

set_option maxRecDepth 100000 in
set_option maxHeartbeats 8000000 in
theorem TreeChanged_4 (d : Nat) (v : Value) (l : List Nd) (i how : Int) (w : World) (h : LRd (d + 1) w w.heap.size v l) (hz : sz l ≤ 1048576) (hl : 0 < l.length) (k : Nat) (hk : (bits .and .i64 i 65535).tmod (l.length : Int) = (k : Int)) (hkl : k < l.length) (x : Nd) (hx : l[k]? = some x) (hh : bits .and .i64 how 7 = 4) :
    Calls Try.prog 5 #[v, .int .i64 i, .int .i64 how] w fun e w' => e = .returned (.bool true) ∧ Below w.heap.size w w' := by
  obtain ⟨A, c, rfl⟩ := h.form
  have H0 := Lib.hid h; clear h
  have hne : ¬ (l.length : Int) = 0 := by omega
  have hne2 : ((l.length : Int) == 0) = false := by rw [beq_eq_false_iff_ne]; exact hne
  go_enter Try.func5, Try.ntmps5
  go_wp2_with fail
  refine (large_any (d + 1) w.heap.size _ l w H0.out (Nat.le_refl _)).mono ?_
  rintro e w1 ⟨rfl, hb⟩
  have B1 := Lib.hid hb; clear hb
  cases big l with
  | true =>
    go_wp2_with fail
    refine (known_any w1).mono ?_
    rintro e w4 ⟨rfl, hb⟩
    have B4 := Lib.hid (B1.out.trans (hb.mono B1.out.size)); clear hb
    go_wp2_with fail
    go_ret
    exact ⟨rfl, B4.out⟩
  | false =>
    obtain ⟨g, c2, w2, hr, cp, hc1, hc2⟩ := copy_cp 22 (H0.out.below B1.out (Nat.le_refl _) B1.out.size) hl
    obtain ⟨vk, va, ⟨a0, b0⟩, ⟨a1, b1⟩, ⟨a2, b2⟩, ⟨a3, b3⟩, ⟨a4, b4⟩, fk, ft, rk, ra⟩ := cp.at hx
    have P1 := Lib.hid hr; clear hr
    have hlk : l.length ≤ 1048576 := Nat.le_trans (sz_len l) hz
    have hsx : szN x ≤ 1048576 := Nat.le_trans (sz_mem (List.mem_of_getElem? hx)) hz
    rw [szN_eq] at hsx
    obtain ⟨Ak, ck, rfl⟩ := rk.form
    obtain ⟨Aa, ca, rfl⟩ := ARd.form ra
    obtain ⟨A5, c5, w5, g6, c6, w6, ys, hr2, hr3, hb6, hg6, ho6, hcc⟩ := run_moreA 28 (ARd.below ra cp.bl (Nat.le_refl _) (Nat.le_refl _)) cp.bl.size
    have hcc' : CellsA (LRd (d + 1) w1 w1.heap.size) ys (x.args ++ [zA]) := hcc.imp (fun _ _ q => q.imp (Nat.le_refl _) (fun p hp => (cp.bl.cell hp).symm))
    have hs := sz_set (n' := .mk x.kind x.tag x.text x.kids (x.args ++ [zA])) hx
    have hzz : szA (x.args ++ [zA]) = szA x.args + 1 := by rw [szA_append]; simp [sz, szG, szA, zA]
    rw [szN_mk, szN_eq x, hzz] at hs
    have HE := Lib.hid (ne_of (set_ne (n' := .mk x.kind x.tag x.text x.kids (x.args ++ [zA])) hx (fun e => by have h := congrArg (fun n => n.args.length) e; simp [Nd.args] at h)))
    obtain ⟨hR, hB⟩ := cp.put_args hx hb6 (by simp) hg6 ho6 hcc' (by rw [hzz]; omega) (by omega)
    have q6 := (cp.below hb6).at hx
    obtain ⟨_, _, _, _, _, _, ⟨d3, e3⟩, _⟩ := q6
    have R2 := Lib.hid hR
    have B2 := Lib.hid (B1.out.trans (hB.mono B1.out.size))
    have P2 := Lib.hid hr2; have P3 := Lib.hid hr3
    clear hR hB hr2 hr3 cp hs hzz hcc hcc' ho6 rk ra fk ft hb6
    go_wp2_with (first | (at_builtin; refine wpList_app P1.out rfl (.const (.slice none 0 0)) (.tmp 17) rfl rfl rfl rfl ?_; clear P1) | (at_builtin; refine wpList_app P2.out rfl (.const (.slice none 0 0)) (.tmp 81) rfl rfl rfl rfl ?_; clear P2) | (at_builtin; refine wpList_app P3.out rfl (.tmp 82) (.tmp 84) rfl rfl rfl rfl ?_; clear P3))
    generalize (w6.setCell ⟨g, k * 5 + 4, none⟩ (.slice (some ⟨g6, 0, none⟩) (x.args.length + 1) c6)) = W at R2 B2 ⊢
    refine (equals (d + 2) _ _ _ l _ W ((H0.out.below B2.out (Nat.le_refl _) B2.out.size).deep (by omega)) R2.out (Nat.le_refl _)).mono ?_
    rintro e w3 ⟨rfl, hb⟩
    rw [HE.out.1]
    have R3 := Lib.hid (R2.out.below hb (Nat.le_refl _) hb.size)
    have B3 := Lib.hid (B2.out.trans (hb.mono B2.out.size)); clear hb
    go_wp2_with fail
    refine (equals (d + 2) _ _ _ _ l w3 R3.out ((H0.out.below B3.out (Nat.le_refl _) B3.out.size).deep (by omega)) (Nat.le_refl _)).mono ?_
    rintro e w4 ⟨rfl, hb⟩
    rw [HE.out.2]
    have B4 := Lib.hid (B3.out.trans (hb.mono B3.out.size)); clear hb
    go_wp2_with fail
    refine (known_any w4).mono ?_
    rintro e w5 ⟨rfl, hb⟩
    have B5 := Lib.hid (B4.out.trans (hb.mono B4.out.size)); clear hb
    go_wp2_with fail
    go_ret
    exact ⟨rfl, B5.out⟩

set_option maxRecDepth 100000 in
set_option maxHeartbeats 8000000 in
theorem TreeChanged_5 (d : Nat) (v : Value) (l : List Nd) (i how : Int) (w : World) (h : LRd (d + 1) w w.heap.size v l) (hz : sz l ≤ 1048576) (hl : 0 < l.length) (k : Nat) (hk : (bits .and .i64 i 65535).tmod (l.length : Int) = (k : Int)) (hkl : k < l.length) (x : Nd) (hx : l[k]? = some x) (r : Int) (hh : bits .and .i64 how 7 = r) (e0 : (r == 0) = false) (e1 : (r == 1) = false) (e2 : (r == 2) = false) (e3 : (r == 3) = false) (e4 : (r == 4) = false) :
    Calls Try.prog 5 #[v, .int .i64 i, .int .i64 how] w fun e w' => e = .returned (.bool true) ∧ Below w.heap.size w w' := by
  obtain ⟨A, c, rfl⟩ := h.form
  have H0 := Lib.hid h; clear h
  have hne : ¬ (l.length : Int) = 0 := by omega
  have hne2 : ((l.length : Int) == 0) = false := by rw [beq_eq_false_iff_ne]; exact hne
  go_enter Try.func5, Try.ntmps5
  go_wp2_with fail
  refine (large_any (d + 1) w.heap.size _ l w H0.out (Nat.le_refl _)).mono ?_
  rintro e w1 ⟨rfl, hb⟩
  have B1 := Lib.hid hb; clear hb
  cases big l with
  | true =>
    go_wp2_with fail
    refine (known_any w1).mono ?_
    rintro e w4 ⟨rfl, hb⟩
    have B4 := Lib.hid (B1.out.trans (hb.mono B1.out.size)); clear hb
    go_wp2_with fail
    go_ret
    exact ⟨rfl, B4.out⟩
  | false =>
    obtain ⟨g, c2, w2, hr, cp, hc1, hc2⟩ := copy_cp 22 (H0.out.below B1.out (Nat.le_refl _) B1.out.size) hl
    obtain ⟨vk, va, ⟨a0, b0⟩, ⟨a1, b1⟩, ⟨a2, b2⟩, ⟨a3, b3⟩, ⟨a4, b4⟩, fk, ft, rk, ra⟩ := cp.at hx
    have P1 := Lib.hid hr; clear hr
    have hlk : l.length ≤ 1048576 := Nat.le_trans (sz_len l) hz
    have hsx : szN x ≤ 1048576 := Nat.le_trans (sz_mem (List.mem_of_getElem? hx)) hz
    rw [szN_eq] at hsx
    have hcb := cp.bl
    obtain ⟨_, _, ys, ho, hcc⟩ := cp
    obtain ⟨v6, w6, zs, hr3, ho6, hg6, hzs⟩ := run_zeroN d 22 ho hcb.size (by omega)
    have hB : Below w1.heap.size w1 w6 := hcb.trans (((Below.refl _ _).alloc hcb.size zNo).trans ((Below.refl _ _).grown hg6 (by simp; have := hcb.size; omega) (own_blk ho)))
    have hall : Cells (LRd (d + 1) w6 w6.heap.size) (ARd (d + 1) w6 w6.heap.size) (ys ++ zs) (l ++ [zN]) := Cells.append (hcc.imp (fun _ _ q => (q.below hB (Nat.le_refl _) hB.size).deep1) (fun _ _ q => ARd.deep (ARd.below q hB (Nat.le_refl _) hB.size) (by omega))) (hzs _ _)
    have hzz : sz (l ++ [zN]) ≤ 16777216 := by rw [sz_append]; have : sz [zN] = 1 := by simp [sz, szN, szA, zN, ByteArray.size]
                                               omega
    have hR : LRd (d + 2) w6 w6.heap.size v6 (l ++ [zN]) := own_rd (by rw [List.length_append]; exact ho6) hall hzz rfl
    obtain ⟨g6, c6, rfl, _⟩ := own_form ho6 (by omega)
    have HE := Lib.hid (ne_of (l := l) (m := l ++ [zN]) (fun e => by have h := congrArg List.length e; simp at h))
    have R2 := Lib.hid hR
    have B2 := Lib.hid (B1.out.trans (hB.mono B1.out.size))
    have P3 := Lib.hid hr3
    clear hR hB hr3 ho hall hzz hcc ho6 rk ra fk ft hg6 hzs hcb
    go_wp2_with (first | (at_builtin; refine wpList_app P1.out rfl (.const (.slice none 0 0)) (.tmp 17) rfl rfl rfl rfl ?_; clear P1) | (at_builtin; refine wpList_app P3.out rfl (.tmp 28) (.tmp 30) rfl rfl rfl rfl ?_; clear P3))
    generalize w6 = W at R2 B2 ⊢
    refine (equals (d + 2) _ _ _ l _ W ((H0.out.below B2.out (Nat.le_refl _) B2.out.size).deep (by omega)) R2.out (Nat.le_refl _)).mono ?_
    rintro e w3 ⟨rfl, hb⟩
    rw [HE.out.1]
    have R3 := Lib.hid (R2.out.below hb (Nat.le_refl _) hb.size)
    have B3 := Lib.hid (B2.out.trans (hb.mono B2.out.size)); clear hb
    go_wp2_with fail
    refine (equals (d + 2) _ _ _ _ l w3 R3.out ((H0.out.below B3.out (Nat.le_refl _) B3.out.size).deep (by omega)) (Nat.le_refl _)).mono ?_
    rintro e w4 ⟨rfl, hb⟩
    rw [HE.out.2]
    have B4 := Lib.hid (B3.out.trans (hb.mono B3.out.size)); clear hb
    go_wp2_with fail
    refine (known_any w4).mono ?_
    rintro e w5 ⟨rfl, hb⟩
    have B5 := Lib.hid (B4.out.trans (hb.mono B4.out.size)); clear hb
    go_wp2_with fail
    go_ret
    exact ⟨rfl, B5.out⟩

set_option maxRecDepth 100000 in
set_option maxHeartbeats 8000000 in
theorem TreeChanged_n (d : Nat) (v : Value) (l : List Nd) (i how : Int) (w : World) (h : LRd (d + 1) w w.heap.size v l) (h0 : l.length = 0) :
    Calls Try.prog 5 #[v, .int .i64 i, .int .i64 how] w fun e w' => e = .returned (.bool true) ∧ Below w.heap.size w w' := by
  obtain ⟨A, c, rfl⟩ := h.form
  have H0 := Lib.hid h; clear h
  rw [h0] at H0 ⊢
  go_enter Try.func5, Try.ntmps5
  go_wp2_with fail
  refine (large_any (d + 1) w.heap.size _ l w H0.out (Nat.le_refl _)).mono ?_
  rintro e w1 ⟨rfl, hb⟩
  have B1 := Lib.hid hb; clear hb
  cases big l with
  | true =>
    go_wp2_with fail
    refine (known_any w1).mono ?_
    rintro e w4 ⟨rfl, hb⟩
    have B4 := Lib.hid (B1.out.trans (hb.mono B1.out.size)); clear hb
    go_wp2_with fail
    go_ret
    exact ⟨rfl, B4.out⟩
  | false =>
    go_wp2_with fail
    refine (known_any w1).mono ?_
    rintro e w4 ⟨rfl, hb⟩
    have B4 := Lib.hid (B1.out.trans (hb.mono B1.out.size)); clear hb
    go_wp2_with fail
    go_ret
    exact ⟨rfl, B4.out⟩

theorem TreeChanged_any (d B : Nat) (v : Value) (l : List Nd) (i : Int) (_ : -9223372036854775808 ≤ i ∧ i ≤ 9223372036854775807) (how : Int) (_ : -9223372036854775808 ≤ how ∧ how ≤ 9223372036854775807) (w : World) (h : LRd d w B v l) (hB : B ≤ w.heap.size) (hz : sz l ≤ 1048576) :
    Calls Try.prog 5 #[v, .int .i64 i, .int .i64 how] w fun e w' => e = .returned (.bool true) ∧ Below w.heap.size w w' := by
  have q : LRd (d + 1) w w.heap.size v l := (h.more hB).deep1
  by_cases hl : 0 < l.length
  · obtain ⟨k, hk, hkl⟩ : ∃ k : Nat, (bits .and .i64 i 65535).tmod (l.length : Int) = (k : Int) ∧ k < l.length := by
      rw [i64_and65535]
      have h0 : 0 ≤ i % 65536 := by omega
      refine ⟨((i % 65536).toNat % l.length), ?_, Nat.mod_lt _ hl⟩
      obtain ⟨m, hm⟩ := Int.eq_ofNat_of_zero_le h0
      rw [hm]
      simp [Int.tmod]
    obtain ⟨x, hx⟩ : ∃ x, l[k]? = some x := ⟨_, List.getElem?_eq_getElem hkl⟩
    have hr := i64_and7 how
    have hc : how % 8 = 0 ∨ how % 8 = 1 ∨ how % 8 = 2 ∨ how % 8 = 3 ∨ how % 8 = 4 ∨ 5 ≤ how % 8 := by omega
    rcases hc with e | e | e | e | e | e
    · exact TreeChanged_0 d v l i how w q hz hl k hk hkl x hx (by rw [hr, e])
    · exact TreeChanged_1 d v l i how w q hz hl k hk hkl x hx (by rw [hr, e])
    · exact TreeChanged_2 d v l i how w q hz hl k hk hkl x hx (by rw [hr, e])
    · exact TreeChanged_3 d v l i how w q hz hl k hk hkl x hx (by rw [hr, e])
    · exact TreeChanged_4 d v l i how w q hz hl k hk hkl x hx (by rw [hr, e])
    · exact TreeChanged_5 d v l i how w q hz hl k hk hkl x hx _ hr (by rw [beq_eq_false_iff_ne]; omega) (by rw [beq_eq_false_iff_ne]; omega) (by rw [beq_eq_false_iff_ne]; omega) (by rw [beq_eq_false_iff_ne]; omega) (by rw [beq_eq_false_iff_ne]; omega)
  · have h0 : l.length = 0 := by omega
    exact TreeChanged_n d v l i how w q h0
end Go.Proofs.Ytfljcockbnpadaa.Tr
