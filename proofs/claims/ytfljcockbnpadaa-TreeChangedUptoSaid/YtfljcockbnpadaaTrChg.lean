/-
  The law TreeChanged.
-/
import Derived.Test.YtfljcockbnpadaaTrSet
namespace Go.Proofs.Ytfljcockbnpadaa.Tr
open Go.RowKit

theorem szN_mk (k t : Int) (s : ByteArray) (ks : List Nd) (gs : List Ar) : szN (.mk k t s ks gs) = 1 + s.size + sz ks + szA gs := by simp [szN]
/-- Two lists that differ are not equal, either way round. -/
theorem ne_of {l m : List Nd} (h : l ≠ m) : eqB l m = false ∧ eqB m l = false := ⟨eqB_false h, eqB_false (Ne.symm h)⟩

set_option maxRecDepth 100000 in
set_option maxHeartbeats 8000000 in
theorem TreeChanged_0 (d : Nat) (v : Value) (l : List Nd) (i how : Int) (w : World) (h : LRd (d + 1) w w.heap.size v l) (hz : sz l ≤ 1048576) (hl : 0 < l.length) (k : Nat) (hk : (bits .and .i64 i 65535).tmod (l.length : Int) = (k : Int)) (hkl : k < l.length) (x : Nd) (hx : l[k]? = some x) (hh : bits .and .i64 how 7 = 0) :
    Calls Try.prog 5 #[v, .int .i64 i, .int .i64 how] w fun e w' => e = .returned (.bool true) ∧ Below w.heap.size w w' := by
  obtain ⟨A, c, rfl⟩ := h.form
  have H0 := Lib.hid h; clear h
  have hne : ¬ (l.length : Int) = 0 := by omega
  have hne2 : ((l.length : Int) == 0) = false := by rw [beq_eq_false_iff_ne]; exact hne
  go_enter Try.func5, Try.ntmps5
  go_wp2_with fail
  refine (large_any (d + 1) w.heap.size _ l w H0.out (Nat.le_refl _)).mono ?_
  rintro e w1 ⟨rfl, hb⟩
  have B1 := Lib.hid hb; clear hb
  cases big l with
  | true =>
    go_wp2_with fail
    refine (known_any w1).mono ?_
    rintro e w4 ⟨rfl, hb⟩
    have B4 := Lib.hid (B1.out.trans (hb.mono B1.out.size)); clear hb
    go_wp2_with fail
    go_ret
    exact ⟨rfl, B4.out⟩
  | false =>
    obtain ⟨g, c2, w2, hr, cp, hc1, hc2⟩ := copy_cp 22 (H0.out.below B1.out (Nat.le_refl _) B1.out.size) hl
    obtain ⟨vk, va, ⟨a0, b0⟩, ⟨a1, b1⟩, ⟨a2, b2⟩, _, _, fk, ft, _, _⟩ := cp.at hx
    have P1 := Lib.hid hr; clear hr
    have hs := sz_set (n' := .mk (bits .xor .i64 x.kind 1) x.tag x.text x.kids x.args) hx
    rw [szN_mk, szN_eq x] at hs
    have CP := Lib.hid (cp.set_kind hx _ (xor_one x.kind fk).2)
    have HE := Lib.hid (ne_of (set_ne (n' := .mk (bits .xor .i64 x.kind 1) x.tag x.text x.kids x.args) hx (fun e => (xor_one x.kind fk).1 (congrArg Nd.kind e).symm)))
    have hz3 : sz (l.set k (.mk (bits .xor .i64 x.kind 1) x.tag x.text x.kids x.args)) ≤ 16777216 := by
      omega
    have R2 := Lib.hid (CP.out.rd hz3)
    have B2 := Lib.hid (B1.out.trans (CP.out.bl.mono B1.out.size))
    clear cp hs hz3 fk ft
    go_wp2_with (at_builtin; refine wpList_app P1.out rfl _ _ rfl rfl rfl rfl ?_)
    generalize (w2.setCell ⟨g, k * 5, none⟩ (.int .i64 (bits .xor .i64 x.kind 1))) = W at R2 B2 CP ⊢
    refine (equals (d + 1) _ _ _ l _ W ((H0.out.below B2.out (Nat.le_refl _) B2.out.size)) R2.out (Nat.le_refl _)).mono ?_
    rintro e w3 ⟨rfl, hb⟩
    rw [HE.out.1]
    have R3 := Lib.hid (R2.out.below hb (Nat.le_refl _) hb.size)
    have B3 := Lib.hid (B2.out.trans (hb.mono B2.out.size)); clear hb
    go_wp2_with fail
    refine (equals (d + 1) _ _ _ _ l w3 R3.out ((H0.out.below B3.out (Nat.le_refl _) B3.out.size)) (Nat.le_refl _)).mono ?_
    rintro e w4 ⟨rfl, hb⟩
    rw [HE.out.2]
    have B4 := Lib.hid (B3.out.trans (hb.mono B3.out.size)); clear hb
    go_wp2_with fail
    refine (known_any w4).mono ?_
    rintro e w5 ⟨rfl, hb⟩
    have B5 := Lib.hid (B4.out.trans (hb.mono B4.out.size)); clear hb
    go_wp2_with fail
    go_ret
    exact ⟨rfl, B5.out⟩

set_option maxRecDepth 100000 in
set_option maxHeartbeats 8000000 in
theorem TreeChanged_1 (d : Nat) (v : Value) (l : List Nd) (i how : Int) (w : World) (h : LRd (d + 1) w w.heap.size v l) (hz : sz l ≤ 1048576) (hl : 0 < l.length) (k : Nat) (hk : (bits .and .i64 i 65535).tmod (l.length : Int) = (k : Int)) (hkl : k < l.length) (x : Nd) (hx : l[k]? = some x) (hh : bits .and .i64 how 7 = 1) :
    Calls Try.prog 5 #[v, .int .i64 i, .int .i64 how] w fun e w' => e = .returned (.bool true) ∧ Below w.heap.size w w' := by
  obtain ⟨A, c, rfl⟩ := h.form
  have H0 := Lib.hid h; clear h
  have hne : ¬ (l.length : Int) = 0 := by omega
  have hne2 : ((l.length : Int) == 0) = false := by rw [beq_eq_false_iff_ne]; exact hne
  go_enter Try.func5, Try.ntmps5
  go_wp2_with fail
  refine (large_any (d + 1) w.heap.size _ l w H0.out (Nat.le_refl _)).mono ?_
  rintro e w1 ⟨rfl, hb⟩
  have B1 := Lib.hid hb; clear hb
  cases big l with
  | true =>
    go_wp2_with fail
    refine (known_any w1).mono ?_
    rintro e w4 ⟨rfl, hb⟩
    have B4 := Lib.hid (B1.out.trans (hb.mono B1.out.size)); clear hb
    go_wp2_with fail
    go_ret
    exact ⟨rfl, B4.out⟩
  | false =>
    obtain ⟨g, c2, w2, hr, cp, hc1, hc2⟩ := copy_cp 22 (H0.out.below B1.out (Nat.le_refl _) B1.out.size) hl
    obtain ⟨vk, va, ⟨a0, b0⟩, ⟨a1, b1⟩, ⟨a2, b2⟩, _, _, fk, ft, _, _⟩ := cp.at hx
    have P1 := Lib.hid hr; clear hr
    have hs := sz_set (n' := .mk x.kind (bits .xor .i64 x.tag 1) x.text x.kids x.args) hx
    rw [szN_mk, szN_eq x] at hs
    have CP := Lib.hid (cp.set_tag hx _ (xor_one x.tag ft).2)
    have HE := Lib.hid (ne_of (set_ne (n' := .mk x.kind (bits .xor .i64 x.tag 1) x.text x.kids x.args) hx (fun e => (xor_one x.tag ft).1 (congrArg Nd.tag e).symm)))
    have hz3 : sz (l.set k (.mk x.kind (bits .xor .i64 x.tag 1) x.text x.kids x.args)) ≤ 16777216 := by
      omega
    have R2 := Lib.hid (CP.out.rd hz3)
    have B2 := Lib.hid (B1.out.trans (CP.out.bl.mono B1.out.size))
    clear cp hs hz3 fk ft
    go_wp2_with (at_builtin; refine wpList_app P1.out rfl _ _ rfl rfl rfl rfl ?_)
    generalize (w2.setCell ⟨g, k * 5 + 1, none⟩ (.int .i64 (bits .xor .i64 x.tag 1))) = W at R2 B2 CP ⊢
    refine (equals (d + 1) _ _ _ l _ W ((H0.out.below B2.out (Nat.le_refl _) B2.out.size)) R2.out (Nat.le_refl _)).mono ?_
    rintro e w3 ⟨rfl, hb⟩
    rw [HE.out.1]
    have R3 := Lib.hid (R2.out.below hb (Nat.le_refl _) hb.size)
    have B3 := Lib.hid (B2.out.trans (hb.mono B2.out.size)); clear hb
    go_wp2_with fail
    refine (equals (d + 1) _ _ _ _ l w3 R3.out ((H0.out.below B3.out (Nat.le_refl _) B3.out.size)) (Nat.le_refl _)).mono ?_
    rintro e w4 ⟨rfl, hb⟩
    rw [HE.out.2]
    have B4 := Lib.hid (B3.out.trans (hb.mono B3.out.size)); clear hb
    go_wp2_with fail
    refine (known_any w4).mono ?_
    rintro e w5 ⟨rfl, hb⟩
    have B5 := Lib.hid (B4.out.trans (hb.mono B4.out.size)); clear hb
    go_wp2_with fail
    go_ret
    exact ⟨rfl, B5.out⟩

set_option maxRecDepth 100000 in
set_option maxHeartbeats 8000000 in
theorem TreeChanged_2 (d : Nat) (v : Value) (l : List Nd) (i how : Int) (w : World) (h : LRd (d + 1) w w.heap.size v l) (hz : sz l ≤ 1048576) (hl : 0 < l.length) (k : Nat) (hk : (bits .and .i64 i 65535).tmod (l.length : Int) = (k : Int)) (hkl : k < l.length) (x : Nd) (hx : l[k]? = some x) (hh : bits .and .i64 how 7 = 2) :
    Calls Try.prog 5 #[v, .int .i64 i, .int .i64 how] w fun e w' => e = .returned (.bool true) ∧ Below w.heap.size w w' := by
  obtain ⟨A, c, rfl⟩ := h.form
  have H0 := Lib.hid h; clear h
  have hne : ¬ (l.length : Int) = 0 := by omega
  have hne2 : ((l.length : Int) == 0) = false := by rw [beq_eq_false_iff_ne]; exact hne
  have hts : x.text.size ≤ 1048576 := by
    have h1 := sz_mem (List.mem_of_getElem? hx)
    rw [szN_eq] at h1; omega
  go_enter Try.func5, Try.ntmps5
  go_wp2_with fail
  refine (large_any (d + 1) w.heap.size _ l w H0.out (Nat.le_refl _)).mono ?_
  rintro e w1 ⟨rfl, hb⟩
  have B1 := Lib.hid hb; clear hb
  cases big l with
  | true =>
    go_wp2_with fail
    refine (known_any w1).mono ?_
    rintro e w4 ⟨rfl, hb⟩
    have B4 := Lib.hid (B1.out.trans (hb.mono B1.out.size)); clear hb
    go_wp2_with fail
    go_ret
    exact ⟨rfl, B4.out⟩
  | false =>
    obtain ⟨g, c2, w2, hr, cp, hc1, hc2⟩ := copy_cp 22 (H0.out.below B1.out (Nat.le_refl _) B1.out.size) hl
    obtain ⟨vk, va, ⟨a0, b0⟩, ⟨a1, b1⟩, ⟨a2, b2⟩, _, _, fk, ft, _, _⟩ := cp.at hx
    have P1 := Lib.hid hr; clear hr
    have hs := sz_set (n' := .mk x.kind x.tag (x.text ++ ⟨#[120]⟩) x.kids x.args) hx
    rw [szN_mk, szN_eq x] at hs
    have CP := Lib.hid (cp.set_text hx (x.text ++ ⟨#[120]⟩))
    have HE := Lib.hid (ne_of (set_ne (n' := .mk x.kind x.tag (x.text ++ ⟨#[120]⟩) x.kids x.args) hx (fun e => by have h := congrArg (fun n => n.text.size) e; simp only [Nd.text, ByteArray.size_append] at h; change x.text.size = x.text.size + 1 at h; omega)))
    have hz3 : sz (l.set k (.mk x.kind x.tag (x.text ++ ⟨#[120]⟩) x.kids x.args)) ≤ 16777216 := by
      rw [ByteArray.size_append] at hs; change _ + (1 + _ + _ + _) = _ + (1 + (_ + 1) + _ + _) at hs; omega
    have R2 := Lib.hid (CP.out.rd hz3)
    have B2 := Lib.hid (B1.out.trans (CP.out.bl.mono B1.out.size))
    clear cp hs hz3 fk ft
    go_wp2_with (at_builtin; refine wpList_app P1.out rfl _ _ rfl rfl rfl rfl ?_)
    generalize (w2.setCell ⟨g, k * 5 + 2, none⟩ (.string (x.text ++ ⟨#[120]⟩))) = W at R2 B2 CP ⊢
    refine (equals (d + 1) _ _ _ l _ W ((H0.out.below B2.out (Nat.le_refl _) B2.out.size)) R2.out (Nat.le_refl _)).mono ?_
    rintro e w3 ⟨rfl, hb⟩
    rw [HE.out.1]
    have R3 := Lib.hid (R2.out.below hb (Nat.le_refl _) hb.size)
    have B3 := Lib.hid (B2.out.trans (hb.mono B2.out.size)); clear hb
    go_wp2_with fail
    refine (equals (d + 1) _ _ _ _ l w3 R3.out ((H0.out.below B3.out (Nat.le_refl _) B3.out.size)) (Nat.le_refl _)).mono ?_
    rintro e w4 ⟨rfl, hb⟩
    rw [HE.out.2]
    have B4 := Lib.hid (B3.out.trans (hb.mono B3.out.size)); clear hb
    go_wp2_with fail
    refine (known_any w4).mono ?_
    rintro e w5 ⟨rfl, hb⟩
    have B5 := Lib.hid (B4.out.trans (hb.mono B4.out.size)); clear hb
    go_wp2_with fail
    go_ret
    exact ⟨rfl, B5.out⟩
end Go.Proofs.Ytfljcockbnpadaa.Tr
