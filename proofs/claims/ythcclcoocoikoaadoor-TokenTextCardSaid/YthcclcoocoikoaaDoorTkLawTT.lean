/-
  The law TokenText, for every text, token and number.
-/
import Derived.Test.YthcclcoocoikoaaDoorTkRTag
import Derived.Deep.RegionHeld3
import Derived.Laws.Bits64
namespace Go.Proofs.YthcclcoocoikoaaDoor.Tk
open Go.RowKit

theorem i64_and3 (n : Int) : bits .and .i64 n 3 = n % 4 := by
  have h7 : (BitVec.ofInt 64 3).toNat = 2 ^ 2 - 1 := by decide
  have key : (BitVec.ofInt 64 n &&& BitVec.ofInt 64 3).toNat = (n % ((2 ^ 64 : Nat) : Int)).toNat % 2 ^ 2 := by
    rw [BitVec.toNat_and, BitVec.toNat_ofInt, h7, Nat.and_two_pow_sub_one_eq_mod]
  show IntKind.i64.wrap ((BitVec.ofInt 64 n &&& BitVec.ofInt 64 3).toNat : Nat) = n % 4
  rw [key, IntKind.wrap_i64]
  omega

/-- Two tokens in two blocks, and the tables, over a first world. -/
structure Hd (w : World) (b1 b2 : Nat) (x0 x1 x2 y0 y1 y2 : Int) (W : World) : Prop where
  a0 : W.cell? ⟨b1, 0, none⟩ = some (.int .i64 x0)
  a1 : W.cell? ⟨b1, 1, none⟩ = some (.int .i64 x1)
  a2 : W.cell? ⟨b1, 2, none⟩ = some (.int .i64 x2)
  c0 : W.cell? ⟨b2, 0, none⟩ = some (.int .i64 y0)
  c1 : W.cell? ⟨b2, 1, none⟩ = some (.int .i64 y1)
  c2 : W.cell? ⟨b2, 2, none⟩ = some (.int .i64 y2)
  bl : Below w.heap.size w W
  tb : Tb W
  l1 : b1 < W.heap.size
  l2 : b2 < W.heap.size
section
variable {w W W' : World} {b1 b2 : Nat} {x0 x1 x2 y0 y1 y2 : Int} {s : ByteArray}
theorem Hd.below (h : Hd w b1 b2 x0 x1 x2 y0 y1 y2 W) (hb : Below W.heap.size W W') : Hd w b1 b2 x0 x1 x2 y0 y1 y2 W' :=
  ⟨(hb.cell (p := ⟨b1, 0, none⟩) h.l1).trans h.a0, (hb.cell (p := ⟨b1, 1, none⟩) h.l1).trans h.a1, (hb.cell (p := ⟨b1, 2, none⟩) h.l1).trans h.a2,
   (hb.cell (p := ⟨b2, 0, none⟩) h.l2).trans h.c0, (hb.cell (p := ⟨b2, 1, none⟩) h.l2).trans h.c1, (hb.cell (p := ⟨b2, 2, none⟩) h.l2).trans h.c2,
   h.bl.trans (hb.mono h.bl.size), h.tb.below hb, Nat.lt_of_lt_of_le h.l1 hb.size, Nat.lt_of_lt_of_le h.l2 hb.size⟩
theorem Hd.drew (h : Hd w b1 b2 x0 x1 x2 y0 y1 y2 W) : Hd w b1 b2 x0 x1 x2 y0 y1 y2 W.drew := h.below (Below.refl _ _).drew
theorem Text_hd (h : Hd w b1 b2 x0 x1 x2 y0 y1 y2 W) (k f t : Int) : Calls Tryd.prog 13 #[.string s, .agg #[.int .i64 k, .int .i64 f, .int .i64 t]] W fun e w' => e = .returned (.string ⟨(textOf s.data.toList f t).toArray⟩) ∧ Hd w b1 b2 x0 x1 x2 y0 y1 y2 w' :=
  (Text_any s k f t W).mono fun _ _ ⟨a, b⟩ => ⟨a, h.below b⟩
theorem TextR_hd (h : Hd w b1 b2 x0 x1 x2 y0 y1 y2 W) (k f t : Int) : Calls Tryd.prog 16 #[.string s, .agg #[.int .i64 k, .int .i64 f, .int .i64 t]] W fun e w' => e = .returned (.string ⟨(textOf s.data.toList f t).toArray⟩) ∧ Hd w b1 b2 x0 x1 x2 y0 y1 y2 w' :=
  (TextR_any s k f t W).mono fun _ _ ⟨a, b⟩ => ⟨a, h.below b⟩
theorem Tag_hd (h : Hd w b1 b2 x0 x1 x2 y0 y1 y2 W) (k f t : Int) : Calls Tryd.prog 14 #[.string s, .agg #[.int .i64 k, .int .i64 f, .int .i64 t]] W fun e w' => e = .returned (.int .i64 (tagOf k (textOf s.data.toList f t) 3 1 : Nat)) ∧ Hd w b1 b2 x0 x1 x2 y0 y1 y2 w' :=
  (Tag_any s k f t W h.tb).mono fun _ _ ⟨a, b⟩ => ⟨a, h.below b⟩
theorem TagR_hd (h : Hd w b1 b2 x0 x1 x2 y0 y1 y2 W) (k f t : Int) : Calls Tryd.prog 17 #[.string s, .agg #[.int .i64 k, .int .i64 f, .int .i64 t]] W fun e w' => e = .returned (.int .i64 (tagOf k (textOf s.data.toList f t) 3 1 : Nat)) ∧ Hd w b1 b2 x0 x1 x2 y0 y1 y2 w' :=
  (TagR_any s k f t W).mono fun _ _ ⟨a, b⟩ => ⟨a, h.below b⟩
theorem known_hd (h : Hd w b1 b2 x0 x1 x2 y0 y1 y2 W) : Calls Tryd.prog 9 #[] W fun e w' => e = .returned (.bool true) ∧ Hd w b1 b2 x0 x1 x2 y0 y1 y2 w' :=
  (known_any W h.tb).mono fun _ _ ⟨a, b⟩ => ⟨a, h.below b⟩
end
theorem TagText1 (c : Bool) (w : World) : Calls Tryd.prog 15 #[.int .i64 1, .bool c] w fun e w' => e = .returned (.string ⟨(tagL 1 c).toArray⟩) ∧ Below w.heap.size w w' := TagText_any 1 c w (by omega) (by omega)
theorem TagText2 (c : Bool) (w : World) : Calls Tryd.prog 15 #[.int .i64 2, .bool c] w fun e w' => e = .returned (.string ⟨(tagL 2 c).toArray⟩) ∧ Below w.heap.size w w' := TagText_any 2 c w (by omega) (by omega)
theorem TagText3 (c : Bool) (w : World) : Calls Tryd.prog 15 #[.int .i64 3, .bool c] w fun e w' => e = .returned (.string ⟨(tagL 3 c).toArray⟩) ∧ Below w.heap.size w w' := TagText_any 3 c w (by omega) (by omega)

theorem text_long (s : ByteArray) (kd f t n : Int) (w : World) (ht : Tb w) (h : 1500 < s.size) :
    Calls Tryd.prog 6 #[.string s, .agg #[.int .i64 kd, .int .i64 f, .int .i64 t], .int .i64 n] w fun e w' => e = .returned (.bool true) ∧ Below w.heap.size w w' := by
  have h1 : (1500 : Int) < (s.size : Int) := by omega
  have hbel : Below w.heap.size w (w.alloc (.cells #[.int .i64 kd, .int .i64 f, .int .i64 t] 30)) := (Below.refl _ _).alloc (Nat.le_refl _) _
  have HB := Lib.hid hbel; clear hbel
  go_enter Tryd.func6, Tryd.ntmps6
  go_wp2_with fail
  refine (known_any _ (ht.below HB.out)).mono ?_
  rintro e w1 ⟨rfl, hb⟩
  go_wp2
  go_ret
  exact ⟨rfl, HB.out.trans (hb.mono HB.out.size)⟩

set_option maxRecDepth 100000 in
set_option maxHeartbeats 2000000 in
theorem text_0 (s : ByteArray) (kd f t n : Int) (w : World) (ht : Tb w) (h : s.size ≤ 1500) (hn : n % 4 = 0) :
    Calls Tryd.prog 6 #[.string s, .agg #[.int .i64 kd, .int .i64 f, .int .i64 t], .int .i64 n] w fun e w' => e = .returned (.bool true) ∧ Below w.heap.size w w' := by
  have h1 : ¬ (1500 : Int) < (s.size : Int) := by omega
  have hand : bits .and .i64 n 3 = 0 := by rw [i64_and3, hn]
  clear hn
  have hbel : Below w.heap.size w (w.alloc (.cells #[.int .i64 kd, .int .i64 f, .int .i64 t] 30)) := (Below.refl _ _).alloc (Nat.le_refl _) _
  have HB := Lib.hid hbel; clear hbel
  go_enter Tryd.func6, Tryd.ntmps6
  go_wp2_with fail
  refine (TagText1 _ _).mono ?_
  rintro e w1 ⟨rfl, hb1⟩
  have hs1 := hb1.size
  simp at hs1
  have hcell : w1.cell? ⟨w.heap.size, 0, none⟩ = some (.int .i64 kd) ∧ w1.cell? ⟨w.heap.size, 1, none⟩ = some (.int .i64 f) ∧ w1.cell? ⟨w.heap.size, 2, none⟩ = some (.int .i64 t) := by
    refine ⟨?_, ?_, ?_⟩
    · rw [hb1.cell (p := ⟨w.heap.size, 0, none⟩) (by simp)]; simp
    · rw [hb1.cell (p := ⟨w.heap.size, 1, none⟩) (by simp)]; simp
    · rw [hb1.cell (p := ⟨w.heap.size, 2, none⟩) (by simp)]; simp
  have HC := Lib.hid hcell; clear hcell
  have HW : Hid (Below w.heap.size w w1) := Lib.hid (HB.out.trans (hb1.mono HB.out.size))
  clear hb1
  generalize (⟨(tagL 1 (bits .and .i64 n 4 == 0)).toArray⟩ : ByteArray) = X
  go_wp2
  generalize wrap64 (11 + bits .and .i64 (n / 8) 1) = K
  generalize bits .and .i64 (n / 8) 1 = K1
  generalize bits .and .i64 n 4 = K2
  generalize (X.size : Int) = XL
  have H0 : Hd w w.heap.size w1.heap.size kd f t K 0 XL (w1.alloc (.cells #[.int .i64 K, .int .i64 0, .int .i64 XL] 30)) := by
    have hlt : w.heap.size < w1.heap.size := by omega
    have hbl : Below w.heap.size w (w1.alloc (.cells #[.int .i64 K, .int .i64 0, .int .i64 XL] 30)) := HW.out.alloc (by omega) _
    exact ⟨(World.cell?_alloc_lt w1 _ ⟨w.heap.size, 0, none⟩ hlt).trans HC.out.1, (World.cell?_alloc_lt w1 _ ⟨w.heap.size, 1, none⟩ hlt).trans HC.out.2.1, (World.cell?_alloc_lt w1 _ ⟨w.heap.size, 2, none⟩ hlt).trans HC.out.2.2, by simp, by simp, by simp, hbl, ht.below hbl, by simp; omega, by simp⟩
  generalize w1.alloc (.cells #[.int .i64 K, .int .i64 0, .int .i64 XL] 30) = V at H0 ⊢
  have H3 := H0.drew
  clear H0 HC HW hs1 HB
  generalize hb1 : w.heap.size = b1 at H3 ⊢
  generalize hb2 : w1.heap.size = b2 at H3 ⊢
  go_region_held3 (fun W => W.cell? ⟨b1, 0, none⟩ = some (.int .i64 kd) ∧ W.cell? ⟨b1, 1, none⟩ = some (.int .i64 f) ∧ W.cell? ⟨b1, 2, none⟩ = some (.int .i64 t) ∧ W.cell? ⟨b2, 0, none⟩ = some (.int .i64 K) ∧ W.cell? ⟨b2, 1, none⟩ = some (.int .i64 0) ∧ W.cell? ⟨b2, 2, none⟩ = some (.int .i64 XL) ∧ Hd w b1 b2 kd f t K 0 XL W)
    (first | exact ⟨H3.a0, H3.a1, H3.a2, H3.c0, H3.c1, H3.c2, H3⟩ | (rename_i h8; exact ⟨h8.a0, h8.a1, h8.a2, h8.c0, h8.c1, h8.c2, h8⟩))
    (first
      | (go_at_call 13; refine (Text_hd (w := w) (b1 := b1) (b2 := b2) (x0 := kd) (x1 := f) (x2 := t) (y0 := K) (y1 := 0) (y2 := XL) ?_ _ _ _).mono ?_; (assumption); rintro e w' ⟨rfl, _⟩)
      | (go_at_call 16; refine (TextR_hd (w := w) (b1 := b1) (b2 := b2) (x0 := kd) (x1 := f) (x2 := t) (y0 := K) (y1 := 0) (y2 := XL) ?_ _ _ _).mono ?_; (assumption); rintro e w' ⟨rfl, _⟩)
      | (go_at_call 14; refine (Tag_hd (w := w) (b1 := b1) (b2 := b2) (x0 := kd) (x1 := f) (x2 := t) (y0 := K) (y1 := 0) (y2 := XL) ?_ _ _ _).mono ?_; (assumption); rintro e w' ⟨rfl, _⟩)
      | (go_at_call 17; refine (TagR_hd (w := w) (b1 := b1) (b2 := b2) (x0 := kd) (x1 := f) (x2 := t) (y0 := K) (y1 := 0) (y2 := XL) ?_ _ _ _).mono ?_; (assumption); rintro e w' ⟨rfl, _⟩)
      | (go_at_call 9; refine (known_hd (w := w) (b1 := b1) (b2 := b2) (x0 := kd) (x1 := f) (x2 := t) (y0 := K) (y1 := 0) (y2 := XL) ?_).mono ?_; (assumption); rintro e w' ⟨rfl, _⟩))
  have h8 : Hd w b1 b2 kd f t K 0 XL w' := by assumption
  go_wp2
  go_ret
  exact ⟨rfl, by have := h8.bl; exact this⟩

set_option maxRecDepth 100000 in
set_option maxHeartbeats 2000000 in
theorem text_1 (s : ByteArray) (kd f t n : Int) (w : World) (ht : Tb w) (h : s.size ≤ 1500) (hn : n % 4 = 1) :
    Calls Tryd.prog 6 #[.string s, .agg #[.int .i64 kd, .int .i64 f, .int .i64 t], .int .i64 n] w fun e w' => e = .returned (.bool true) ∧ Below w.heap.size w w' := by
  have h1 : ¬ (1500 : Int) < (s.size : Int) := by omega
  have hand : bits .and .i64 n 3 = 1 := by rw [i64_and3, hn]
  clear hn
  have hbel : Below w.heap.size w (w.alloc (.cells #[.int .i64 kd, .int .i64 f, .int .i64 t] 30)) := (Below.refl _ _).alloc (Nat.le_refl _) _
  have HB := Lib.hid hbel; clear hbel
  go_enter Tryd.func6, Tryd.ntmps6
  go_wp2_with fail
  refine (TagText2 _ _).mono ?_
  rintro e w1 ⟨rfl, hb1⟩
  have hs1 := hb1.size
  simp at hs1
  have hcell : w1.cell? ⟨w.heap.size, 0, none⟩ = some (.int .i64 kd) ∧ w1.cell? ⟨w.heap.size, 1, none⟩ = some (.int .i64 f) ∧ w1.cell? ⟨w.heap.size, 2, none⟩ = some (.int .i64 t) := by
    refine ⟨?_, ?_, ?_⟩
    · rw [hb1.cell (p := ⟨w.heap.size, 0, none⟩) (by simp)]; simp
    · rw [hb1.cell (p := ⟨w.heap.size, 1, none⟩) (by simp)]; simp
    · rw [hb1.cell (p := ⟨w.heap.size, 2, none⟩) (by simp)]; simp
  have HC := Lib.hid hcell; clear hcell
  have HW : Hid (Below w.heap.size w w1) := Lib.hid (HB.out.trans (hb1.mono HB.out.size))
  clear hb1
  generalize (⟨(tagL 2 (bits .and .i64 n 4 == 0)).toArray⟩ : ByteArray) = X
  go_wp2
  generalize wrap64 (11 + bits .and .i64 (n / 8) 1) = K
  generalize bits .and .i64 (n / 8) 1 = K1
  generalize bits .and .i64 n 4 = K2
  generalize (X.size : Int) = XL
  have H0 : Hd w w.heap.size w1.heap.size kd f t K 0 XL (w1.alloc (.cells #[.int .i64 K, .int .i64 0, .int .i64 XL] 30)) := by
    have hlt : w.heap.size < w1.heap.size := by omega
    have hbl : Below w.heap.size w (w1.alloc (.cells #[.int .i64 K, .int .i64 0, .int .i64 XL] 30)) := HW.out.alloc (by omega) _
    exact ⟨(World.cell?_alloc_lt w1 _ ⟨w.heap.size, 0, none⟩ hlt).trans HC.out.1, (World.cell?_alloc_lt w1 _ ⟨w.heap.size, 1, none⟩ hlt).trans HC.out.2.1, (World.cell?_alloc_lt w1 _ ⟨w.heap.size, 2, none⟩ hlt).trans HC.out.2.2, by simp, by simp, by simp, hbl, ht.below hbl, by simp; omega, by simp⟩
  generalize w1.alloc (.cells #[.int .i64 K, .int .i64 0, .int .i64 XL] 30) = V at H0 ⊢
  have H3 := H0.drew
  clear H0 HC HW hs1 HB
  generalize hb1 : w.heap.size = b1 at H3 ⊢
  generalize hb2 : w1.heap.size = b2 at H3 ⊢
  go_region_held3 (fun W => W.cell? ⟨b1, 0, none⟩ = some (.int .i64 kd) ∧ W.cell? ⟨b1, 1, none⟩ = some (.int .i64 f) ∧ W.cell? ⟨b1, 2, none⟩ = some (.int .i64 t) ∧ W.cell? ⟨b2, 0, none⟩ = some (.int .i64 K) ∧ W.cell? ⟨b2, 1, none⟩ = some (.int .i64 0) ∧ W.cell? ⟨b2, 2, none⟩ = some (.int .i64 XL) ∧ Hd w b1 b2 kd f t K 0 XL W)
    (first | exact ⟨H3.a0, H3.a1, H3.a2, H3.c0, H3.c1, H3.c2, H3⟩ | (rename_i h8; exact ⟨h8.a0, h8.a1, h8.a2, h8.c0, h8.c1, h8.c2, h8⟩))
    (first
      | (go_at_call 13; refine (Text_hd (w := w) (b1 := b1) (b2 := b2) (x0 := kd) (x1 := f) (x2 := t) (y0 := K) (y1 := 0) (y2 := XL) ?_ _ _ _).mono ?_; (assumption); rintro e w' ⟨rfl, _⟩)
      | (go_at_call 16; refine (TextR_hd (w := w) (b1 := b1) (b2 := b2) (x0 := kd) (x1 := f) (x2 := t) (y0 := K) (y1 := 0) (y2 := XL) ?_ _ _ _).mono ?_; (assumption); rintro e w' ⟨rfl, _⟩)
      | (go_at_call 14; refine (Tag_hd (w := w) (b1 := b1) (b2 := b2) (x0 := kd) (x1 := f) (x2 := t) (y0 := K) (y1 := 0) (y2 := XL) ?_ _ _ _).mono ?_; (assumption); rintro e w' ⟨rfl, _⟩)
      | (go_at_call 17; refine (TagR_hd (w := w) (b1 := b1) (b2 := b2) (x0 := kd) (x1 := f) (x2 := t) (y0 := K) (y1 := 0) (y2 := XL) ?_ _ _ _).mono ?_; (assumption); rintro e w' ⟨rfl, _⟩)
      | (go_at_call 9; refine (known_hd (w := w) (b1 := b1) (b2 := b2) (x0 := kd) (x1 := f) (x2 := t) (y0 := K) (y1 := 0) (y2 := XL) ?_).mono ?_; (assumption); rintro e w' ⟨rfl, _⟩))
  have h8 : Hd w b1 b2 kd f t K 0 XL w' := by assumption
  go_wp2
  go_ret
  exact ⟨rfl, by have := h8.bl; exact this⟩

set_option maxRecDepth 100000 in
set_option maxHeartbeats 2000000 in
theorem text_2 (s : ByteArray) (kd f t n : Int) (w : World) (ht : Tb w) (h : s.size ≤ 1500) (hn : n % 4 = 2) :
    Calls Tryd.prog 6 #[.string s, .agg #[.int .i64 kd, .int .i64 f, .int .i64 t], .int .i64 n] w fun e w' => e = .returned (.bool true) ∧ Below w.heap.size w w' := by
  have h1 : ¬ (1500 : Int) < (s.size : Int) := by omega
  have hand : bits .and .i64 n 3 = 2 := by rw [i64_and3, hn]
  clear hn
  have hbel : Below w.heap.size w (w.alloc (.cells #[.int .i64 kd, .int .i64 f, .int .i64 t] 30)) := (Below.refl _ _).alloc (Nat.le_refl _) _
  have HB := Lib.hid hbel; clear hbel
  go_enter Tryd.func6, Tryd.ntmps6
  go_wp2_with fail
  refine (TagText3 _ _).mono ?_
  rintro e w1 ⟨rfl, hb1⟩
  have hs1 := hb1.size
  simp at hs1
  have hcell : w1.cell? ⟨w.heap.size, 0, none⟩ = some (.int .i64 kd) ∧ w1.cell? ⟨w.heap.size, 1, none⟩ = some (.int .i64 f) ∧ w1.cell? ⟨w.heap.size, 2, none⟩ = some (.int .i64 t) := by
    refine ⟨?_, ?_, ?_⟩
    · rw [hb1.cell (p := ⟨w.heap.size, 0, none⟩) (by simp)]; simp
    · rw [hb1.cell (p := ⟨w.heap.size, 1, none⟩) (by simp)]; simp
    · rw [hb1.cell (p := ⟨w.heap.size, 2, none⟩) (by simp)]; simp
  have HC := Lib.hid hcell; clear hcell
  have HW : Hid (Below w.heap.size w w1) := Lib.hid (HB.out.trans (hb1.mono HB.out.size))
  clear hb1
  generalize (⟨(tagL 3 (bits .and .i64 n 4 == 0)).toArray⟩ : ByteArray) = X
  go_wp2
  generalize wrap64 (11 + bits .and .i64 (n / 8) 1) = K
  generalize bits .and .i64 (n / 8) 1 = K1
  generalize bits .and .i64 n 4 = K2
  generalize (X.size : Int) = XL
  have H0 : Hd w w.heap.size w1.heap.size kd f t K 0 XL (w1.alloc (.cells #[.int .i64 K, .int .i64 0, .int .i64 XL] 30)) := by
    have hlt : w.heap.size < w1.heap.size := by omega
    have hbl : Below w.heap.size w (w1.alloc (.cells #[.int .i64 K, .int .i64 0, .int .i64 XL] 30)) := HW.out.alloc (by omega) _
    exact ⟨(World.cell?_alloc_lt w1 _ ⟨w.heap.size, 0, none⟩ hlt).trans HC.out.1, (World.cell?_alloc_lt w1 _ ⟨w.heap.size, 1, none⟩ hlt).trans HC.out.2.1, (World.cell?_alloc_lt w1 _ ⟨w.heap.size, 2, none⟩ hlt).trans HC.out.2.2, by simp, by simp, by simp, hbl, ht.below hbl, by simp; omega, by simp⟩
  generalize w1.alloc (.cells #[.int .i64 K, .int .i64 0, .int .i64 XL] 30) = V at H0 ⊢
  have H3 := H0.drew
  clear H0 HC HW hs1 HB
  generalize hb1 : w.heap.size = b1 at H3 ⊢
  generalize hb2 : w1.heap.size = b2 at H3 ⊢
  go_region_held3 (fun W => W.cell? ⟨b1, 0, none⟩ = some (.int .i64 kd) ∧ W.cell? ⟨b1, 1, none⟩ = some (.int .i64 f) ∧ W.cell? ⟨b1, 2, none⟩ = some (.int .i64 t) ∧ W.cell? ⟨b2, 0, none⟩ = some (.int .i64 K) ∧ W.cell? ⟨b2, 1, none⟩ = some (.int .i64 0) ∧ W.cell? ⟨b2, 2, none⟩ = some (.int .i64 XL) ∧ Hd w b1 b2 kd f t K 0 XL W)
    (first | exact ⟨H3.a0, H3.a1, H3.a2, H3.c0, H3.c1, H3.c2, H3⟩ | (rename_i h8; exact ⟨h8.a0, h8.a1, h8.a2, h8.c0, h8.c1, h8.c2, h8⟩))
    (first
      | (go_at_call 13; refine (Text_hd (w := w) (b1 := b1) (b2 := b2) (x0 := kd) (x1 := f) (x2 := t) (y0 := K) (y1 := 0) (y2 := XL) ?_ _ _ _).mono ?_; (assumption); rintro e w' ⟨rfl, _⟩)
      | (go_at_call 16; refine (TextR_hd (w := w) (b1 := b1) (b2 := b2) (x0 := kd) (x1 := f) (x2 := t) (y0 := K) (y1 := 0) (y2 := XL) ?_ _ _ _).mono ?_; (assumption); rintro e w' ⟨rfl, _⟩)
      | (go_at_call 14; refine (Tag_hd (w := w) (b1 := b1) (b2 := b2) (x0 := kd) (x1 := f) (x2 := t) (y0 := K) (y1 := 0) (y2 := XL) ?_ _ _ _).mono ?_; (assumption); rintro e w' ⟨rfl, _⟩)
      | (go_at_call 17; refine (TagR_hd (w := w) (b1 := b1) (b2 := b2) (x0 := kd) (x1 := f) (x2 := t) (y0 := K) (y1 := 0) (y2 := XL) ?_ _ _ _).mono ?_; (assumption); rintro e w' ⟨rfl, _⟩)
      | (go_at_call 9; refine (known_hd (w := w) (b1 := b1) (b2 := b2) (x0 := kd) (x1 := f) (x2 := t) (y0 := K) (y1 := 0) (y2 := XL) ?_).mono ?_; (assumption); rintro e w' ⟨rfl, _⟩))
  have h8 : Hd w b1 b2 kd f t K 0 XL w' := by assumption
  go_wp2
  go_ret
  exact ⟨rfl, by have := h8.bl; exact this⟩

set_option maxRecDepth 100000 in
set_option maxHeartbeats 2000000 in
theorem text_3 (s : ByteArray) (kd f t n : Int) (w : World) (ht : Tb w) (h : s.size ≤ 1500) (hn : n % 4 = 3) :
    Calls Tryd.prog 6 #[.string s, .agg #[.int .i64 kd, .int .i64 f, .int .i64 t], .int .i64 n] w fun e w' => e = .returned (.bool true) ∧ Below w.heap.size w w' := by
  have h1 : ¬ (1500 : Int) < (s.size : Int) := by omega
  have hand : bits .and .i64 n 3 = 3 := by rw [i64_and3, hn]
  clear hn
  have hbel : Below w.heap.size w (w.alloc (.cells #[.int .i64 kd, .int .i64 f, .int .i64 t] 30)) := (Below.refl _ _).alloc (Nat.le_refl _) _
  have HB := Lib.hid hbel; clear hbel
  go_enter Tryd.func6, Tryd.ntmps6
  go_wp2_with fail
  refine (TagText1 _ _).mono ?_
  rintro e w1 ⟨rfl, hb1⟩
  have hs1 := hb1.size
  simp at hs1
  have hcell : w1.cell? ⟨w.heap.size, 0, none⟩ = some (.int .i64 kd) ∧ w1.cell? ⟨w.heap.size, 1, none⟩ = some (.int .i64 f) ∧ w1.cell? ⟨w.heap.size, 2, none⟩ = some (.int .i64 t) := by
    refine ⟨?_, ?_, ?_⟩
    · rw [hb1.cell (p := ⟨w.heap.size, 0, none⟩) (by simp)]; simp
    · rw [hb1.cell (p := ⟨w.heap.size, 1, none⟩) (by simp)]; simp
    · rw [hb1.cell (p := ⟨w.heap.size, 2, none⟩) (by simp)]; simp
  have HC := Lib.hid hcell; clear hcell
  have HW : Hid (Below w.heap.size w w1) := Lib.hid (HB.out.trans (hb1.mono HB.out.size))
  clear hb1
  generalize (⟨(tagL 1 (bits .and .i64 n 4 == 0)).toArray⟩ : ByteArray) = X
  go_wp2
  generalize wrap64 (11 + bits .and .i64 (n / 8) 1) = K
  generalize bits .and .i64 (n / 8) 1 = K1
  generalize bits .and .i64 n 4 = K2
  generalize (X.size : Int) = XL
  have H0 : Hd w w.heap.size w1.heap.size kd f t K 0 XL (w1.alloc (.cells #[.int .i64 K, .int .i64 0, .int .i64 XL] 30)) := by
    have hlt : w.heap.size < w1.heap.size := by omega
    have hbl : Below w.heap.size w (w1.alloc (.cells #[.int .i64 K, .int .i64 0, .int .i64 XL] 30)) := HW.out.alloc (by omega) _
    exact ⟨(World.cell?_alloc_lt w1 _ ⟨w.heap.size, 0, none⟩ hlt).trans HC.out.1, (World.cell?_alloc_lt w1 _ ⟨w.heap.size, 1, none⟩ hlt).trans HC.out.2.1, (World.cell?_alloc_lt w1 _ ⟨w.heap.size, 2, none⟩ hlt).trans HC.out.2.2, by simp, by simp, by simp, hbl, ht.below hbl, by simp; omega, by simp⟩
  generalize w1.alloc (.cells #[.int .i64 K, .int .i64 0, .int .i64 XL] 30) = V at H0 ⊢
  have H3 := H0.drew
  clear H0 HC HW hs1 HB
  generalize hb1 : w.heap.size = b1 at H3 ⊢
  generalize hb2 : w1.heap.size = b2 at H3 ⊢
  go_region_held3 (fun W => W.cell? ⟨b1, 0, none⟩ = some (.int .i64 kd) ∧ W.cell? ⟨b1, 1, none⟩ = some (.int .i64 f) ∧ W.cell? ⟨b1, 2, none⟩ = some (.int .i64 t) ∧ W.cell? ⟨b2, 0, none⟩ = some (.int .i64 K) ∧ W.cell? ⟨b2, 1, none⟩ = some (.int .i64 0) ∧ W.cell? ⟨b2, 2, none⟩ = some (.int .i64 XL) ∧ Hd w b1 b2 kd f t K 0 XL W)
    (first | exact ⟨H3.a0, H3.a1, H3.a2, H3.c0, H3.c1, H3.c2, H3⟩ | (rename_i h8; exact ⟨h8.a0, h8.a1, h8.a2, h8.c0, h8.c1, h8.c2, h8⟩))
    (first
      | (go_at_call 13; refine (Text_hd (w := w) (b1 := b1) (b2 := b2) (x0 := kd) (x1 := f) (x2 := t) (y0 := K) (y1 := 0) (y2 := XL) ?_ _ _ _).mono ?_; (assumption); rintro e w' ⟨rfl, _⟩)
      | (go_at_call 16; refine (TextR_hd (w := w) (b1 := b1) (b2 := b2) (x0 := kd) (x1 := f) (x2 := t) (y0 := K) (y1 := 0) (y2 := XL) ?_ _ _ _).mono ?_; (assumption); rintro e w' ⟨rfl, _⟩)
      | (go_at_call 14; refine (Tag_hd (w := w) (b1 := b1) (b2 := b2) (x0 := kd) (x1 := f) (x2 := t) (y0 := K) (y1 := 0) (y2 := XL) ?_ _ _ _).mono ?_; (assumption); rintro e w' ⟨rfl, _⟩)
      | (go_at_call 17; refine (TagR_hd (w := w) (b1 := b1) (b2 := b2) (x0 := kd) (x1 := f) (x2 := t) (y0 := K) (y1 := 0) (y2 := XL) ?_ _ _ _).mono ?_; (assumption); rintro e w' ⟨rfl, _⟩)
      | (go_at_call 9; refine (known_hd (w := w) (b1 := b1) (b2 := b2) (x0 := kd) (x1 := f) (x2 := t) (y0 := K) (y1 := 0) (y2 := XL) ?_).mono ?_; (assumption); rintro e w' ⟨rfl, _⟩))
  have h8 : Hd w b1 b2 kd f t K 0 XL w' := by assumption
  go_wp2
  go_ret
  exact ⟨rfl, by have := h8.bl; exact this⟩

theorem text_any (s : ByteArray) (kd f t n : Int) (w : World) (_hs : s.size ≤ maxLen) (ht : Tb w) :
    Calls Tryd.prog 6 #[.string s, .agg #[.int .i64 kd, .int .i64 f, .int .i64 t], .int .i64 n] w fun e w' => e = .returned (.bool true) ∧ Below w.heap.size w w' := by
  by_cases h : 1500 < s.size
  · exact text_long s kd f t n w ht h
  · have hn : n % 4 = 0 ∨ n % 4 = 1 ∨ n % 4 = 2 ∨ n % 4 = 3 := by omega
    rcases hn with hn | hn | hn | hn
    · exact text_0 s kd f t n w ht (by omega) hn
    · exact text_1 s kd f t n w ht (by omega) hn
    · exact text_2 s kd f t n w ht (by omega) hn
    · exact text_3 s kd f t n w ht (by omega) hn
end Go.Proofs.YthcclcoocoikoaaDoor.Tk
