/-
  The law TokenAlone, for every text.
-/
import Derived.Test.YthcclcoocoikoaaDoorTkTag
import Derived.Test.YthcclcoocoikoaaDoorTkCovers
import Derived.Deep.RegionHeld3
namespace Go.Proofs.YthcclcoocoikoaaDoor.Tk
open Go.RowKit

theorem alone_long (s : ByteArray) (w : World) (ht : Tb w) (h : 600 < s.size) :
    Calls Tryd.prog 5 #[.string s] w fun e w' => e = .returned (.bool true) ∧ Below w.heap.size w w' := by
  have h1 : (600 : Int) < (s.size : Int) := by omega
  go_enter Tryd.func5, Tryd.ntmps5
  go_wp2_with fail
  refine (known_any _ ht).mono ?_
  rintro e w1 ⟨rfl, hb⟩
  go_wp2
  go_ret
  exact ⟨rfl, hb⟩

/-- Two tokens among others in two blocks, and the tables, over a first world. -/
structure Ha (w : World) (b1 o1 b2 : Nat) (x0 x1 x2 y0 y2 : Int) (W : World) : Prop where
  a0 : W.cell? ⟨b1, o1, none⟩ = some (.int .i64 x0)
  a1 : W.cell? ⟨b1, o1 + 1, none⟩ = some (.int .i64 x1)
  a2 : W.cell? ⟨b1, o1 + 2, none⟩ = some (.int .i64 x2)
  c0 : W.cell? ⟨b2, 0, none⟩ = some (.int .i64 y0)
  c1 : W.cell? ⟨b2, 1, none⟩ = some (.int .i64 0)
  c2 : W.cell? ⟨b2, 2, none⟩ = some (.int .i64 y2)
  bl : Below w.heap.size w W
  tb : Tb W
  l1 : b1 < W.heap.size
  l2 : b2 < W.heap.size
section
variable {w W W' : World} {b1 o1 b2 : Nat} {x0 x1 x2 y0 y2 : Int} {s : ByteArray}
theorem Ha.below (h : Ha w b1 o1 b2 x0 x1 x2 y0 y2 W) (hb : Below W.heap.size W W') : Ha w b1 o1 b2 x0 x1 x2 y0 y2 W' :=
  ⟨(hb.cell (p := ⟨b1, o1, none⟩) h.l1).trans h.a0, (hb.cell (p := ⟨b1, o1 + 1, none⟩) h.l1).trans h.a1, (hb.cell (p := ⟨b1, o1 + 2, none⟩) h.l1).trans h.a2,
   (hb.cell (p := ⟨b2, 0, none⟩) h.l2).trans h.c0, (hb.cell (p := ⟨b2, 1, none⟩) h.l2).trans h.c1, (hb.cell (p := ⟨b2, 2, none⟩) h.l2).trans h.c2,
   h.bl.trans (hb.mono h.bl.size), h.tb.below hb, Nat.lt_of_lt_of_le h.l1 hb.size, Nat.lt_of_lt_of_le h.l2 hb.size⟩
theorem Ha.drew (h : Ha w b1 o1 b2 x0 x1 x2 y0 y2 W) : Ha w b1 o1 b2 x0 x1 x2 y0 y2 W.drew := h.below (Below.refl _ _).drew
theorem Tag_ha (h : Ha w b1 o1 b2 x0 x1 x2 y0 y2 W) (k f t : Int) : Calls Tryd.prog 14 #[.string s, .agg #[.int .i64 k, .int .i64 f, .int .i64 t]] W fun e w' => e = .returned (.int .i64 (tagOf k (textOf s.data.toList f t) 3 1 : Nat)) ∧ Ha w b1 o1 b2 x0 x1 x2 y0 y2 w' :=
  (Tag_any s k f t W h.tb).mono fun _ _ ⟨a, b⟩ => ⟨a, h.below b⟩
theorem Tag_al {xl : List UInt8} (h : Ha w b1 o1 b2 x0 x1 x2 y0 y2 W) (k f t : Int) (hx : textOf s.data.toList f t = xl) : Calls Tryd.prog 14 #[.string s, .agg #[.int .i64 k, .int .i64 f, .int .i64 t]] W fun e w' => e = .returned (.int .i64 (tagOf k xl 3 1 : Nat)) ∧ Ha w b1 o1 b2 x0 x1 x2 y0 y2 w' := by
  subst hx; exact Tag_ha h k f t
end

set_option maxRecDepth 100000 in
set_option maxHeartbeats 4000000 in
theorem alone_short (s : ByteArray) (w : World) (ht : Tb w) (h : s.size ≤ 600) :
    Calls Tryd.prog 5 #[.string s] w fun e w' => e = .returned (.bool true) ∧ Below w.heap.size w w' := by
  have h1 : ¬ (600 : Int) < (s.size : Int) := by omega
  have hal := scan_alone s.data.toList _ 0 0 (Nat.le_refl _) (Nat.le_refl _) (Nat.zero_le _) (fun j a b => by omega)
  have hrn := scan_range s.data.toList _ 0 0 (Nat.le_refl _) (Nat.le_refl _) (Nat.zero_le _)
  have hsl : Hid (s.data.toList.length = s.size) := Lib.hid rfl
  go_enter Tryd.func5, Tryd.ntmps5
  go_wp2_with fail
  refine (Scan_any _ _ ht (by omega)).mono ?_
  rintro e w1 ⟨v1, rfl, ho1, hb1⟩
  generalize scanL s.data.toList 0 0 = T at hal hrn ho1
  obtain ⟨A, c, rfl, l1, m1, r1⟩ := ho1.rd.ex
  unfold maxLen at m1
  have R1 := Lib.hid r1; have HA := Lib.hid hal; have HR := Lib.hid hrn; have HB := Lib.hid hb1
  have ht1 : Hid (Tb w1) := Lib.hid (ht.below hb1)
  clear r1 hal hrn hb1 ho1
  go_wp2
  go_loopw [5] (fun i wr => ∃ k : Nat, i = .int .i64 k ∧ k ≤ T.length ∧ Hid (Below w1.heap.size w1 wr)) (fun i _ => T.length - (intOf i).toNat)
  case atStart => exact ⟨0, rfl, Nat.zero_le _, Lib.hid (Below.refl _ _)⟩
  case round =>
    obtain ⟨k, rfl, hk, hb⟩ := hrel
    by_cases hlt : k < T.length
    · have hki : (k : Int) < (T.length : Int) := by omega
      obtain ⟨g, rfl, hg, q⟩ := R1.out (by omega)
      obtain ⟨x1, x2, x3⟩ := q k T[k] (List.getElem?_eq_getElem hlt)
      clear q
      have hone := HA.out T[k] (List.getElem_mem hlt)
      have hran := HR.out T[k] (List.getElem_mem hlt)
      obtain ⟨kd, f, t, hx⟩ : ∃ kd f t, T[k] = (kd, f, t) := ⟨_, _, _, rfl⟩
      rw [hx] at x1 x2 x3 hone hran
      clear hx
      unfold Alone at hone
      simp only at x1 x2 x3 hone hran
      rw [hsl.out] at hran
      have hz := hb.out.size
      have HT : Hid (textOf s.data.toList f t = (s.data.toList.drop f).take (t - f)) := Lib.hid (textOf_nat (by omega) (by rw [hsl.out]; omega))
      have hXl : ((s.data.toList.drop f).take (t - f)).length = t - f := by rw [List.length_take, List.length_drop, hsl.out]; omega
      obtain ⟨d, hde⟩ : ∃ d, t - f = d := ⟨_, rfl⟩
      have hdl : d ≤ 600 := by omega
      rw [hde] at HT hone hXl
      generalize hXe : (s.data.toList.drop f).take d = xl at HT hone hXl
      clear hde
      have hxs : (⟨xl.toArray⟩ : ByteArray).size = d := hXl
      have htx : Hid (textOf (⟨xl.toArray⟩ : ByteArray).data.toList 0 (d : Int) = xl) := Lib.hid (by
        have := textOf_nat (s := xl) (a := 0) (t := d) (Nat.zero_le _) (by omega)
        rw [Int.natCast_zero] at this
        show textOf xl 0 (d : Int) = xl
        rw [this, List.drop_zero, List.take_of_length_le (by omega)])
      clear hXe
      have HXS := Lib.hid hxs; clear hxs
      have HXL := Lib.hid hXl; clear hXl
      have HON := Lib.hid hone; clear hone
      have x1' : wr.cell? ⟨g, k * 3, none⟩ = some (.int .i64 kd) := (hb.out.cell (p := ⟨g, k * 3, none⟩) hg).trans x1
      have x2' : wr.cell? ⟨g, k * 3 + 1, none⟩ = some (.int .i64 f) := (hb.out.cell (p := ⟨g, k * 3 + 1, none⟩) hg).trans x2
      have x3' : wr.cell? ⟨g, k * 3 + 2, none⟩ = some (.int .i64 t) := (hb.out.cell (p := ⟨g, k * 3 + 2, none⟩) hg).trans x3
      clear x1 x2 x3
      go_wp2_with fail
      refine (Text_any s _ _ _ _).mono ?_
      rintro e w2 ⟨rfl, hb2⟩
      rw [HT.out]
      have HB2 : Hid (Below w1.heap.size w1 w2) := Lib.hid (hb.out.trans (hb2.mono hz))
      have ht2 : Hid (Tb w2) := Lib.hid (ht1.out.below HB2.out)
      have x1 : w2.cell? ⟨g, k * 3, none⟩ = some (.int .i64 kd) := (hb2.cell (p := ⟨g, k * 3, none⟩) (by show g < _; omega)).trans x1'
      have x2 : w2.cell? ⟨g, k * 3 + 1, none⟩ = some (.int .i64 f) := (hb2.cell (p := ⟨g, k * 3 + 1, none⟩) (by show g < _; omega)).trans x2'
      have x3 : w2.cell? ⟨g, k * 3 + 2, none⟩ = some (.int .i64 t) := (hb2.cell (p := ⟨g, k * 3 + 2, none⟩) (by show g < _; omega)).trans x3'
      clear hb2 x1' x2' x3'
      go_wp2_with fail
      refine (Scan_any _ _ ht2.out (by rw [HXS.out]; omega)).mono ?_
      rintro e w3 ⟨v3, rfl, ho3, hb3⟩
      have HO3 : Own w3 w2.heap.size v3 [(kd, 0, d)] := by
        have := HON.out
        rw [← this]; exact ho3
      obtain ⟨A3, c3, rfl, l3, m3, r3⟩ := HO3.rd.ex
      obtain ⟨g3, rfl, hg3, q3⟩ := r3 (by simp)
      obtain ⟨z1, z2, z3⟩ := q3 0 _ rfl
      simp only at z1 z2 z3
      simp only [List.length_singleton] at l3
      unfold maxLen at m3
      have hs3 := hb3.size
      have hzz := HB2.out.size
      have H0 : Ha w3 g (k * 3) g3 kd f t kd d w3 := by
        have hbl : Below w.heap.size w w3 := HB.out.trans ((HB2.out.mono HB.out.size).trans (hb3.mono (by have := HB.out.size; omega)))
        have hgl : g < w2.heap.size := by omega
        exact ⟨(hb3.cell (p := ⟨g, k * 3, none⟩) hgl).trans x1, (hb3.cell (p := ⟨g, k * 3 + 1, none⟩) hgl).trans x2, (hb3.cell (p := ⟨g, k * 3 + 2, none⟩) hgl).trans x3, by simpa using z1, by simpa using z2, by simpa using z3, Below.refl _ _, ht.below hbl, by omega, hg3⟩
      have HB3 : Hid (Below w1.heap.size w1 w3) := Lib.hid (HB2.out.trans (hb3.mono hzz))
      have H3 := H0.drew
      clear H0 ho3 HO3 r3 q3 z1 z2 z3 x1 x2 x3 hb3
      go_wp2
      have hXl := HXL.out
      have c3' : (1 : Int) ≤ (c3 : Int) := by omega
      clear hran
      go_region_held3 (fun W => W.cell? ⟨g, k * 3, none⟩ = some (.int .i64 kd) ∧ W.cell? ⟨g, k * 3 + 1, none⟩ = some (.int .i64 f) ∧ W.cell? ⟨g, k * 3 + 2, none⟩ = some (.int .i64 t) ∧ W.cell? ⟨g3, 0, none⟩ = some (.int .i64 kd) ∧ W.cell? ⟨g3, 1, none⟩ = some (.int .i64 0) ∧ W.cell? ⟨g3, 2, none⟩ = some (.int .i64 d) ∧ Ha w3 g (k * 3) g3 kd f t kd d W)
        (first | exact ⟨H3.a0, H3.a1, H3.a2, H3.c0, H3.c1, H3.c2, H3⟩ | (rename_i h8; exact ⟨h8.a0, h8.a1, h8.a2, h8.c0, h8.c1, h8.c2, h8⟩))
        (first
          | (go_at_call 14; refine (Tag_al (w := w3) (b1 := g) (o1 := k * 3) (b2 := g3) (x0 := kd) (x1 := f) (x2 := t) (y0 := kd) (y2 := d) (xl := xl) ?_ _ _ _ ?_).mono ?_; (assumption); (first | exact htx.out | exact HT.out); rintro e w' ⟨rfl, _⟩))
      have h8 : Ha w3 g (k * 3) g3 kd f t kd d w' := by assumption
      go_wp2
      go_roundw
      case rel => exact ⟨k + 1, by go_num, by omega, Lib.hid (HB3.out.trans (h8.bl.mono (by omega)))⟩
      case measure => simp [intOf]; omega
    · go_wp2_with fail
      refine (known_any _ (ht1.out.below hb.out)).mono ?_
      rintro e w2 ⟨rfl, hb2⟩
      go_wp2
      go_ret
      exact ⟨rfl, HB.out.trans ((hb.out.mono HB.out.size).trans (hb2.mono (Nat.le_trans HB.out.size hb.out.size)))⟩
theorem alone_any (s : ByteArray) (w : World) (_hs : s.size ≤ maxLen) (ht : Tb w) :
    Calls Tryd.prog 5 #[.string s] w fun e w' => e = .returned (.bool true) ∧ Below w.heap.size w w' := by
  by_cases h : 600 < s.size
  · exact alone_long s w ht h
  · exact alone_short s w ht (by omega)
end Go.Proofs.YthcclcoocoikoaaDoor.Tk
