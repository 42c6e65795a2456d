/-
  The law NumberNearest returns true for all integers, in every world that holds the library's table.
-/
import Derived.Test.YtgnhihgimeiphaaDoorNuNm2
import Derived.Deep.RegionHeld3
import Derived.Deep.RegionWith
import Derived.Deep.Cut
import Derived.Deep.CutRange
namespace Go.Proofs.YtgnhihgimeiphaaDoor.Nu
open Go.RowKit
set_option linter.unusedVariables false

theorem undrew1 {B : Nat} {w w' : World} (h : Below B w.drew w') : Below B w w' := (below_drewN (Below.refl B w) 1).trans h
theorem ne_a {w w2 w3 : World} {b : Nat} {xn xd rn rd : Int} (k : Int) (F : Nm w2 b xn xd) (H : Below w.heap.size w w2) (hb : Below (w2.alloc (box rn rd)).heap.size (w2.alloc (box rn rd)) w3) :
    Hid (Nm (w3.alloc (box k 1)) b xn xd ∧ Nm (w3.alloc (box k 1)) w2.heap.size rn rd ∧ Nm (w3.alloc (box k 1)) w3.heap.size k 1 ∧ Below w.heap.size w (w3.alloc (box k 1))) :=
  Lib.hid ⟨(F.past1 hb).old _, (new1_0 hb).old _, Nm.new w3 k 1, bl_a1 (bl1 H hb) _⟩
theorem ne_b {w w2 w3 : World} {b : Nat} {xn xd rn rd : Int} (k : Int) (F : Nm w2 b xn xd) (H : Below w.heap.size w w2) (hb : Below ((w2.alloc (box rn rd)).alloc (box 0 0)).heap.size ((w2.alloc (box rn rd)).alloc (box 0 0)) w3) :
    Hid (Nm ((w3.setCell ⟨w2.heap.size + 1, 0, none⟩ (.int .i64 k)).setCell ⟨w2.heap.size + 1, 1, none⟩ (.int .i64 1)) b xn xd ∧ Nm ((w3.setCell ⟨w2.heap.size + 1, 0, none⟩ (.int .i64 k)).setCell ⟨w2.heap.size + 1, 1, none⟩ (.int .i64 1)) w2.heap.size rn rd ∧
      Nm ((w3.setCell ⟨w2.heap.size + 1, 0, none⟩ (.int .i64 k)).setCell ⟨w2.heap.size + 1, 1, none⟩ (.int .i64 1)) (w2.heap.size + 1) k 1 ∧ Below w.heap.size w ((w3.setCell ⟨w2.heap.size + 1, 0, none⟩ (.int .i64 k)).setCell ⟨w2.heap.size + 1, 1, none⟩ (.int .i64 1))) := by
  have hl := F.lt
  have hs := H.size
  exact Lib.hid ⟨(F.past2 hb).far' (by omega) _ _, (new2_0 hb).far' (by omega) _ _, (new2_1 hb).set k 1, ((bl2 H hb).setCell (p := ⟨w2.heap.size + 1, 0, none⟩) (by show w.heap.size ≤ w2.heap.size + 1; omega) _).setCell (p := ⟨w2.heap.size + 1, 1, none⟩) (by show w.heap.size ≤ w2.heap.size + 1; omega) _⟩
set_option maxRecDepth 100000 in
set_option maxHeartbeats 4000000 in
theorem NE_near (a b places xn xd rn rd k dn dd de P c1 c2 : Int) (w : World) (ht : Tb w)
    (j : Nat)
    (hj : places % 4 = (j : Int))
    (hj3 : j ≤ 3)
    (p1 : 1 ≤ P)
    (p2 : P ≤ 1000)
    (h1 : c1 ≤ 0)
    (h2 : 0 ≤ c2)
    (hv : okB 1 (2 * P) = true)
    (O1 : Cl 42 #[.int .i64 a, .int .i64 b] (.agg #[.int .i64 xn, .int .i64 xd]))
    (CR : Cl 33 #[.agg #[.int .i64 xn, .int .i64 xd], .int .i64 (j : Int)] (.tuple #[.agg #[.int .i64 rn, .int .i64 rd], .int .i64 0]))
    (CP : ∀ w : World, Calls Tryd.prog 41 #[.int .i64 (j : Int)] w fun e w' => e = .returned (.int .i64 P) ∧ w = w')
    (CM : Cl 23 #[.agg #[.int .i64 rn, .int .i64 rd], .agg #[.int .i64 P, .int .i64 1]] (.tuple #[.agg #[.int .i64 k, .int .i64 1], .int .i64 0]))
    (CD : Cl 21 #[.agg #[.int .i64 xn, .int .i64 xd], .agg #[.int .i64 rn, .int .i64 rd]] (.tuple #[.agg #[.int .i64 dn, .int .i64 dd], .int .i64 0]))
    (CZ : Cl 21 #[.agg #[.int .i64 0, .int .i64 1], .agg #[.int .i64 1, .int .i64 (2 * P)]] (.tuple #[.agg #[.int .i64 (-1), .int .i64 (2 * P)], .int .i64 0]))
    (C1 : Cl 29 #[.agg #[.int .i64 dn, .int .i64 dd], .agg #[.int .i64 1, .int .i64 (2 * P)]] (.int .i64 c1))
    (C2 : Cl 29 #[.agg #[.int .i64 dn, .int .i64 dd], .agg #[.int .i64 (-1), .int .i64 (2 * P)]] (.int .i64 c2))
    : Calls Tryd.prog 12 #[.int .i64 a, .int .i64 b, .int .i64 places] w fun e w' => e = .returned (.bool true) ∧ Below w.heap.size w w' := by
  have hp0 := i64_and3 places
  rw [hj] at hp0
  have e2 : IntKind.i64.wrap (2 * P) = 2 * P := IntWalk.i64_in _ (by omega)
  have HJ := Lib.hid hj; clear hj
  have d2 : decide (c1 ≤ 0) = true := by simpa using h1
  have d3 : decide (0 ≤ c2) = true := by simpa using h2
  go_enter Tryd.func12, Tryd.ntmps12
  go_wp2_with fail
  refine (O1 _).mono ?_
  rintro e w1 ⟨rfl, hb1⟩
  have HB1 := Lib.hid hb1
  clear hb1
  go_wp2_with fail
  refine (CR _).mono ?_
  rintro e w2 ⟨rfl, hb2⟩
  have Fx : Nm w2 _ xn xd := new1_0 hb2
  have HB2 := Lib.hid (bl1 HB1.out hb2)
  clear hb2
  have cx0 := Fx.c0; have cx1 := Fx.c1; have cxl := Fx.lt
  go_upto_region 3 with fail
  go_cut [11, 12] from 29 to 36 (fun s11 s12 wx => s12 = .int .i64 0 ∧ ∃ g, s11 = .pointer (some ⟨g, 0, none⟩) ∧ Hid (Nm wx w1.heap.size xn xd ∧ Nm wx w2.heap.size rn rd ∧ Nm wx g k 1 ∧ Below w.heap.size w wx))
  case first =>
    have k0 : (w2.alloc (box rn rd)).cell? ⟨w2.heap.size, 0, none⟩ = some (.int .i64 rn) := cell_new w2 _ _ 0 _ rfl
    have k1 : (w2.alloc (box rn rd)).cell? ⟨w2.heap.size, 1, none⟩ = some (.int .i64 rd) := cell_new w2 _ _ 1 _ rfl
    go_region_with (first | (go_at_call 41; refine (CP _).mono ?_; rintro e w' ⟨rfl, rfl⟩) | (go_at_call 23; refine (CM _).mono ?_; rintro e w3 ⟨rfl, hb3⟩; obtain ⟨hc3, hf3⟩ := bcell hb3))
    all_goals
      go_wp2_with fail
      go_meet
      first
        | exact ⟨rfl, _, rfl, ne_a k Fx HB2.out (undrew1 hb3)⟩
        | exact ⟨rfl, _, rfl, ne_b k Fx HB2.out (undrew1 hb3)⟩
  case rest =>
  obtain ⟨rfl, g, rfl, H⟩ := hcut
  obtain ⟨hx3, hr3, hu3, hb3⟩ := H.out
  clear H
  clear cx0 cx1 cxl
  have Fx := hx3
  have Fr := hr3
  have Fu := hu3
  have HB3 := Lib.hid hb3
  clear hx3 hr3 hu3 hb3
  have cx0 := Fx.c0; have cx1 := Fx.c1; have cxl := Fx.lt
  have cr0 := Fr.c0; have cr1 := Fr.c1; have crl := Fr.lt
  have cu0 := Fu.c0; have cu1 := Fu.c1; have cul := Fu.lt
  go_wp2_with fail
  refine (CD _).mono ?_
  clear cx0 cx1 cxl cr0 cr1 crl cu0 cu1 cul
  rintro e w4 ⟨rfl, hb4⟩
  have Fx := Fx.past0 hb4
  have Fr := Fr.past0 hb4
  have Fu := Fu.past0 hb4
  have HB4 := Lib.hid (bl0 HB3.out hb4)
  clear hb4
  have cx0 := Fx.c0; have cx1 := Fx.c1; have cxl := Fx.lt
  have cr0 := Fr.c0; have cr1 := Fr.c1; have crl := Fr.lt
  have cu0 := Fu.c0; have cu1 := Fu.c1; have cul := Fu.lt
  go_wp2_with fail
  refine (CP _).mono ?_
  clear cx0 cx1 cxl cr0 cr1 crl cu0 cu1 cul
  rintro e w' ⟨rfl, rfl⟩
  have cx0 := Fx.c0; have cx1 := Fx.c1; have cxl := Fx.lt
  have cr0 := Fr.c0; have cr1 := Fr.c1; have crl := Fr.lt
  have cu0 := Fu.c0; have cu1 := Fu.c1; have cul := Fu.lt
  go_wp2_with fail
  refine (RValid_yes hv _).mono ?_
  clear cx0 cx1 cxl cr0 cr1 crl cu0 cu1 cul
  rintro e w5 ⟨rfl, hb5⟩
  have Fx := Fx.past2 hb5
  have Fr := Fr.past2 hb5
  have Fu := Fu.past2 hb5
  have Fd : Nm w5 _ dn dd := new2_0 hb5
  have Fh : Nm w5 _ 1 (2 * P) := new2_1 hb5
  have HB5 := Lib.hid (bl2 HB4.out hb5)
  clear hb5
  have cx0 := Fx.c0; have cx1 := Fx.c1; have cxl := Fx.lt
  have cr0 := Fr.c0; have cr1 := Fr.c1; have crl := Fr.lt
  have cu0 := Fu.c0; have cu1 := Fu.c1; have cul := Fu.lt
  have cd0 := Fd.c0; have cd1 := Fd.c1; have cdl := Fd.lt
  have ch0 := Fh.c0; have ch1 := Fh.c1; have chl := Fh.lt
  go_wp2_with fail
  refine (CZ _).mono ?_
  clear cx0 cx1 cxl cr0 cr1 crl cu0 cu1 cul cd0 cd1 cdl ch0 ch1 chl
  rintro e w6 ⟨rfl, hb6⟩
  have Fx := Fx.past0 hb6
  have Fr := Fr.past0 hb6
  have Fu := Fu.past0 hb6
  have Fd := Fd.past0 hb6
  have Fh := Fh.past0 hb6
  have HB6 := Lib.hid (bl0 HB5.out hb6)
  clear hb6
  have cx0 := Fx.c0; have cx1 := Fx.c1; have cxl := Fx.lt
  have cr0 := Fr.c0; have cr1 := Fr.c1; have crl := Fr.lt
  have cu0 := Fu.c0; have cu1 := Fu.c1; have cul := Fu.lt
  have cd0 := Fd.c0; have cd1 := Fd.c1; have cdl := Fd.lt
  have ch0 := Fh.c0; have ch1 := Fh.c1; have chl := Fh.lt
  go_wp2_with fail
  refine (C1 _).mono ?_
  clear cx0 cx1 cxl cr0 cr1 crl cu0 cu1 cul cd0 cd1 cdl ch0 ch1 chl
  rintro e w7 ⟨rfl, hb7⟩
  have Fx := Fx.past1 hb7
  have Fr := Fr.past1 hb7
  have Fu := Fu.past1 hb7
  have Fd := Fd.past1 hb7
  have Fh := Fh.past1 hb7
  have Fm : Nm w7 _ (-1) (2 * P) := new1_0 hb7
  have HB7 := Lib.hid (bl1 HB6.out hb7)
  clear hb7
  have cx0 := Fx.c0; have cx1 := Fx.c1; have cxl := Fx.lt
  have cr0 := Fr.c0; have cr1 := Fr.c1; have crl := Fr.lt
  have cu0 := Fu.c0; have cu1 := Fu.c1; have cul := Fu.lt
  have cd0 := Fd.c0; have cd1 := Fd.c1; have cdl := Fd.lt
  have ch0 := Fh.c0; have ch1 := Fh.c1; have chl := Fh.lt
  have cm0 := Fm.c0; have cm1 := Fm.c1; have cml := Fm.lt
  go_wp2_with fail
  refine (C2 _).mono ?_
  clear cx0 cx1 cxl cr0 cr1 crl cu0 cu1 cul cd0 cd1 cdl ch0 ch1 chl cm0 cm1 cml
  rintro e w8 ⟨rfl, hb8⟩
  have Fx := Fx.past0 hb8
  have Fr := Fr.past0 hb8
  have Fu := Fu.past0 hb8
  have Fd := Fd.past0 hb8
  have Fh := Fh.past0 hb8
  have Fm := Fm.past0 hb8
  have HB8 := Lib.hid (bl0 HB7.out hb8)
  clear hb8
  have cx0 := Fx.c0; have cx1 := Fx.c1; have cxl := Fx.lt
  have cr0 := Fr.c0; have cr1 := Fr.c1; have crl := Fr.lt
  have cu0 := Fu.c0; have cu1 := Fu.c1; have cul := Fu.lt
  have cd0 := Fd.c0; have cd1 := Fd.c1; have cdl := Fd.lt
  have ch0 := Fh.c0; have ch1 := Fh.c1; have chl := Fh.lt
  have cm0 := Fm.c0; have cm1 := Fm.c1; have cml := Fm.lt
  go_wp2_with fail
  refine (known_any _ (ht.below HB8.out)).mono ?_
  clear cx0 cx1 cxl cr0 cr1 crl cu0 cu1 cul cd0 cd1 cdl ch0 ch1 chl cm0 cm1 cml
  rintro e w9 ⟨rfl, hb9⟩
  have Fx := Fx.past0 hb9
  have Fr := Fr.past0 hb9
  have Fu := Fu.past0 hb9
  have Fd := Fd.past0 hb9
  have Fh := Fh.past0 hb9
  have Fm := Fm.past0 hb9
  have HB9 := Lib.hid (bl0 HB8.out hb9)
  clear hb9
  have cx0 := Fx.c0; have cx1 := Fx.c1; have cxl := Fx.lt
  have cr0 := Fr.c0; have cr1 := Fr.c1; have crl := Fr.lt
  have cu0 := Fu.c0; have cu1 := Fu.c1; have cul := Fu.lt
  have cd0 := Fd.c0; have cd1 := Fd.c1; have cdl := Fd.lt
  have ch0 := Fh.c0; have ch1 := Fh.c1; have chl := Fh.lt
  have cm0 := Fm.c0; have cm1 := Fm.c1; have cml := Fm.lt
  go_wp2
  go_ret
  exact ⟨rfl, HB9.out⟩
set_option maxRecDepth 100000 in
set_option maxHeartbeats 4000000 in
theorem NE_far (a b places xn xd rn rd k dn dd de P c1 c2 : Int) (w : World) (ht : Tb w)
    (j : Nat)
    (hj : places % 4 = (j : Int))
    (hj3 : j ≤ 3)
    (p1 : 1 ≤ P)
    (p2 : P ≤ 1000)
    (h1 : de ≠ 0)
    (hv : okB 1 (2 * P) = true)
    (O1 : Cl 42 #[.int .i64 a, .int .i64 b] (.agg #[.int .i64 xn, .int .i64 xd]))
    (CR : Cl 33 #[.agg #[.int .i64 xn, .int .i64 xd], .int .i64 (j : Int)] (.tuple #[.agg #[.int .i64 rn, .int .i64 rd], .int .i64 0]))
    (CP : ∀ w : World, Calls Tryd.prog 41 #[.int .i64 (j : Int)] w fun e w' => e = .returned (.int .i64 P) ∧ w = w')
    (CM : Cl 23 #[.agg #[.int .i64 rn, .int .i64 rd], .agg #[.int .i64 P, .int .i64 1]] (.tuple #[.agg #[.int .i64 k, .int .i64 1], .int .i64 0]))
    (CD : Cl 21 #[.agg #[.int .i64 xn, .int .i64 xd], .agg #[.int .i64 rn, .int .i64 rd]] (.tuple #[.agg #[.int .i64 dn, .int .i64 dd], .int .i64 de]))
    (CZ : Cl 21 #[.agg #[.int .i64 0, .int .i64 1], .agg #[.int .i64 1, .int .i64 (2 * P)]] (.tuple #[.agg #[.int .i64 (-1), .int .i64 (2 * P)], .int .i64 0]))
    (C1 : Cl 29 #[.agg #[.int .i64 dn, .int .i64 dd], .agg #[.int .i64 1, .int .i64 (2 * P)]] (.int .i64 c1))
    (C2 : Cl 29 #[.agg #[.int .i64 dn, .int .i64 dd], .agg #[.int .i64 (-1), .int .i64 (2 * P)]] (.int .i64 c2))
    : Calls Tryd.prog 12 #[.int .i64 a, .int .i64 b, .int .i64 places] w fun e w' => e = .returned (.bool true) ∧ Below w.heap.size w w' := by
  have hp0 := i64_and3 places
  rw [hj] at hp0
  have e2 : IntKind.i64.wrap (2 * P) = 2 * P := IntWalk.i64_in _ (by omega)
  have HJ := Lib.hid hj; clear hj
  have d2 : (de == 0) = false := by simpa using h1
  clear h1
  go_enter Tryd.func12, Tryd.ntmps12
  go_wp2_with fail
  refine (O1 _).mono ?_
  rintro e w1 ⟨rfl, hb1⟩
  have HB1 := Lib.hid hb1
  clear hb1
  go_wp2_with fail
  refine (CR _).mono ?_
  rintro e w2 ⟨rfl, hb2⟩
  have Fx : Nm w2 _ xn xd := new1_0 hb2
  have HB2 := Lib.hid (bl1 HB1.out hb2)
  clear hb2
  have cx0 := Fx.c0; have cx1 := Fx.c1; have cxl := Fx.lt
  go_upto_region 3 with fail
  go_cut [11, 12] from 29 to 36 (fun s11 s12 wx => s12 = .int .i64 0 ∧ ∃ g, s11 = .pointer (some ⟨g, 0, none⟩) ∧ Hid (Nm wx w1.heap.size xn xd ∧ Nm wx w2.heap.size rn rd ∧ Nm wx g k 1 ∧ Below w.heap.size w wx))
  case first =>
    have k0 : (w2.alloc (box rn rd)).cell? ⟨w2.heap.size, 0, none⟩ = some (.int .i64 rn) := cell_new w2 _ _ 0 _ rfl
    have k1 : (w2.alloc (box rn rd)).cell? ⟨w2.heap.size, 1, none⟩ = some (.int .i64 rd) := cell_new w2 _ _ 1 _ rfl
    go_region_with (first | (go_at_call 41; refine (CP _).mono ?_; rintro e w' ⟨rfl, rfl⟩) | (go_at_call 23; refine (CM _).mono ?_; rintro e w3 ⟨rfl, hb3⟩; obtain ⟨hc3, hf3⟩ := bcell hb3))
    all_goals
      go_wp2_with fail
      go_meet
      first
        | exact ⟨rfl, _, rfl, ne_a k Fx HB2.out (undrew1 hb3)⟩
        | exact ⟨rfl, _, rfl, ne_b k Fx HB2.out (undrew1 hb3)⟩
  case rest =>
  obtain ⟨rfl, g, rfl, H⟩ := hcut
  obtain ⟨hx3, hr3, hu3, hb3⟩ := H.out
  clear H
  clear cx0 cx1 cxl
  have Fx := hx3
  have Fr := hr3
  have Fu := hu3
  have HB3 := Lib.hid hb3
  clear hx3 hr3 hu3 hb3
  have cx0 := Fx.c0; have cx1 := Fx.c1; have cxl := Fx.lt
  have cr0 := Fr.c0; have cr1 := Fr.c1; have crl := Fr.lt
  have cu0 := Fu.c0; have cu1 := Fu.c1; have cul := Fu.lt
  go_wp2_with fail
  refine (CD _).mono ?_
  clear cx0 cx1 cxl cr0 cr1 crl cu0 cu1 cul
  rintro e w4 ⟨rfl, hb4⟩
  have Fx := Fx.past0 hb4
  have Fr := Fr.past0 hb4
  have Fu := Fu.past0 hb4
  have HB4 := Lib.hid (bl0 HB3.out hb4)
  clear hb4
  have cx0 := Fx.c0; have cx1 := Fx.c1; have cxl := Fx.lt
  have cr0 := Fr.c0; have cr1 := Fr.c1; have crl := Fr.lt
  have cu0 := Fu.c0; have cu1 := Fu.c1; have cul := Fu.lt
  go_wp2_with fail
  refine (CP _).mono ?_
  clear cx0 cx1 cxl cr0 cr1 crl cu0 cu1 cul
  rintro e w' ⟨rfl, rfl⟩
  have cx0 := Fx.c0; have cx1 := Fx.c1; have cxl := Fx.lt
  have cr0 := Fr.c0; have cr1 := Fr.c1; have crl := Fr.lt
  have cu0 := Fu.c0; have cu1 := Fu.c1; have cul := Fu.lt
  go_wp2_with fail
  refine (RValid_yes hv _).mono ?_
  clear cx0 cx1 cxl cr0 cr1 crl cu0 cu1 cul
  rintro e w5 ⟨rfl, hb5⟩
  have Fx := Fx.past2 hb5
  have Fr := Fr.past2 hb5
  have Fu := Fu.past2 hb5
  have Fd : Nm w5 _ dn dd := new2_0 hb5
  have Fh : Nm w5 _ 1 (2 * P) := new2_1 hb5
  have HB5 := Lib.hid (bl2 HB4.out hb5)
  clear hb5
  have cx0 := Fx.c0; have cx1 := Fx.c1; have cxl := Fx.lt
  have cr0 := Fr.c0; have cr1 := Fr.c1; have crl := Fr.lt
  have cu0 := Fu.c0; have cu1 := Fu.c1; have cul := Fu.lt
  have cd0 := Fd.c0; have cd1 := Fd.c1; have cdl := Fd.lt
  have ch0 := Fh.c0; have ch1 := Fh.c1; have chl := Fh.lt
  go_wp2_with fail
  refine (known_any _ (ht.below HB5.out)).mono ?_
  clear cx0 cx1 cxl cr0 cr1 crl cu0 cu1 cul cd0 cd1 cdl ch0 ch1 chl
  rintro e w6 ⟨rfl, hb6⟩
  have Fx := Fx.past0 hb6
  have Fr := Fr.past0 hb6
  have Fu := Fu.past0 hb6
  have Fd := Fd.past0 hb6
  have Fh := Fh.past0 hb6
  have HB6 := Lib.hid (bl0 HB5.out hb6)
  clear hb6
  have cx0 := Fx.c0; have cx1 := Fx.c1; have cxl := Fx.lt
  have cr0 := Fr.c0; have cr1 := Fr.c1; have crl := Fr.lt
  have cu0 := Fu.c0; have cu1 := Fu.c1; have cul := Fu.lt
  have cd0 := Fd.c0; have cd1 := Fd.c1; have cdl := Fd.lt
  have ch0 := Fh.c0; have ch1 := Fh.c1; have chl := Fh.lt
  go_wp2
  go_ret
  exact ⟨rfl, HB6.out⟩
theorem NumberNearest_any (a b places : Int) (w : World) (ht : Tb w) : Calls Tryd.prog 12 #[.int .i64 a, .int .i64 b, .int .i64 places] w fun e w' => e = .returned (.bool true) ∧ Below w.heap.size w w' := by
  have hx := sm_of a b
  obtain ⟨j, hj⟩ : ∃ j : Nat, places % 4 = (j : Int) := ⟨(places % 4).toNat, by omega⟩
  have hj3 : j ≤ 3 := by omega
  have hn := rnd_ne hx hj3
  obtain ⟨p1, p2⟩ := pw_three hj3
  obtain ⟨k, ek⟩ := hn.mul
  have eR := r3_eq hn.e
  have I1 := i64_sm hn.ok
  have I2 : I64 1 := by unfold I64; omega
  by_cases hd : (sub (ofN a b) (ofD a b) (rnd (ofN a b) (ofD a b) j).n (rnd (ofN a b) (ofD a b) j).d).e = 0
  · obtain ⟨q1, q2⟩ := hn.near hd
    exact NE_near a b places _ _ _ _ _ _ _ 0 _ _ _ w ht j hj hj3 p1 p2 q1 q2 hn.half (cl_of a b) (cl_rnd eR) (fun w => Power_any j w (by omega)) (cl_mul ek) (cl_sub (r3_eq hd) I1) (cl_sub hn.m I2) (cl_cmp rfl) (cl_cmp rfl)
  · exact NE_far a b places _ _ _ _ _ _ _ _ _ _ _ w ht j hj hj3 p1 p2 hd hn.half (cl_of a b) (cl_rnd eR) (fun w => Power_any j w (by omega)) (cl_mul ek) (cl_sub rfl I1) (cl_sub hn.m I2) (cl_cmp rfl) (cl_cmp rfl)
end Go.Proofs.YtgnhihgimeiphaaDoor.Nu
