/-
  The law NumberOrder returns true for all integers, in every world that holds the library's table.
-/
import Derived.Test.YtgnhihgimeiphaaDoorNuNm
namespace Go.Proofs.YtgnhihgimeiphaaDoor.Nu
open Go.RowKit

theorem cmp_range (a p b q : Int) : -1 ≤ cmp a p b q ∧ cmp a p b q ≤ 1 := by
  unfold cmp
  split
  · split
    · omega
    · split <;> omega
  · omega
set_option maxRecDepth 100000 in
set_option maxHeartbeats 4000000 in
theorem OR_1 (a b c d e f xn xd yn yd zn zd sn sd tn td k : Int) (w : World) (ht : Tb w)
    (hk1 : -1 ≤ k)
    (hk2 : k ≤ 1)
    (hE : eqN xn xd yn yd = (k == 0))
    (h1 : 0 < k)
    (O1 : Cl 42 #[.int .i64 a, .int .i64 d] (.agg #[.int .i64 xn, .int .i64 xd]))
    (O2 : Cl 42 #[.int .i64 b, .int .i64 e] (.agg #[.int .i64 yn, .int .i64 yd]))
    (O3 : Cl 42 #[.int .i64 c, .int .i64 f] (.agg #[.int .i64 zn, .int .i64 zd]))
    (C1 : Cl 29 #[.agg #[.int .i64 xn, .int .i64 xd], .agg #[.int .i64 yn, .int .i64 yd]] (.int .i64 k))
    (C2 : Cl 29 #[.agg #[.int .i64 yn, .int .i64 yd], .agg #[.int .i64 xn, .int .i64 xd]] (.int .i64 (-k)))
    (CS : Cl 19 #[.agg #[.int .i64 xn, .int .i64 xd], .agg #[.int .i64 zn, .int .i64 zd]] (.tuple #[.agg #[.int .i64 sn, .int .i64 sd], .int .i64 0]))
    (CT : Cl 19 #[.agg #[.int .i64 yn, .int .i64 yd], .agg #[.int .i64 zn, .int .i64 zd]] (.tuple #[.agg #[.int .i64 tn, .int .i64 td], .int .i64 0]))
    (C5 : Cl 29 #[.agg #[.int .i64 sn, .int .i64 sd], .agg #[.int .i64 tn, .int .i64 td]] (.int .i64 k))
    : Calls Tryd.prog 13 #[.int .i64 a, .int .i64 b, .int .i64 c, .int .i64 d, .int .i64 e, .int .i64 f] w fun e w' => e = .returned (.bool true) ∧ Below w.heap.size w w' := by
  have d1 : decide (k ≤ 0) = false := by rw [decide_eq_false_iff_not]; omega
  have ew : IntKind.i64.wrap k = k := IntWalk.i64_in _ (by omega)
  have ew2 : IntKind.i64.wrap (- -k) = k := by rw [Int.neg_neg]; exact ew
  have eq := eq_num xn xd yn yd
  rw [hE] at eq
  clear hE
  go_enter Tryd.func13, Tryd.ntmps13
  go_wp2_with fail
  refine (O1 _).mono ?_
  rintro e w1 ⟨rfl, hb1⟩
  have HB1 := Lib.hid hb1
  clear hb1
  go_wp2_with fail
  refine (O2 _).mono ?_
  rintro e w2 ⟨rfl, hb2⟩
  have HB2 := Lib.hid (bl0 HB1.out hb2)
  clear hb2
  go_wp2_with fail
  refine (O3 _).mono ?_
  rintro e w3 ⟨rfl, hb3⟩
  have HB3 := Lib.hid (bl0 HB2.out hb3)
  clear hb3
  go_wp2_with fail
  refine (C1 _).mono ?_
  rintro e w4 ⟨rfl, hb4⟩
  have Fx : Nm w4 _ xn xd := new3_0 hb4
  have Fy : Nm w4 _ yn yd := new3_1 hb4
  have Fz : Nm w4 _ zn zd := new3_2 hb4
  have HB4 := Lib.hid (bl3 HB3.out hb4)
  clear hb4
  have cx0 := Fx.c0; have cx1 := Fx.c1; have cxl := Fx.lt
  have cy0 := Fy.c0; have cy1 := Fy.c1; have cyl := Fy.lt
  have cz0 := Fz.c0; have cz1 := Fz.c1; have czl := Fz.lt
  go_wp2_with fail
  refine (C2 _).mono ?_
  clear cx0 cx1 cxl cy0 cy1 cyl cz0 cz1 czl
  rintro e w5 ⟨rfl, hb5⟩
  have Fx := Fx.past0 hb5
  have Fy := Fy.past0 hb5
  have Fz := Fz.past0 hb5
  have HB5 := Lib.hid (bl0 HB4.out hb5)
  clear hb5
  have cx0 := Fx.c0; have cx1 := Fx.c1; have cxl := Fx.lt
  have cy0 := Fy.c0; have cy1 := Fy.c1; have cyl := Fy.lt
  have cz0 := Fz.c0; have cz1 := Fz.c1; have czl := Fz.lt
  go_wp2_with fail
  refine (CS _).mono ?_
  clear cx0 cx1 cxl cy0 cy1 cyl cz0 cz1 czl
  rintro e w6 ⟨rfl, hb6⟩
  have Fx := Fx.past0 hb6
  have Fy := Fy.past0 hb6
  have Fz := Fz.past0 hb6
  have HB6 := Lib.hid (bl0 HB5.out hb6)
  clear hb6
  have cx0 := Fx.c0; have cx1 := Fx.c1; have cxl := Fx.lt
  have cy0 := Fy.c0; have cy1 := Fy.c1; have cyl := Fy.lt
  have cz0 := Fz.c0; have cz1 := Fz.c1; have czl := Fz.lt
  go_wp2_with fail
  refine (CT _).mono ?_
  clear cx0 cx1 cxl cy0 cy1 cyl cz0 cz1 czl
  rintro e w7 ⟨rfl, hb7⟩
  have Fx := Fx.past1 hb7
  have Fy := Fy.past1 hb7
  have Fz := Fz.past1 hb7
  have Fs : Nm w7 _ sn sd := new1_0 hb7
  have HB7 := Lib.hid (bl1 HB6.out hb7)
  clear hb7
  have cx0 := Fx.c0; have cx1 := Fx.c1; have cxl := Fx.lt
  have cy0 := Fy.c0; have cy1 := Fy.c1; have cyl := Fy.lt
  have cz0 := Fz.c0; have cz1 := Fz.c1; have czl := Fz.lt
  have cs0 := Fs.c0; have cs1 := Fs.c1; have csl := Fs.lt
  go_wp2_with fail
  refine (C5 _).mono ?_
  clear cx0 cx1 cxl cy0 cy1 cyl cz0 cz1 czl cs0 cs1 csl
  rintro e w8 ⟨rfl, hb8⟩
  have Fx := Fx.past1 hb8
  have Fy := Fy.past1 hb8
  have Fz := Fz.past1 hb8
  have Fs := Fs.past1 hb8
  have Ft : Nm w8 _ tn td := new1_0 hb8
  have HB8 := Lib.hid (bl1 HB7.out hb8)
  clear hb8
  have cx0 := Fx.c0; have cx1 := Fx.c1; have cxl := Fx.lt
  have cy0 := Fy.c0; have cy1 := Fy.c1; have cyl := Fy.lt
  have cz0 := Fz.c0; have cz1 := Fz.c1; have czl := Fz.lt
  have cs0 := Fs.c0; have cs1 := Fs.c1; have csl := Fs.lt
  have ct0 := Ft.c0; have ct1 := Ft.c1; have ctl := Ft.lt
  go_wp2_with fail
  refine (known_any _ (ht.below HB8.out)).mono ?_
  clear cx0 cx1 cxl cy0 cy1 cyl cz0 cz1 czl cs0 cs1 csl ct0 ct1 ctl
  rintro e w9 ⟨rfl, hb9⟩
  have Fx := Fx.past0 hb9
  have Fy := Fy.past0 hb9
  have Fz := Fz.past0 hb9
  have Fs := Fs.past0 hb9
  have Ft := Ft.past0 hb9
  have HB9 := Lib.hid (bl0 HB8.out hb9)
  clear hb9
  have cx0 := Fx.c0; have cx1 := Fx.c1; have cxl := Fx.lt
  have cy0 := Fy.c0; have cy1 := Fy.c1; have cyl := Fy.lt
  have cz0 := Fz.c0; have cz1 := Fz.c1; have czl := Fz.lt
  have cs0 := Fs.c0; have cs1 := Fs.c1; have csl := Fs.lt
  have ct0 := Ft.c0; have ct1 := Ft.c1; have ctl := Ft.lt
  go_wp2
  go_ret
  exact ⟨rfl, HB9.out⟩
set_option maxRecDepth 100000 in
set_option maxHeartbeats 4000000 in
theorem OR_2 (a b c d e f xn xd yn yd zn zd sn sd tn td k k2 : Int) (w : World) (ht : Tb w)
    (hk1 : -1 ≤ k)
    (hk2 : k ≤ 1)
    (hE : eqN xn xd yn yd = (k == 0))
    (h1 : k ≤ 0)
    (h2 : 0 < k2)
    (O1 : Cl 42 #[.int .i64 a, .int .i64 d] (.agg #[.int .i64 xn, .int .i64 xd]))
    (O2 : Cl 42 #[.int .i64 b, .int .i64 e] (.agg #[.int .i64 yn, .int .i64 yd]))
    (O3 : Cl 42 #[.int .i64 c, .int .i64 f] (.agg #[.int .i64 zn, .int .i64 zd]))
    (C1 : Cl 29 #[.agg #[.int .i64 xn, .int .i64 xd], .agg #[.int .i64 yn, .int .i64 yd]] (.int .i64 k))
    (C2 : Cl 29 #[.agg #[.int .i64 yn, .int .i64 yd], .agg #[.int .i64 xn, .int .i64 xd]] (.int .i64 (-k)))
    (C3 : Cl 29 #[.agg #[.int .i64 yn, .int .i64 yd], .agg #[.int .i64 zn, .int .i64 zd]] (.int .i64 k2))
    (CS : Cl 19 #[.agg #[.int .i64 xn, .int .i64 xd], .agg #[.int .i64 zn, .int .i64 zd]] (.tuple #[.agg #[.int .i64 sn, .int .i64 sd], .int .i64 0]))
    (CT : Cl 19 #[.agg #[.int .i64 yn, .int .i64 yd], .agg #[.int .i64 zn, .int .i64 zd]] (.tuple #[.agg #[.int .i64 tn, .int .i64 td], .int .i64 0]))
    (C5 : Cl 29 #[.agg #[.int .i64 sn, .int .i64 sd], .agg #[.int .i64 tn, .int .i64 td]] (.int .i64 k))
    : Calls Tryd.prog 13 #[.int .i64 a, .int .i64 b, .int .i64 c, .int .i64 d, .int .i64 e, .int .i64 f] w fun e w' => e = .returned (.bool true) ∧ Below w.heap.size w w' := by
  have d1 : decide (k ≤ 0) = true := by simpa using h1
  have d2 : decide (k2 ≤ 0) = false := by rw [decide_eq_false_iff_not]; omega
  have ew : IntKind.i64.wrap k = k := IntWalk.i64_in _ (by omega)
  have ew2 : IntKind.i64.wrap (- -k) = k := by rw [Int.neg_neg]; exact ew
  have eq := eq_num xn xd yn yd
  rw [hE] at eq
  clear hE
  go_enter Tryd.func13, Tryd.ntmps13
  go_wp2_with fail
  refine (O1 _).mono ?_
  rintro e w1 ⟨rfl, hb1⟩
  have HB1 := Lib.hid hb1
  clear hb1
  go_wp2_with fail
  refine (O2 _).mono ?_
  rintro e w2 ⟨rfl, hb2⟩
  have HB2 := Lib.hid (bl0 HB1.out hb2)
  clear hb2
  go_wp2_with fail
  refine (O3 _).mono ?_
  rintro e w3 ⟨rfl, hb3⟩
  have HB3 := Lib.hid (bl0 HB2.out hb3)
  clear hb3
  go_wp2_with fail
  refine (C1 _).mono ?_
  rintro e w4 ⟨rfl, hb4⟩
  have Fx : Nm w4 _ xn xd := new3_0 hb4
  have Fy : Nm w4 _ yn yd := new3_1 hb4
  have Fz : Nm w4 _ zn zd := new3_2 hb4
  have HB4 := Lib.hid (bl3 HB3.out hb4)
  clear hb4
  have cx0 := Fx.c0; have cx1 := Fx.c1; have cxl := Fx.lt
  have cy0 := Fy.c0; have cy1 := Fy.c1; have cyl := Fy.lt
  have cz0 := Fz.c0; have cz1 := Fz.c1; have czl := Fz.lt
  go_wp2_with fail
  refine (C2 _).mono ?_
  clear cx0 cx1 cxl cy0 cy1 cyl cz0 cz1 czl
  rintro e w5 ⟨rfl, hb5⟩
  have Fx := Fx.past0 hb5
  have Fy := Fy.past0 hb5
  have Fz := Fz.past0 hb5
  have HB5 := Lib.hid (bl0 HB4.out hb5)
  clear hb5
  have cx0 := Fx.c0; have cx1 := Fx.c1; have cxl := Fx.lt
  have cy0 := Fy.c0; have cy1 := Fy.c1; have cyl := Fy.lt
  have cz0 := Fz.c0; have cz1 := Fz.c1; have czl := Fz.lt
  go_wp2_with fail
  refine (C3 _).mono ?_
  clear cx0 cx1 cxl cy0 cy1 cyl cz0 cz1 czl
  rintro e w6 ⟨rfl, hb6⟩
  have Fx := Fx.past0 hb6
  have Fy := Fy.past0 hb6
  have Fz := Fz.past0 hb6
  have HB6 := Lib.hid (bl0 HB5.out hb6)
  clear hb6
  have cx0 := Fx.c0; have cx1 := Fx.c1; have cxl := Fx.lt
  have cy0 := Fy.c0; have cy1 := Fy.c1; have cyl := Fy.lt
  have cz0 := Fz.c0; have cz1 := Fz.c1; have czl := Fz.lt
  go_wp2_with fail
  refine (CS _).mono ?_
  clear cx0 cx1 cxl cy0 cy1 cyl cz0 cz1 czl
  rintro e w7 ⟨rfl, hb7⟩
  have Fx := Fx.past0 hb7
  have Fy := Fy.past0 hb7
  have Fz := Fz.past0 hb7
  have HB7 := Lib.hid (bl0 HB6.out hb7)
  clear hb7
  have cx0 := Fx.c0; have cx1 := Fx.c1; have cxl := Fx.lt
  have cy0 := Fy.c0; have cy1 := Fy.c1; have cyl := Fy.lt
  have cz0 := Fz.c0; have cz1 := Fz.c1; have czl := Fz.lt
  go_wp2_with fail
  refine (CT _).mono ?_
  clear cx0 cx1 cxl cy0 cy1 cyl cz0 cz1 czl
  rintro e w8 ⟨rfl, hb8⟩
  have Fx := Fx.past1 hb8
  have Fy := Fy.past1 hb8
  have Fz := Fz.past1 hb8
  have Fs : Nm w8 _ sn sd := new1_0 hb8
  have HB8 := Lib.hid (bl1 HB7.out hb8)
  clear hb8
  have cx0 := Fx.c0; have cx1 := Fx.c1; have cxl := Fx.lt
  have cy0 := Fy.c0; have cy1 := Fy.c1; have cyl := Fy.lt
  have cz0 := Fz.c0; have cz1 := Fz.c1; have czl := Fz.lt
  have cs0 := Fs.c0; have cs1 := Fs.c1; have csl := Fs.lt
  go_wp2_with fail
  refine (C5 _).mono ?_
  clear cx0 cx1 cxl cy0 cy1 cyl cz0 cz1 czl cs0 cs1 csl
  rintro e w9 ⟨rfl, hb9⟩
  have Fx := Fx.past1 hb9
  have Fy := Fy.past1 hb9
  have Fz := Fz.past1 hb9
  have Fs := Fs.past1 hb9
  have Ft : Nm w9 _ tn td := new1_0 hb9
  have HB9 := Lib.hid (bl1 HB8.out hb9)
  clear hb9
  have cx0 := Fx.c0; have cx1 := Fx.c1; have cxl := Fx.lt
  have cy0 := Fy.c0; have cy1 := Fy.c1; have cyl := Fy.lt
  have cz0 := Fz.c0; have cz1 := Fz.c1; have czl := Fz.lt
  have cs0 := Fs.c0; have cs1 := Fs.c1; have csl := Fs.lt
  have ct0 := Ft.c0; have ct1 := Ft.c1; have ctl := Ft.lt
  go_wp2_with fail
  refine (known_any _ (ht.below HB9.out)).mono ?_
  clear cx0 cx1 cxl cy0 cy1 cyl cz0 cz1 czl cs0 cs1 csl ct0 ct1 ctl
  rintro e w10 ⟨rfl, hb10⟩
  have Fx := Fx.past0 hb10
  have Fy := Fy.past0 hb10
  have Fz := Fz.past0 hb10
  have Fs := Fs.past0 hb10
  have Ft := Ft.past0 hb10
  have HB10 := Lib.hid (bl0 HB9.out hb10)
  clear hb10
  have cx0 := Fx.c0; have cx1 := Fx.c1; have cxl := Fx.lt
  have cy0 := Fy.c0; have cy1 := Fy.c1; have cyl := Fy.lt
  have cz0 := Fz.c0; have cz1 := Fz.c1; have czl := Fz.lt
  have cs0 := Fs.c0; have cs1 := Fs.c1; have csl := Fs.lt
  have ct0 := Ft.c0; have ct1 := Ft.c1; have ctl := Ft.lt
  go_wp2
  go_ret
  exact ⟨rfl, HB10.out⟩
set_option maxRecDepth 100000 in
set_option maxHeartbeats 4000000 in
theorem OR_3 (a b c d e f xn xd yn yd zn zd sn sd tn td k k2 k3 : Int) (w : World) (ht : Tb w)
    (hk1 : -1 ≤ k)
    (hk2 : k ≤ 1)
    (hE : eqN xn xd yn yd = (k == 0))
    (h1 : k ≤ 0)
    (h2 : k2 ≤ 0)
    (h3 : k3 ≤ 0)
    (O1 : Cl 42 #[.int .i64 a, .int .i64 d] (.agg #[.int .i64 xn, .int .i64 xd]))
    (O2 : Cl 42 #[.int .i64 b, .int .i64 e] (.agg #[.int .i64 yn, .int .i64 yd]))
    (O3 : Cl 42 #[.int .i64 c, .int .i64 f] (.agg #[.int .i64 zn, .int .i64 zd]))
    (C1 : Cl 29 #[.agg #[.int .i64 xn, .int .i64 xd], .agg #[.int .i64 yn, .int .i64 yd]] (.int .i64 k))
    (C2 : Cl 29 #[.agg #[.int .i64 yn, .int .i64 yd], .agg #[.int .i64 xn, .int .i64 xd]] (.int .i64 (-k)))
    (C3 : Cl 29 #[.agg #[.int .i64 yn, .int .i64 yd], .agg #[.int .i64 zn, .int .i64 zd]] (.int .i64 k2))
    (C4 : Cl 29 #[.agg #[.int .i64 xn, .int .i64 xd], .agg #[.int .i64 zn, .int .i64 zd]] (.int .i64 k3))
    (CS : Cl 19 #[.agg #[.int .i64 xn, .int .i64 xd], .agg #[.int .i64 zn, .int .i64 zd]] (.tuple #[.agg #[.int .i64 sn, .int .i64 sd], .int .i64 0]))
    (CT : Cl 19 #[.agg #[.int .i64 yn, .int .i64 yd], .agg #[.int .i64 zn, .int .i64 zd]] (.tuple #[.agg #[.int .i64 tn, .int .i64 td], .int .i64 0]))
    (C5 : Cl 29 #[.agg #[.int .i64 sn, .int .i64 sd], .agg #[.int .i64 tn, .int .i64 td]] (.int .i64 k))
    : Calls Tryd.prog 13 #[.int .i64 a, .int .i64 b, .int .i64 c, .int .i64 d, .int .i64 e, .int .i64 f] w fun e w' => e = .returned (.bool true) ∧ Below w.heap.size w w' := by
  have d1 : decide (k ≤ 0) = true := by simpa using h1
  have d2 : decide (k2 ≤ 0) = true := by simpa using h2
  have d3 : decide (0 < k3) = false := by rw [decide_eq_false_iff_not]; omega
  have ew : IntKind.i64.wrap k = k := IntWalk.i64_in _ (by omega)
  have ew2 : IntKind.i64.wrap (- -k) = k := by rw [Int.neg_neg]; exact ew
  have eq := eq_num xn xd yn yd
  rw [hE] at eq
  clear hE
  go_enter Tryd.func13, Tryd.ntmps13
  go_wp2_with fail
  refine (O1 _).mono ?_
  rintro e w1 ⟨rfl, hb1⟩
  have HB1 := Lib.hid hb1
  clear hb1
  go_wp2_with fail
  refine (O2 _).mono ?_
  rintro e w2 ⟨rfl, hb2⟩
  have HB2 := Lib.hid (bl0 HB1.out hb2)
  clear hb2
  go_wp2_with fail
  refine (O3 _).mono ?_
  rintro e w3 ⟨rfl, hb3⟩
  have HB3 := Lib.hid (bl0 HB2.out hb3)
  clear hb3
  go_wp2_with fail
  refine (C1 _).mono ?_
  rintro e w4 ⟨rfl, hb4⟩
  have Fx : Nm w4 _ xn xd := new3_0 hb4
  have Fy : Nm w4 _ yn yd := new3_1 hb4
  have Fz : Nm w4 _ zn zd := new3_2 hb4
  have HB4 := Lib.hid (bl3 HB3.out hb4)
  clear hb4
  have cx0 := Fx.c0; have cx1 := Fx.c1; have cxl := Fx.lt
  have cy0 := Fy.c0; have cy1 := Fy.c1; have cyl := Fy.lt
  have cz0 := Fz.c0; have cz1 := Fz.c1; have czl := Fz.lt
  go_wp2_with fail
  refine (C2 _).mono ?_
  clear cx0 cx1 cxl cy0 cy1 cyl cz0 cz1 czl
  rintro e w5 ⟨rfl, hb5⟩
  have Fx := Fx.past0 hb5
  have Fy := Fy.past0 hb5
  have Fz := Fz.past0 hb5
  have HB5 := Lib.hid (bl0 HB4.out hb5)
  clear hb5
  have cx0 := Fx.c0; have cx1 := Fx.c1; have cxl := Fx.lt
  have cy0 := Fy.c0; have cy1 := Fy.c1; have cyl := Fy.lt
  have cz0 := Fz.c0; have cz1 := Fz.c1; have czl := Fz.lt
  go_wp2_with fail
  refine (C3 _).mono ?_
  clear cx0 cx1 cxl cy0 cy1 cyl cz0 cz1 czl
  rintro e w6 ⟨rfl, hb6⟩
  have Fx := Fx.past0 hb6
  have Fy := Fy.past0 hb6
  have Fz := Fz.past0 hb6
  have HB6 := Lib.hid (bl0 HB5.out hb6)
  clear hb6
  have cx0 := Fx.c0; have cx1 := Fx.c1; have cxl := Fx.lt
  have cy0 := Fy.c0; have cy1 := Fy.c1; have cyl := Fy.lt
  have cz0 := Fz.c0; have cz1 := Fz.c1; have czl := Fz.lt
  go_wp2_with fail
  refine (C4 _).mono ?_
  clear cx0 cx1 cxl cy0 cy1 cyl cz0 cz1 czl
  rintro e w7 ⟨rfl, hb7⟩
  have Fx := Fx.past0 hb7
  have Fy := Fy.past0 hb7
  have Fz := Fz.past0 hb7
  have HB7 := Lib.hid (bl0 HB6.out hb7)
  clear hb7
  have cx0 := Fx.c0; have cx1 := Fx.c1; have cxl := Fx.lt
  have cy0 := Fy.c0; have cy1 := Fy.c1; have cyl := Fy.lt
  have cz0 := Fz.c0; have cz1 := Fz.c1; have czl := Fz.lt
  go_wp2_with fail
  refine (CS _).mono ?_
  clear cx0 cx1 cxl cy0 cy1 cyl cz0 cz1 czl
  rintro e w8 ⟨rfl, hb8⟩
  have Fx := Fx.past0 hb8
  have Fy := Fy.past0 hb8
  have Fz := Fz.past0 hb8
  have HB8 := Lib.hid (bl0 HB7.out hb8)
  clear hb8
  have cx0 := Fx.c0; have cx1 := Fx.c1; have cxl := Fx.lt
  have cy0 := Fy.c0; have cy1 := Fy.c1; have cyl := Fy.lt
  have cz0 := Fz.c0; have cz1 := Fz.c1; have czl := Fz.lt
  go_wp2_with fail
  refine (CT _).mono ?_
  clear cx0 cx1 cxl cy0 cy1 cyl cz0 cz1 czl
  rintro e w9 ⟨rfl, hb9⟩
  have Fx := Fx.past1 hb9
  have Fy := Fy.past1 hb9
  have Fz := Fz.past1 hb9
  have Fs : Nm w9 _ sn sd := new1_0 hb9
  have HB9 := Lib.hid (bl1 HB8.out hb9)
  clear hb9
  have cx0 := Fx.c0; have cx1 := Fx.c1; have cxl := Fx.lt
  have cy0 := Fy.c0; have cy1 := Fy.c1; have cyl := Fy.lt
  have cz0 := Fz.c0; have cz1 := Fz.c1; have czl := Fz.lt
  have cs0 := Fs.c0; have cs1 := Fs.c1; have csl := Fs.lt
  go_wp2_with fail
  refine (C5 _).mono ?_
  clear cx0 cx1 cxl cy0 cy1 cyl cz0 cz1 czl cs0 cs1 csl
  rintro e w10 ⟨rfl, hb10⟩
  have Fx := Fx.past1 hb10
  have Fy := Fy.past1 hb10
  have Fz := Fz.past1 hb10
  have Fs := Fs.past1 hb10
  have Ft : Nm w10 _ tn td := new1_0 hb10
  have HB10 := Lib.hid (bl1 HB9.out hb10)
  clear hb10
  have cx0 := Fx.c0; have cx1 := Fx.c1; have cxl := Fx.lt
  have cy0 := Fy.c0; have cy1 := Fy.c1; have cyl := Fy.lt
  have cz0 := Fz.c0; have cz1 := Fz.c1; have czl := Fz.lt
  have cs0 := Fs.c0; have cs1 := Fs.c1; have csl := Fs.lt
  have ct0 := Ft.c0; have ct1 := Ft.c1; have ctl := Ft.lt
  go_wp2_with fail
  refine (known_any _ (ht.below HB10.out)).mono ?_
  clear cx0 cx1 cxl cy0 cy1 cyl cz0 cz1 czl cs0 cs1 csl ct0 ct1 ctl
  rintro e w11 ⟨rfl, hb11⟩
  have Fx := Fx.past0 hb11
  have Fy := Fy.past0 hb11
  have Fz := Fz.past0 hb11
  have Fs := Fs.past0 hb11
  have Ft := Ft.past0 hb11
  have HB11 := Lib.hid (bl0 HB10.out hb11)
  clear hb11
  have cx0 := Fx.c0; have cx1 := Fx.c1; have cxl := Fx.lt
  have cy0 := Fy.c0; have cy1 := Fy.c1; have cyl := Fy.lt
  have cz0 := Fz.c0; have cz1 := Fz.c1; have czl := Fz.lt
  have cs0 := Fs.c0; have cs1 := Fs.c1; have csl := Fs.lt
  have ct0 := Ft.c0; have ct1 := Ft.c1; have ctl := Ft.lt
  go_wp2
  go_ret
  exact ⟨rfl, HB11.out⟩
theorem NumberOrder_any (a b c d e f : Int) (w : World) (ht : Tb w) : Calls Tryd.prog 13 #[.int .i64 a, .int .i64 b, .int .i64 c, .int .i64 d, .int .i64 e, .int .i64 f] w fun e w' => e = .returned (.bool true) ∧ Below w.heap.size w w' := by
  have hx := sm_of a d
  have hy := sm_of b e
  have hz := sm_of c f
  have eS := r3_eq (add_sm hx hz)
  have eT := r3_eq (add_sm hy hz)
  have e5 := cmp_add hx hy hz (s := add (ofN a d) (ofD a d) (ofN c f) (ofD c f)) (t := add (ofN b e) (ofD b e) (ofN c f) (ofD c f)) rfl rfl
  have hE : eqN (ofN a d) (ofD a d) (ofN b e) (ofD b e) = (cmp (ofN a d) (ofD a d) (ofN b e) (ofD b e) == 0) := by
    unfold eqN
    rw [Bool.eq_iff_iff, decide_eq_true_iff, beq_iff_eq, cmp_zero hx.ok hy.ok]
  have hr := cmp_range (ofN a d) (ofD a d) (ofN b e) (ofD b e)
  have hT := cmp_trans hx.ok hy.ok hz.ok
  by_cases h1 : cmp (ofN a d) (ofD a d) (ofN b e) (ofD b e) ≤ 0
  · by_cases h2 : cmp (ofN b e) (ofD b e) (ofN c f) (ofD c f) ≤ 0
    · exact OR_3 a b c d e f _ _ _ _ _ _ _ _ _ _ _ _ _ w ht hr.1 hr.2 hE h1 h2 (hT h1 h2) (cl_of a d) (cl_of b e) (cl_of c f) (cl_cmp rfl) (cl_cmp (cmp_neg _ _ _ _)) (cl_cmp rfl) (cl_cmp rfl) (cl_add eS) (cl_add eT) (cl_cmp e5)
    · exact OR_2 a b c d e f _ _ _ _ _ _ _ _ _ _ _ _ w ht hr.1 hr.2 hE h1 (by omega) (cl_of a d) (cl_of b e) (cl_of c f) (cl_cmp rfl) (cl_cmp (cmp_neg _ _ _ _)) (cl_cmp rfl) (cl_add eS) (cl_add eT) (cl_cmp e5)
  · exact OR_1 a b c d e f _ _ _ _ _ _ _ _ _ _ _ w ht hr.1 hr.2 hE (by omega) (cl_of a d) (cl_of b e) (cl_of c f) (cl_cmp rfl) (cl_cmp (cmp_neg _ _ _ _)) (cl_add eS) (cl_add eT) (cl_cmp e5)
end Go.Proofs.YtgnhihgimeiphaaDoor.Nu
