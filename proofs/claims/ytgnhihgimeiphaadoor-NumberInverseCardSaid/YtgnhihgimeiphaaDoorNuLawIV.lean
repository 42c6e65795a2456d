/-
  The law NumberInverse returns true for all integers, in every world that holds the library's table.
-/
import Derived.Test.YtgnhihgimeiphaaDoorNuNm
namespace Go.Proofs.YtgnhihgimeiphaaDoor.Nu
open Go.RowKit

set_option maxRecDepth 100000 in
set_option maxHeartbeats 4000000 in
theorem IV_zero (a b c d xn xd yd sn sd mn md : Int) (w : World) (ht : Tb w)
    (O1 : Cl 42 #[.int .i64 a, .int .i64 b] (.agg #[.int .i64 xn, .int .i64 xd]))
    (O2 : Cl 42 #[.int .i64 c, .int .i64 d] (.agg #[.int .i64 0, .int .i64 yd]))
    (CA : Cl 19 #[.agg #[.int .i64 xn, .int .i64 xd], .agg #[.int .i64 0, .int .i64 yd]] (.tuple #[.agg #[.int .i64 sn, .int .i64 sd], .int .i64 0]))
    (CS : Cl 21 #[.agg #[.int .i64 sn, .int .i64 sd], .agg #[.int .i64 0, .int .i64 yd]] (.tuple #[.agg #[.int .i64 xn, .int .i64 xd], .int .i64 0]))
    (CM : Cl 23 #[.agg #[.int .i64 xn, .int .i64 xd], .agg #[.int .i64 0, .int .i64 yd]] (.tuple #[.agg #[.int .i64 mn, .int .i64 md], .int .i64 0]))
    (CD : Cl 25 #[.agg #[.int .i64 mn, .int .i64 md], .agg #[.int .i64 0, .int .i64 yd]] (.tuple #[.agg #[.int .i64 0, .int .i64 0], .int .i64 16]))
    : Calls Tryd.prog 10 #[.int .i64 a, .int .i64 b, .int .i64 c, .int .i64 d] w fun e w' => e = .returned (.bool true) ∧ Below w.heap.size w w' := by
  have nq := neq_num xn xd xn xd
  have nr := eqN_refl xn xd
  go_enter Tryd.func10, Tryd.ntmps10
  go_wp2_with fail
  refine (O1 _).mono ?_
  rintro e w1 ⟨rfl, hb1⟩
  have HB1 := Lib.hid hb1
  clear hb1
  go_wp2_with fail
  refine (O2 _).mono ?_
  rintro e w2 ⟨rfl, hb2⟩
  have HB2 := Lib.hid (bl0 HB1.out hb2)
  clear hb2
  go_wp2_with fail
  refine (CA _).mono ?_
  rintro e w3 ⟨rfl, hb3⟩
  have Fx : Nm w3 _ xn xd := new2_0 hb3
  have Fy : Nm w3 _ 0 yd := new2_1 hb3
  have HB3 := Lib.hid (bl2 HB2.out hb3)
  clear hb3
  have cx0 := Fx.c0; have cx1 := Fx.c1; have cxl := Fx.lt
  have cy0 := Fy.c0; have cy1 := Fy.c1; have cyl := Fy.lt
  go_wp2_with fail
  refine (CS _).mono ?_
  clear cx0 cx1 cxl cy0 cy1 cyl
  rintro e w4 ⟨rfl, hb4⟩
  have Fx := Fx.past1 hb4
  have Fy := Fy.past1 hb4
  have Fs : Nm w4 _ sn sd := new1_0 hb4
  have HB4 := Lib.hid (bl1 HB3.out hb4)
  clear hb4
  have cx0 := Fx.c0; have cx1 := Fx.c1; have cxl := Fx.lt
  have cy0 := Fy.c0; have cy1 := Fy.c1; have cyl := Fy.lt
  have cs0 := Fs.c0; have cs1 := Fs.c1; have csl := Fs.lt
  go_wp2_with fail
  refine (CM _).mono ?_
  clear cx0 cx1 cxl cy0 cy1 cyl cs0 cs1 csl
  rintro e w5 ⟨rfl, hb5⟩
  have Fx := Fx.past1 hb5
  have Fy := Fy.past1 hb5
  have Fs := Fs.past1 hb5
  have Ft : Nm w5 _ xn xd := new1_0 hb5
  have HB5 := Lib.hid (bl1 HB4.out hb5)
  clear hb5
  have cx0 := Fx.c0; have cx1 := Fx.c1; have cxl := Fx.lt
  have cy0 := Fy.c0; have cy1 := Fy.c1; have cyl := Fy.lt
  have cs0 := Fs.c0; have cs1 := Fs.c1; have csl := Fs.lt
  have ct0 := Ft.c0; have ct1 := Ft.c1; have ctl := Ft.lt
  go_wp2_with fail
  refine (CD _).mono ?_
  clear cx0 cx1 cxl cy0 cy1 cyl cs0 cs1 csl ct0 ct1 ctl
  rintro e w6 ⟨rfl, hb6⟩
  have Fx := Fx.past1 hb6
  have Fy := Fy.past1 hb6
  have Fs := Fs.past1 hb6
  have Ft := Ft.past1 hb6
  have Fm : Nm w6 _ mn md := new1_0 hb6
  have HB6 := Lib.hid (bl1 HB5.out hb6)
  clear hb6
  have cx0 := Fx.c0; have cx1 := Fx.c1; have cxl := Fx.lt
  have cy0 := Fy.c0; have cy1 := Fy.c1; have cyl := Fy.lt
  have cs0 := Fs.c0; have cs1 := Fs.c1; have csl := Fs.lt
  have ct0 := Ft.c0; have ct1 := Ft.c1; have ctl := Ft.lt
  have cm0 := Fm.c0; have cm1 := Fm.c1; have cml := Fm.lt
  go_wp2_with fail
  refine (known_any _ (ht.below (bl_a1 HB6.out _))).mono ?_
  clear cx0 cx1 cxl cy0 cy1 cyl cs0 cs1 csl ct0 ct1 ctl cm0 cm1 cml
  rintro e w7 ⟨rfl, hb7⟩
  have Fx := Fx.past1 hb7
  have Fy := Fy.past1 hb7
  have Fs := Fs.past1 hb7
  have Ft := Ft.past1 hb7
  have Fm := Fm.past1 hb7
  have Fn : Nm w7 _ 0 0 := new1_0 hb7
  have HB7 := Lib.hid (bl1 HB6.out hb7)
  clear hb7
  have cx0 := Fx.c0; have cx1 := Fx.c1; have cxl := Fx.lt
  have cy0 := Fy.c0; have cy1 := Fy.c1; have cyl := Fy.lt
  have cs0 := Fs.c0; have cs1 := Fs.c1; have csl := Fs.lt
  have ct0 := Ft.c0; have ct1 := Ft.c1; have ctl := Ft.lt
  have cm0 := Fm.c0; have cm1 := Fm.c1; have cml := Fm.lt
  have cn0 := Fn.c0; have cn1 := Fn.c1; have cnl := Fn.lt
  go_wp2
  go_ret
  exact ⟨rfl, HB7.out⟩
set_option maxRecDepth 100000 in
set_option maxHeartbeats 4000000 in
theorem IV_more (a b c d xn xd yn yd sn sd mn md : Int) (w : World) (ht : Tb w)
    (hy0 : yn ≠ 0)
    (O1 : Cl 42 #[.int .i64 a, .int .i64 b] (.agg #[.int .i64 xn, .int .i64 xd]))
    (O2 : Cl 42 #[.int .i64 c, .int .i64 d] (.agg #[.int .i64 yn, .int .i64 yd]))
    (CA : Cl 19 #[.agg #[.int .i64 xn, .int .i64 xd], .agg #[.int .i64 yn, .int .i64 yd]] (.tuple #[.agg #[.int .i64 sn, .int .i64 sd], .int .i64 0]))
    (CS : Cl 21 #[.agg #[.int .i64 sn, .int .i64 sd], .agg #[.int .i64 yn, .int .i64 yd]] (.tuple #[.agg #[.int .i64 xn, .int .i64 xd], .int .i64 0]))
    (CM : Cl 23 #[.agg #[.int .i64 xn, .int .i64 xd], .agg #[.int .i64 yn, .int .i64 yd]] (.tuple #[.agg #[.int .i64 mn, .int .i64 md], .int .i64 0]))
    (CD : Cl 25 #[.agg #[.int .i64 mn, .int .i64 md], .agg #[.int .i64 yn, .int .i64 yd]] (.tuple #[.agg #[.int .i64 xn, .int .i64 xd], .int .i64 0]))
    : Calls Tryd.prog 10 #[.int .i64 a, .int .i64 b, .int .i64 c, .int .i64 d] w fun e w' => e = .returned (.bool true) ∧ Below w.heap.size w w' := by
  have nq := neq_num xn xd xn xd
  have nr := eqN_refl xn xd
  have eq := eq_num xn xd xn xd
  have hyb : (yn == 0) = false := by simpa using hy0
  clear hy0
  go_enter Tryd.func10, Tryd.ntmps10
  go_wp2_with fail
  refine (O1 _).mono ?_
  rintro e w1 ⟨rfl, hb1⟩
  have HB1 := Lib.hid hb1
  clear hb1
  go_wp2_with fail
  refine (O2 _).mono ?_
  rintro e w2 ⟨rfl, hb2⟩
  have HB2 := Lib.hid (bl0 HB1.out hb2)
  clear hb2
  go_wp2_with fail
  refine (CA _).mono ?_
  rintro e w3 ⟨rfl, hb3⟩
  have Fx : Nm w3 _ xn xd := new2_0 hb3
  have Fy : Nm w3 _ yn yd := new2_1 hb3
  have HB3 := Lib.hid (bl2 HB2.out hb3)
  clear hb3
  have cx0 := Fx.c0; have cx1 := Fx.c1; have cxl := Fx.lt
  have cy0 := Fy.c0; have cy1 := Fy.c1; have cyl := Fy.lt
  go_wp2_with fail
  refine (CS _).mono ?_
  clear cx0 cx1 cxl cy0 cy1 cyl
  rintro e w4 ⟨rfl, hb4⟩
  have Fx := Fx.past1 hb4
  have Fy := Fy.past1 hb4
  have Fs : Nm w4 _ sn sd := new1_0 hb4
  have HB4 := Lib.hid (bl1 HB3.out hb4)
  clear hb4
  have cx0 := Fx.c0; have cx1 := Fx.c1; have cxl := Fx.lt
  have cy0 := Fy.c0; have cy1 := Fy.c1; have cyl := Fy.lt
  have cs0 := Fs.c0; have cs1 := Fs.c1; have csl := Fs.lt
  go_wp2_with fail
  refine (CM _).mono ?_
  clear cx0 cx1 cxl cy0 cy1 cyl cs0 cs1 csl
  rintro e w5 ⟨rfl, hb5⟩
  have Fx := Fx.past1 hb5
  have Fy := Fy.past1 hb5
  have Fs := Fs.past1 hb5
  have Ft : Nm w5 _ xn xd := new1_0 hb5
  have HB5 := Lib.hid (bl1 HB4.out hb5)
  clear hb5
  have cx0 := Fx.c0; have cx1 := Fx.c1; have cxl := Fx.lt
  have cy0 := Fy.c0; have cy1 := Fy.c1; have cyl := Fy.lt
  have cs0 := Fs.c0; have cs1 := Fs.c1; have csl := Fs.lt
  have ct0 := Ft.c0; have ct1 := Ft.c1; have ctl := Ft.lt
  go_wp2_with fail
  refine (CD _).mono ?_
  clear cx0 cx1 cxl cy0 cy1 cyl cs0 cs1 csl ct0 ct1 ctl
  rintro e w6 ⟨rfl, hb6⟩
  have Fx := Fx.past1 hb6
  have Fy := Fy.past1 hb6
  have Fs := Fs.past1 hb6
  have Ft := Ft.past1 hb6
  have Fm : Nm w6 _ mn md := new1_0 hb6
  have HB6 := Lib.hid (bl1 HB5.out hb6)
  clear hb6
  have cx0 := Fx.c0; have cx1 := Fx.c1; have cxl := Fx.lt
  have cy0 := Fy.c0; have cy1 := Fy.c1; have cyl := Fy.lt
  have cs0 := Fs.c0; have cs1 := Fs.c1; have csl := Fs.lt
  have ct0 := Ft.c0; have ct1 := Ft.c1; have ctl := Ft.lt
  have cm0 := Fm.c0; have cm1 := Fm.c1; have cml := Fm.lt
  go_wp2_with fail
  refine (known_any _ (ht.below (bl_a1 HB6.out _))).mono ?_
  clear cx0 cx1 cxl cy0 cy1 cyl cs0 cs1 csl ct0 ct1 ctl cm0 cm1 cml
  rintro e w7 ⟨rfl, hb7⟩
  have Fx := Fx.past1 hb7
  have Fy := Fy.past1 hb7
  have Fs := Fs.past1 hb7
  have Ft := Ft.past1 hb7
  have Fm := Fm.past1 hb7
  have Fn : Nm w7 _ xn xd := new1_0 hb7
  have HB7 := Lib.hid (bl1 HB6.out hb7)
  clear hb7
  have cx0 := Fx.c0; have cx1 := Fx.c1; have cxl := Fx.lt
  have cy0 := Fy.c0; have cy1 := Fy.c1; have cyl := Fy.lt
  have cs0 := Fs.c0; have cs1 := Fs.c1; have csl := Fs.lt
  have ct0 := Ft.c0; have ct1 := Ft.c1; have ctl := Ft.lt
  have cm0 := Fm.c0; have cm1 := Fm.c1; have cml := Fm.lt
  have cn0 := Fn.c0; have cn1 := Fn.c1; have cnl := Fn.lt
  go_wp2
  go_ret
  exact ⟨rfl, HB7.out⟩
theorem NumberInverse_any (a b c d : Int) (w : World) (ht : Tb w) : Calls Tryd.prog 10 #[.int .i64 a, .int .i64 b, .int .i64 c, .int .i64 d] w fun e w' => e = .returned (.bool true) ∧ Below w.heap.size w w' := by
  have hx := sm_of a b
  have hy := sm_of c d
  have eA := r3_eq (add_sm hx hy)
  have eM := r3_eq (mul_sm hx hy)
  have eS := inv_sub hx hy
  have IY := i64_sm hy.ok
  by_cases h0 : ofN c d = 0
  · have eD : div (mul (ofN a b) (ofD a b) (ofN c d) (ofD c d)).n (mul (ofN a b) (ofD a b) (ofN c d) (ofD c d)).d (ofN c d) (ofD c d) = ⟨0, 0, 16⟩ := by
      have hq := (mul_qv hx.ok hy.ok (mul_sm hx hy)).1
      unfold div; rw [okB_iff.2 hq, okB_iff.2 hy.ok, h0]; simp
    have O2 := cl_of c d
    have CA := cl_add eA; have CS := cl_sub eS IY; have CM := cl_mul eM; have CD := cl_div eD
    rw [h0] at O2 CA CS CM CD
    exact IV_zero a b c d _ _ _ _ _ _ _ w ht (cl_of a b) O2 CA CS CM CD
  · exact IV_more a b c d _ _ _ _ _ _ _ _ w ht h0 (cl_of a b) (cl_of c d) (cl_add eA) (cl_sub eS IY) (cl_mul eM) (cl_div (inv_div hx hy h0))
end Go.Proofs.YtgnhihgimeiphaaDoor.Nu
