/-
  The law NumberRing returns true for all integers, in every world that holds the library's table.
-/
import Derived.Test.YtgnhihgimeiphaaDoorNuNm
namespace Go.Proofs.YtgnhihgimeiphaaDoor.Nu
open Go.RowKit

set_option maxRecDepth 100000 in
set_option maxHeartbeats 4000000 in
theorem RG_u (a b c d e f xn xd yn yd zn zd sn sd mn md un ud vn vd qn qd kn kd ue ke : Int) (w : World) (ht : Tb w)
    (hu : ue ≠ 0)
    (O1 : Cl 42 #[.int .i64 a, .int .i64 d] (.agg #[.int .i64 xn, .int .i64 xd]))
    (O2 : Cl 42 #[.int .i64 b, .int .i64 e] (.agg #[.int .i64 yn, .int .i64 yd]))
    (O3 : Cl 42 #[.int .i64 c, .int .i64 f] (.agg #[.int .i64 zn, .int .i64 zd]))
    (CA : Cl 19 #[.agg #[.int .i64 xn, .int .i64 xd], .agg #[.int .i64 yn, .int .i64 yd]] (.tuple #[.agg #[.int .i64 sn, .int .i64 sd], .int .i64 0]))
    (CB : Cl 19 #[.agg #[.int .i64 yn, .int .i64 yd], .agg #[.int .i64 xn, .int .i64 xd]] (.tuple #[.agg #[.int .i64 sn, .int .i64 sd], .int .i64 0]))
    (CM : Cl 23 #[.agg #[.int .i64 xn, .int .i64 xd], .agg #[.int .i64 yn, .int .i64 yd]] (.tuple #[.agg #[.int .i64 mn, .int .i64 md], .int .i64 0]))
    (CN : Cl 23 #[.agg #[.int .i64 yn, .int .i64 yd], .agg #[.int .i64 xn, .int .i64 xd]] (.tuple #[.agg #[.int .i64 mn, .int .i64 md], .int .i64 0]))
    (CU : Cl 23 #[.agg #[.int .i64 sn, .int .i64 sd], .agg #[.int .i64 zn, .int .i64 zd]] (.tuple #[.agg #[.int .i64 un, .int .i64 ud], .int .i64 ue]))
    (CV : Cl 23 #[.agg #[.int .i64 xn, .int .i64 xd], .agg #[.int .i64 zn, .int .i64 zd]] (.tuple #[.agg #[.int .i64 vn, .int .i64 vd], .int .i64 0]))
    (CQ : Cl 23 #[.agg #[.int .i64 yn, .int .i64 yd], .agg #[.int .i64 zn, .int .i64 zd]] (.tuple #[.agg #[.int .i64 qn, .int .i64 qd], .int .i64 0]))
    (CK : Cl 19 #[.agg #[.int .i64 vn, .int .i64 vd], .agg #[.int .i64 qn, .int .i64 qd]] (.tuple #[.agg #[.int .i64 kn, .int .i64 kd], .int .i64 ke]))
    : Calls Tryd.prog 9 #[.int .i64 a, .int .i64 b, .int .i64 c, .int .i64 d, .int .i64 e, .int .i64 f] w fun e w' => e = .returned (.bool true) ∧ Below w.heap.size w w' := by
  have d1 : (ue != 0) = true := by rw [bne_iff_ne]; exact hu
  clear hu
  have nq := neq_num sn sd sn sd
  have nr := eqN_refl sn sd
  have nq2 := neq_num mn md mn md
  have nr2 := eqN_refl mn md
  go_enter Tryd.func9, Tryd.ntmps9
  go_wp2_with fail
  refine (O1 _).mono ?_
  rintro e w1 ⟨rfl, hb1⟩
  have HB1 := Lib.hid hb1
  clear hb1
  go_wp2_with fail
  refine (O2 _).mono ?_
  rintro e w2 ⟨rfl, hb2⟩
  have HB2 := Lib.hid (bl0 HB1.out hb2)
  clear hb2
  go_wp2_with fail
  refine (O3 _).mono ?_
  rintro e w3 ⟨rfl, hb3⟩
  have HB3 := Lib.hid (bl0 HB2.out hb3)
  clear hb3
  go_wp2_with fail
  refine (CA _).mono ?_
  rintro e w4 ⟨rfl, hb4⟩
  have Fx : Nm w4 _ xn xd := new3_0 hb4
  have Fy : Nm w4 _ yn yd := new3_1 hb4
  have Fz : Nm w4 _ zn zd := new3_2 hb4
  have HB4 := Lib.hid (bl3 HB3.out hb4)
  clear hb4
  have cx0 := Fx.c0; have cx1 := Fx.c1; have cxl := Fx.lt
  have cy0 := Fy.c0; have cy1 := Fy.c1; have cyl := Fy.lt
  have cz0 := Fz.c0; have cz1 := Fz.c1; have czl := Fz.lt
  go_wp2_with fail
  refine (CB _).mono ?_
  clear cx0 cx1 cxl cy0 cy1 cyl cz0 cz1 czl
  rintro e w5 ⟨rfl, hb5⟩
  have Fx := Fx.past1 hb5
  have Fy := Fy.past1 hb5
  have Fz := Fz.past1 hb5
  have Fs : Nm w5 _ sn sd := new1_0 hb5
  have HB5 := Lib.hid (bl1 HB4.out hb5)
  clear hb5
  have cx0 := Fx.c0; have cx1 := Fx.c1; have cxl := Fx.lt
  have cy0 := Fy.c0; have cy1 := Fy.c1; have cyl := Fy.lt
  have cz0 := Fz.c0; have cz1 := Fz.c1; have czl := Fz.lt
  have cs0 := Fs.c0; have cs1 := Fs.c1; have csl := Fs.lt
  go_wp2_with fail
  refine (CM _).mono ?_
  clear cx0 cx1 cxl cy0 cy1 cyl cz0 cz1 czl cs0 cs1 csl
  rintro e w6 ⟨rfl, hb6⟩
  have Fx := Fx.past1 hb6
  have Fy := Fy.past1 hb6
  have Fz := Fz.past1 hb6
  have Fs := Fs.past1 hb6
  have Ft : Nm w6 _ sn sd := new1_0 hb6
  have HB6 := Lib.hid (bl1 HB5.out hb6)
  clear hb6
  have cx0 := Fx.c0; have cx1 := Fx.c1; have cxl := Fx.lt
  have cy0 := Fy.c0; have cy1 := Fy.c1; have cyl := Fy.lt
  have cz0 := Fz.c0; have cz1 := Fz.c1; have czl := Fz.lt
  have cs0 := Fs.c0; have cs1 := Fs.c1; have csl := Fs.lt
  have ct0 := Ft.c0; have ct1 := Ft.c1; have ctl := Ft.lt
  go_wp2_with fail
  refine (CN _).mono ?_
  clear cx0 cx1 cxl cy0 cy1 cyl cz0 cz1 czl cs0 cs1 csl ct0 ct1 ctl
  rintro e w7 ⟨rfl, hb7⟩
  have Fx := Fx.past1 hb7
  have Fy := Fy.past1 hb7
  have Fz := Fz.past1 hb7
  have Fs := Fs.past1 hb7
  have Ft := Ft.past1 hb7
  have Fm : Nm w7 _ mn md := new1_0 hb7
  have HB7 := Lib.hid (bl1 HB6.out hb7)
  clear hb7
  have cx0 := Fx.c0; have cx1 := Fx.c1; have cxl := Fx.lt
  have cy0 := Fy.c0; have cy1 := Fy.c1; have cyl := Fy.lt
  have cz0 := Fz.c0; have cz1 := Fz.c1; have czl := Fz.lt
  have cs0 := Fs.c0; have cs1 := Fs.c1; have csl := Fs.lt
  have ct0 := Ft.c0; have ct1 := Ft.c1; have ctl := Ft.lt
  have cm0 := Fm.c0; have cm1 := Fm.c1; have cml := Fm.lt
  go_wp2_with fail
  refine (CU _).mono ?_
  clear cx0 cx1 cxl cy0 cy1 cyl cz0 cz1 czl cs0 cs1 csl ct0 ct1 ctl cm0 cm1 cml
  rintro e w8 ⟨rfl, hb8⟩
  have Fx := Fx.past1 hb8
  have Fy := Fy.past1 hb8
  have Fz := Fz.past1 hb8
  have Fs := Fs.past1 hb8
  have Ft := Ft.past1 hb8
  have Fm := Fm.past1 hb8
  have Fn : Nm w8 _ mn md := new1_0 hb8
  have HB8 := Lib.hid (bl1 HB7.out hb8)
  clear hb8
  have cx0 := Fx.c0; have cx1 := Fx.c1; have cxl := Fx.lt
  have cy0 := Fy.c0; have cy1 := Fy.c1; have cyl := Fy.lt
  have cz0 := Fz.c0; have cz1 := Fz.c1; have czl := Fz.lt
  have cs0 := Fs.c0; have cs1 := Fs.c1; have csl := Fs.lt
  have ct0 := Ft.c0; have ct1 := Ft.c1; have ctl := Ft.lt
  have cm0 := Fm.c0; have cm1 := Fm.c1; have cml := Fm.lt
  have cn0 := Fn.c0; have cn1 := Fn.c1; have cnl := Fn.lt
  go_wp2_with fail
  refine (CV _).mono ?_
  clear cx0 cx1 cxl cy0 cy1 cyl cz0 cz1 czl cs0 cs1 csl ct0 ct1 ctl cm0 cm1 cml cn0 cn1 cnl
  rintro e w9 ⟨rfl, hb9⟩
  have Fx := Fx.past1 hb9
  have Fy := Fy.past1 hb9
  have Fz := Fz.past1 hb9
  have Fs := Fs.past1 hb9
  have Ft := Ft.past1 hb9
  have Fm := Fm.past1 hb9
  have Fn := Fn.past1 hb9
  have Fu : Nm w9 _ un ud := new1_0 hb9
  have HB9 := Lib.hid (bl1 HB8.out hb9)
  clear hb9
  have cx0 := Fx.c0; have cx1 := Fx.c1; have cxl := Fx.lt
  have cy0 := Fy.c0; have cy1 := Fy.c1; have cyl := Fy.lt
  have cz0 := Fz.c0; have cz1 := Fz.c1; have czl := Fz.lt
  have cs0 := Fs.c0; have cs1 := Fs.c1; have csl := Fs.lt
  have ct0 := Ft.c0; have ct1 := Ft.c1; have ctl := Ft.lt
  have cm0 := Fm.c0; have cm1 := Fm.c1; have cml := Fm.lt
  have cn0 := Fn.c0; have cn1 := Fn.c1; have cnl := Fn.lt
  have cu0 := Fu.c0; have cu1 := Fu.c1; have cul := Fu.lt
  go_wp2_with fail
  refine (CQ _).mono ?_
  clear cx0 cx1 cxl cy0 cy1 cyl cz0 cz1 czl cs0 cs1 csl ct0 ct1 ctl cm0 cm1 cml cn0 cn1 cnl cu0 cu1 cul
  rintro e w10 ⟨rfl, hb10⟩
  have Fx := Fx.past1 hb10
  have Fy := Fy.past1 hb10
  have Fz := Fz.past1 hb10
  have Fs := Fs.past1 hb10
  have Ft := Ft.past1 hb10
  have Fm := Fm.past1 hb10
  have Fn := Fn.past1 hb10
  have Fu := Fu.past1 hb10
  have Fv : Nm w10 _ vn vd := new1_0 hb10
  have HB10 := Lib.hid (bl1 HB9.out hb10)
  clear hb10
  have cx0 := Fx.c0; have cx1 := Fx.c1; have cxl := Fx.lt
  have cy0 := Fy.c0; have cy1 := Fy.c1; have cyl := Fy.lt
  have cz0 := Fz.c0; have cz1 := Fz.c1; have czl := Fz.lt
  have cs0 := Fs.c0; have cs1 := Fs.c1; have csl := Fs.lt
  have ct0 := Ft.c0; have ct1 := Ft.c1; have ctl := Ft.lt
  have cm0 := Fm.c0; have cm1 := Fm.c1; have cml := Fm.lt
  have cn0 := Fn.c0; have cn1 := Fn.c1; have cnl := Fn.lt
  have cu0 := Fu.c0; have cu1 := Fu.c1; have cul := Fu.lt
  have cv0 := Fv.c0; have cv1 := Fv.c1; have cvl := Fv.lt
  go_wp2_with fail
  refine (CK _).mono ?_
  clear cx0 cx1 cxl cy0 cy1 cyl cz0 cz1 czl cs0 cs1 csl ct0 ct1 ctl cm0 cm1 cml cn0 cn1 cnl cu0 cu1 cul cv0 cv1 cvl
  rintro e w11 ⟨rfl, hb11⟩
  have Fx := Fx.past1 hb11
  have Fy := Fy.past1 hb11
  have Fz := Fz.past1 hb11
  have Fs := Fs.past1 hb11
  have Ft := Ft.past1 hb11
  have Fm := Fm.past1 hb11
  have Fn := Fn.past1 hb11
  have Fu := Fu.past1 hb11
  have Fv := Fv.past1 hb11
  have Fq : Nm w11 _ qn qd := new1_0 hb11
  have HB11 := Lib.hid (bl1 HB10.out hb11)
  clear hb11
  have cx0 := Fx.c0; have cx1 := Fx.c1; have cxl := Fx.lt
  have cy0 := Fy.c0; have cy1 := Fy.c1; have cyl := Fy.lt
  have cz0 := Fz.c0; have cz1 := Fz.c1; have czl := Fz.lt
  have cs0 := Fs.c0; have cs1 := Fs.c1; have csl := Fs.lt
  have ct0 := Ft.c0; have ct1 := Ft.c1; have ctl := Ft.lt
  have cm0 := Fm.c0; have cm1 := Fm.c1; have cml := Fm.lt
  have cn0 := Fn.c0; have cn1 := Fn.c1; have cnl := Fn.lt
  have cu0 := Fu.c0; have cu1 := Fu.c1; have cul := Fu.lt
  have cv0 := Fv.c0; have cv1 := Fv.c1; have cvl := Fv.lt
  have cq0 := Fq.c0; have cq1 := Fq.c1; have cql := Fq.lt
  go_wp2_with fail
  refine (known_any _ (ht.below (bl_a1 HB11.out _))).mono ?_
  clear cx0 cx1 cxl cy0 cy1 cyl cz0 cz1 czl cs0 cs1 csl ct0 ct1 ctl cm0 cm1 cml cn0 cn1 cnl cu0 cu1 cul cv0 cv1 cvl cq0 cq1 cql
  rintro e w12 ⟨rfl, hb12⟩
  have Fx := Fx.past1 hb12
  have Fy := Fy.past1 hb12
  have Fz := Fz.past1 hb12
  have Fs := Fs.past1 hb12
  have Ft := Ft.past1 hb12
  have Fm := Fm.past1 hb12
  have Fn := Fn.past1 hb12
  have Fu := Fu.past1 hb12
  have Fv := Fv.past1 hb12
  have Fq := Fq.past1 hb12
  have Fk : Nm w12 _ kn kd := new1_0 hb12
  have HB12 := Lib.hid (bl1 HB11.out hb12)
  clear hb12
  have cx0 := Fx.c0; have cx1 := Fx.c1; have cxl := Fx.lt
  have cy0 := Fy.c0; have cy1 := Fy.c1; have cyl := Fy.lt
  have cz0 := Fz.c0; have cz1 := Fz.c1; have czl := Fz.lt
  have cs0 := Fs.c0; have cs1 := Fs.c1; have csl := Fs.lt
  have ct0 := Ft.c0; have ct1 := Ft.c1; have ctl := Ft.lt
  have cm0 := Fm.c0; have cm1 := Fm.c1; have cml := Fm.lt
  have cn0 := Fn.c0; have cn1 := Fn.c1; have cnl := Fn.lt
  have cu0 := Fu.c0; have cu1 := Fu.c1; have cul := Fu.lt
  have cv0 := Fv.c0; have cv1 := Fv.c1; have cvl := Fv.lt
  have cq0 := Fq.c0; have cq1 := Fq.c1; have cql := Fq.lt
  have ck0 := Fk.c0; have ck1 := Fk.c1; have ckl := Fk.lt
  go_wp2
  go_ret
  exact ⟨rfl, HB12.out⟩
set_option maxRecDepth 100000 in
set_option maxHeartbeats 4000000 in
theorem RG_k (a b c d e f xn xd yn yd zn zd sn sd mn md un ud vn vd qn qd kn kd ke : Int) (w : World) (ht : Tb w)
    (hk : ke ≠ 0)
    (O1 : Cl 42 #[.int .i64 a, .int .i64 d] (.agg #[.int .i64 xn, .int .i64 xd]))
    (O2 : Cl 42 #[.int .i64 b, .int .i64 e] (.agg #[.int .i64 yn, .int .i64 yd]))
    (O3 : Cl 42 #[.int .i64 c, .int .i64 f] (.agg #[.int .i64 zn, .int .i64 zd]))
    (CA : Cl 19 #[.agg #[.int .i64 xn, .int .i64 xd], .agg #[.int .i64 yn, .int .i64 yd]] (.tuple #[.agg #[.int .i64 sn, .int .i64 sd], .int .i64 0]))
    (CB : Cl 19 #[.agg #[.int .i64 yn, .int .i64 yd], .agg #[.int .i64 xn, .int .i64 xd]] (.tuple #[.agg #[.int .i64 sn, .int .i64 sd], .int .i64 0]))
    (CM : Cl 23 #[.agg #[.int .i64 xn, .int .i64 xd], .agg #[.int .i64 yn, .int .i64 yd]] (.tuple #[.agg #[.int .i64 mn, .int .i64 md], .int .i64 0]))
    (CN : Cl 23 #[.agg #[.int .i64 yn, .int .i64 yd], .agg #[.int .i64 xn, .int .i64 xd]] (.tuple #[.agg #[.int .i64 mn, .int .i64 md], .int .i64 0]))
    (CU : Cl 23 #[.agg #[.int .i64 sn, .int .i64 sd], .agg #[.int .i64 zn, .int .i64 zd]] (.tuple #[.agg #[.int .i64 un, .int .i64 ud], .int .i64 0]))
    (CV : Cl 23 #[.agg #[.int .i64 xn, .int .i64 xd], .agg #[.int .i64 zn, .int .i64 zd]] (.tuple #[.agg #[.int .i64 vn, .int .i64 vd], .int .i64 0]))
    (CQ : Cl 23 #[.agg #[.int .i64 yn, .int .i64 yd], .agg #[.int .i64 zn, .int .i64 zd]] (.tuple #[.agg #[.int .i64 qn, .int .i64 qd], .int .i64 0]))
    (CK : Cl 19 #[.agg #[.int .i64 vn, .int .i64 vd], .agg #[.int .i64 qn, .int .i64 qd]] (.tuple #[.agg #[.int .i64 kn, .int .i64 kd], .int .i64 ke]))
    : Calls Tryd.prog 9 #[.int .i64 a, .int .i64 b, .int .i64 c, .int .i64 d, .int .i64 e, .int .i64 f] w fun e w' => e = .returned (.bool true) ∧ Below w.heap.size w w' := by
  have d1 : (ke != 0) = true := by rw [bne_iff_ne]; exact hk
  clear hk
  have nq := neq_num sn sd sn sd
  have nr := eqN_refl sn sd
  have nq2 := neq_num mn md mn md
  have nr2 := eqN_refl mn md
  go_enter Tryd.func9, Tryd.ntmps9
  go_wp2_with fail
  refine (O1 _).mono ?_
  rintro e w1 ⟨rfl, hb1⟩
  have HB1 := Lib.hid hb1
  clear hb1
  go_wp2_with fail
  refine (O2 _).mono ?_
  rintro e w2 ⟨rfl, hb2⟩
  have HB2 := Lib.hid (bl0 HB1.out hb2)
  clear hb2
  go_wp2_with fail
  refine (O3 _).mono ?_
  rintro e w3 ⟨rfl, hb3⟩
  have HB3 := Lib.hid (bl0 HB2.out hb3)
  clear hb3
  go_wp2_with fail
  refine (CA _).mono ?_
  rintro e w4 ⟨rfl, hb4⟩
  have Fx : Nm w4 _ xn xd := new3_0 hb4
  have Fy : Nm w4 _ yn yd := new3_1 hb4
  have Fz : Nm w4 _ zn zd := new3_2 hb4
  have HB4 := Lib.hid (bl3 HB3.out hb4)
  clear hb4
  have cx0 := Fx.c0; have cx1 := Fx.c1; have cxl := Fx.lt
  have cy0 := Fy.c0; have cy1 := Fy.c1; have cyl := Fy.lt
  have cz0 := Fz.c0; have cz1 := Fz.c1; have czl := Fz.lt
  go_wp2_with fail
  refine (CB _).mono ?_
  clear cx0 cx1 cxl cy0 cy1 cyl cz0 cz1 czl
  rintro e w5 ⟨rfl, hb5⟩
  have Fx := Fx.past1 hb5
  have Fy := Fy.past1 hb5
  have Fz := Fz.past1 hb5
  have Fs : Nm w5 _ sn sd := new1_0 hb5
  have HB5 := Lib.hid (bl1 HB4.out hb5)
  clear hb5
  have cx0 := Fx.c0; have cx1 := Fx.c1; have cxl := Fx.lt
  have cy0 := Fy.c0; have cy1 := Fy.c1; have cyl := Fy.lt
  have cz0 := Fz.c0; have cz1 := Fz.c1; have czl := Fz.lt
  have cs0 := Fs.c0; have cs1 := Fs.c1; have csl := Fs.lt
  go_wp2_with fail
  refine (CM _).mono ?_
  clear cx0 cx1 cxl cy0 cy1 cyl cz0 cz1 czl cs0 cs1 csl
  rintro e w6 ⟨rfl, hb6⟩
  have Fx := Fx.past1 hb6
  have Fy := Fy.past1 hb6
  have Fz := Fz.past1 hb6
  have Fs := Fs.past1 hb6
  have Ft : Nm w6 _ sn sd := new1_0 hb6
  have HB6 := Lib.hid (bl1 HB5.out hb6)
  clear hb6
  have cx0 := Fx.c0; have cx1 := Fx.c1; have cxl := Fx.lt
  have cy0 := Fy.c0; have cy1 := Fy.c1; have cyl := Fy.lt
  have cz0 := Fz.c0; have cz1 := Fz.c1; have czl := Fz.lt
  have cs0 := Fs.c0; have cs1 := Fs.c1; have csl := Fs.lt
  have ct0 := Ft.c0; have ct1 := Ft.c1; have ctl := Ft.lt
  go_wp2_with fail
  refine (CN _).mono ?_
  clear cx0 cx1 cxl cy0 cy1 cyl cz0 cz1 czl cs0 cs1 csl ct0 ct1 ctl
  rintro e w7 ⟨rfl, hb7⟩
  have Fx := Fx.past1 hb7
  have Fy := Fy.past1 hb7
  have Fz := Fz.past1 hb7
  have Fs := Fs.past1 hb7
  have Ft := Ft.past1 hb7
  have Fm : Nm w7 _ mn md := new1_0 hb7
  have HB7 := Lib.hid (bl1 HB6.out hb7)
  clear hb7
  have cx0 := Fx.c0; have cx1 := Fx.c1; have cxl := Fx.lt
  have cy0 := Fy.c0; have cy1 := Fy.c1; have cyl := Fy.lt
  have cz0 := Fz.c0; have cz1 := Fz.c1; have czl := Fz.lt
  have cs0 := Fs.c0; have cs1 := Fs.c1; have csl := Fs.lt
  have ct0 := Ft.c0; have ct1 := Ft.c1; have ctl := Ft.lt
  have cm0 := Fm.c0; have cm1 := Fm.c1; have cml := Fm.lt
  go_wp2_with fail
  refine (CU _).mono ?_
  clear cx0 cx1 cxl cy0 cy1 cyl cz0 cz1 czl cs0 cs1 csl ct0 ct1 ctl cm0 cm1 cml
  rintro e w8 ⟨rfl, hb8⟩
  have Fx := Fx.past1 hb8
  have Fy := Fy.past1 hb8
  have Fz := Fz.past1 hb8
  have Fs := Fs.past1 hb8
  have Ft := Ft.past1 hb8
  have Fm := Fm.past1 hb8
  have Fn : Nm w8 _ mn md := new1_0 hb8
  have HB8 := Lib.hid (bl1 HB7.out hb8)
  clear hb8
  have cx0 := Fx.c0; have cx1 := Fx.c1; have cxl := Fx.lt
  have cy0 := Fy.c0; have cy1 := Fy.c1; have cyl := Fy.lt
  have cz0 := Fz.c0; have cz1 := Fz.c1; have czl := Fz.lt
  have cs0 := Fs.c0; have cs1 := Fs.c1; have csl := Fs.lt
  have ct0 := Ft.c0; have ct1 := Ft.c1; have ctl := Ft.lt
  have cm0 := Fm.c0; have cm1 := Fm.c1; have cml := Fm.lt
  have cn0 := Fn.c0; have cn1 := Fn.c1; have cnl := Fn.lt
  go_wp2_with fail
  refine (CV _).mono ?_
  clear cx0 cx1 cxl cy0 cy1 cyl cz0 cz1 czl cs0 cs1 csl ct0 ct1 ctl cm0 cm1 cml cn0 cn1 cnl
  rintro e w9 ⟨rfl, hb9⟩
  have Fx := Fx.past1 hb9
  have Fy := Fy.past1 hb9
  have Fz := Fz.past1 hb9
  have Fs := Fs.past1 hb9
  have Ft := Ft.past1 hb9
  have Fm := Fm.past1 hb9
  have Fn := Fn.past1 hb9
  have Fu : Nm w9 _ un ud := new1_0 hb9
  have HB9 := Lib.hid (bl1 HB8.out hb9)
  clear hb9
  have cx0 := Fx.c0; have cx1 := Fx.c1; have cxl := Fx.lt
  have cy0 := Fy.c0; have cy1 := Fy.c1; have cyl := Fy.lt
  have cz0 := Fz.c0; have cz1 := Fz.c1; have czl := Fz.lt
  have cs0 := Fs.c0; have cs1 := Fs.c1; have csl := Fs.lt
  have ct0 := Ft.c0; have ct1 := Ft.c1; have ctl := Ft.lt
  have cm0 := Fm.c0; have cm1 := Fm.c1; have cml := Fm.lt
  have cn0 := Fn.c0; have cn1 := Fn.c1; have cnl := Fn.lt
  have cu0 := Fu.c0; have cu1 := Fu.c1; have cul := Fu.lt
  go_wp2_with fail
  refine (CQ _).mono ?_
  clear cx0 cx1 cxl cy0 cy1 cyl cz0 cz1 czl cs0 cs1 csl ct0 ct1 ctl cm0 cm1 cml cn0 cn1 cnl cu0 cu1 cul
  rintro e w10 ⟨rfl, hb10⟩
  have Fx := Fx.past1 hb10
  have Fy := Fy.past1 hb10
  have Fz := Fz.past1 hb10
  have Fs := Fs.past1 hb10
  have Ft := Ft.past1 hb10
  have Fm := Fm.past1 hb10
  have Fn := Fn.past1 hb10
  have Fu := Fu.past1 hb10
  have Fv : Nm w10 _ vn vd := new1_0 hb10
  have HB10 := Lib.hid (bl1 HB9.out hb10)
  clear hb10
  have cx0 := Fx.c0; have cx1 := Fx.c1; have cxl := Fx.lt
  have cy0 := Fy.c0; have cy1 := Fy.c1; have cyl := Fy.lt
  have cz0 := Fz.c0; have cz1 := Fz.c1; have czl := Fz.lt
  have cs0 := Fs.c0; have cs1 := Fs.c1; have csl := Fs.lt
  have ct0 := Ft.c0; have ct1 := Ft.c1; have ctl := Ft.lt
  have cm0 := Fm.c0; have cm1 := Fm.c1; have cml := Fm.lt
  have cn0 := Fn.c0; have cn1 := Fn.c1; have cnl := Fn.lt
  have cu0 := Fu.c0; have cu1 := Fu.c1; have cul := Fu.lt
  have cv0 := Fv.c0; have cv1 := Fv.c1; have cvl := Fv.lt
  go_wp2_with fail
  refine (CK _).mono ?_
  clear cx0 cx1 cxl cy0 cy1 cyl cz0 cz1 czl cs0 cs1 csl ct0 ct1 ctl cm0 cm1 cml cn0 cn1 cnl cu0 cu1 cul cv0 cv1 cvl
  rintro e w11 ⟨rfl, hb11⟩
  have Fx := Fx.past1 hb11
  have Fy := Fy.past1 hb11
  have Fz := Fz.past1 hb11
  have Fs := Fs.past1 hb11
  have Ft := Ft.past1 hb11
  have Fm := Fm.past1 hb11
  have Fn := Fn.past1 hb11
  have Fu := Fu.past1 hb11
  have Fv := Fv.past1 hb11
  have Fq : Nm w11 _ qn qd := new1_0 hb11
  have HB11 := Lib.hid (bl1 HB10.out hb11)
  clear hb11
  have cx0 := Fx.c0; have cx1 := Fx.c1; have cxl := Fx.lt
  have cy0 := Fy.c0; have cy1 := Fy.c1; have cyl := Fy.lt
  have cz0 := Fz.c0; have cz1 := Fz.c1; have czl := Fz.lt
  have cs0 := Fs.c0; have cs1 := Fs.c1; have csl := Fs.lt
  have ct0 := Ft.c0; have ct1 := Ft.c1; have ctl := Ft.lt
  have cm0 := Fm.c0; have cm1 := Fm.c1; have cml := Fm.lt
  have cn0 := Fn.c0; have cn1 := Fn.c1; have cnl := Fn.lt
  have cu0 := Fu.c0; have cu1 := Fu.c1; have cul := Fu.lt
  have cv0 := Fv.c0; have cv1 := Fv.c1; have cvl := Fv.lt
  have cq0 := Fq.c0; have cq1 := Fq.c1; have cql := Fq.lt
  go_wp2_with fail
  refine (known_any _ (ht.below (bl_a1 HB11.out _))).mono ?_
  clear cx0 cx1 cxl cy0 cy1 cyl cz0 cz1 czl cs0 cs1 csl ct0 ct1 ctl cm0 cm1 cml cn0 cn1 cnl cu0 cu1 cul cv0 cv1 cvl cq0 cq1 cql
  rintro e w12 ⟨rfl, hb12⟩
  have Fx := Fx.past1 hb12
  have Fy := Fy.past1 hb12
  have Fz := Fz.past1 hb12
  have Fs := Fs.past1 hb12
  have Ft := Ft.past1 hb12
  have Fm := Fm.past1 hb12
  have Fn := Fn.past1 hb12
  have Fu := Fu.past1 hb12
  have Fv := Fv.past1 hb12
  have Fq := Fq.past1 hb12
  have Fk : Nm w12 _ kn kd := new1_0 hb12
  have HB12 := Lib.hid (bl1 HB11.out hb12)
  clear hb12
  have cx0 := Fx.c0; have cx1 := Fx.c1; have cxl := Fx.lt
  have cy0 := Fy.c0; have cy1 := Fy.c1; have cyl := Fy.lt
  have cz0 := Fz.c0; have cz1 := Fz.c1; have czl := Fz.lt
  have cs0 := Fs.c0; have cs1 := Fs.c1; have csl := Fs.lt
  have ct0 := Ft.c0; have ct1 := Ft.c1; have ctl := Ft.lt
  have cm0 := Fm.c0; have cm1 := Fm.c1; have cml := Fm.lt
  have cn0 := Fn.c0; have cn1 := Fn.c1; have cnl := Fn.lt
  have cu0 := Fu.c0; have cu1 := Fu.c1; have cul := Fu.lt
  have cv0 := Fv.c0; have cv1 := Fv.c1; have cvl := Fv.lt
  have cq0 := Fq.c0; have cq1 := Fq.c1; have cql := Fq.lt
  have ck0 := Fk.c0; have ck1 := Fk.c1; have ckl := Fk.lt
  go_wp2
  go_ret
  exact ⟨rfl, HB12.out⟩
set_option maxRecDepth 100000 in
set_option maxHeartbeats 4000000 in
theorem RG_z (a b c d e f xn xd yn yd zn zd sn sd mn md un ud vn vd qn qd kn kd : Int) (w : World) (ht : Tb w)
    (O1 : Cl 42 #[.int .i64 a, .int .i64 d] (.agg #[.int .i64 xn, .int .i64 xd]))
    (O2 : Cl 42 #[.int .i64 b, .int .i64 e] (.agg #[.int .i64 yn, .int .i64 yd]))
    (O3 : Cl 42 #[.int .i64 c, .int .i64 f] (.agg #[.int .i64 zn, .int .i64 zd]))
    (CA : Cl 19 #[.agg #[.int .i64 xn, .int .i64 xd], .agg #[.int .i64 yn, .int .i64 yd]] (.tuple #[.agg #[.int .i64 sn, .int .i64 sd], .int .i64 0]))
    (CB : Cl 19 #[.agg #[.int .i64 yn, .int .i64 yd], .agg #[.int .i64 xn, .int .i64 xd]] (.tuple #[.agg #[.int .i64 sn, .int .i64 sd], .int .i64 0]))
    (CM : Cl 23 #[.agg #[.int .i64 xn, .int .i64 xd], .agg #[.int .i64 yn, .int .i64 yd]] (.tuple #[.agg #[.int .i64 mn, .int .i64 md], .int .i64 0]))
    (CN : Cl 23 #[.agg #[.int .i64 yn, .int .i64 yd], .agg #[.int .i64 xn, .int .i64 xd]] (.tuple #[.agg #[.int .i64 mn, .int .i64 md], .int .i64 0]))
    (CU : Cl 23 #[.agg #[.int .i64 sn, .int .i64 sd], .agg #[.int .i64 zn, .int .i64 zd]] (.tuple #[.agg #[.int .i64 un, .int .i64 ud], .int .i64 0]))
    (CV : Cl 23 #[.agg #[.int .i64 xn, .int .i64 xd], .agg #[.int .i64 zn, .int .i64 zd]] (.tuple #[.agg #[.int .i64 vn, .int .i64 vd], .int .i64 0]))
    (CQ : Cl 23 #[.agg #[.int .i64 yn, .int .i64 yd], .agg #[.int .i64 zn, .int .i64 zd]] (.tuple #[.agg #[.int .i64 qn, .int .i64 qd], .int .i64 0]))
    (CK : Cl 19 #[.agg #[.int .i64 vn, .int .i64 vd], .agg #[.int .i64 qn, .int .i64 qd]] (.tuple #[.agg #[.int .i64 kn, .int .i64 kd], .int .i64 0]))
    (CR : Cl 21 #[.agg #[.int .i64 kn, .int .i64 kd], .agg #[.int .i64 un, .int .i64 ud]] (.tuple #[.agg #[.int .i64 0, .int .i64 1], .int .i64 0]))
    : Calls Tryd.prog 9 #[.int .i64 a, .int .i64 b, .int .i64 c, .int .i64 d, .int .i64 e, .int .i64 f] w fun e w' => e = .returned (.bool true) ∧ Below w.heap.size w w' := by
  have eq := eq_num 0 1 0 1
  have er := eqN_refl 0 1
  have nq := neq_num sn sd sn sd
  have nr := eqN_refl sn sd
  have nq2 := neq_num mn md mn md
  have nr2 := eqN_refl mn md
  go_enter Tryd.func9, Tryd.ntmps9
  go_wp2_with fail
  refine (O1 _).mono ?_
  rintro e w1 ⟨rfl, hb1⟩
  have HB1 := Lib.hid hb1
  clear hb1
  go_wp2_with fail
  refine (O2 _).mono ?_
  rintro e w2 ⟨rfl, hb2⟩
  have HB2 := Lib.hid (bl0 HB1.out hb2)
  clear hb2
  go_wp2_with fail
  refine (O3 _).mono ?_
  rintro e w3 ⟨rfl, hb3⟩
  have HB3 := Lib.hid (bl0 HB2.out hb3)
  clear hb3
  go_wp2_with fail
  refine (CA _).mono ?_
  rintro e w4 ⟨rfl, hb4⟩
  have Fx : Nm w4 _ xn xd := new3_0 hb4
  have Fy : Nm w4 _ yn yd := new3_1 hb4
  have Fz : Nm w4 _ zn zd := new3_2 hb4
  have HB4 := Lib.hid (bl3 HB3.out hb4)
  clear hb4
  have cx0 := Fx.c0; have cx1 := Fx.c1; have cxl := Fx.lt
  have cy0 := Fy.c0; have cy1 := Fy.c1; have cyl := Fy.lt
  have cz0 := Fz.c0; have cz1 := Fz.c1; have czl := Fz.lt
  go_wp2_with fail
  refine (CB _).mono ?_
  clear cx0 cx1 cxl cy0 cy1 cyl cz0 cz1 czl
  rintro e w5 ⟨rfl, hb5⟩
  have Fx := Fx.past1 hb5
  have Fy := Fy.past1 hb5
  have Fz := Fz.past1 hb5
  have Fs : Nm w5 _ sn sd := new1_0 hb5
  have HB5 := Lib.hid (bl1 HB4.out hb5)
  clear hb5
  have cx0 := Fx.c0; have cx1 := Fx.c1; have cxl := Fx.lt
  have cy0 := Fy.c0; have cy1 := Fy.c1; have cyl := Fy.lt
  have cz0 := Fz.c0; have cz1 := Fz.c1; have czl := Fz.lt
  have cs0 := Fs.c0; have cs1 := Fs.c1; have csl := Fs.lt
  go_wp2_with fail
  refine (CM _).mono ?_
  clear cx0 cx1 cxl cy0 cy1 cyl cz0 cz1 czl cs0 cs1 csl
  rintro e w6 ⟨rfl, hb6⟩
  have Fx := Fx.past1 hb6
  have Fy := Fy.past1 hb6
  have Fz := Fz.past1 hb6
  have Fs := Fs.past1 hb6
  have Ft : Nm w6 _ sn sd := new1_0 hb6
  have HB6 := Lib.hid (bl1 HB5.out hb6)
  clear hb6
  have cx0 := Fx.c0; have cx1 := Fx.c1; have cxl := Fx.lt
  have cy0 := Fy.c0; have cy1 := Fy.c1; have cyl := Fy.lt
  have cz0 := Fz.c0; have cz1 := Fz.c1; have czl := Fz.lt
  have cs0 := Fs.c0; have cs1 := Fs.c1; have csl := Fs.lt
  have ct0 := Ft.c0; have ct1 := Ft.c1; have ctl := Ft.lt
  go_wp2_with fail
  refine (CN _).mono ?_
  clear cx0 cx1 cxl cy0 cy1 cyl cz0 cz1 czl cs0 cs1 csl ct0 ct1 ctl
  rintro e w7 ⟨rfl, hb7⟩
  have Fx := Fx.past1 hb7
  have Fy := Fy.past1 hb7
  have Fz := Fz.past1 hb7
  have Fs := Fs.past1 hb7
  have Ft := Ft.past1 hb7
  have Fm : Nm w7 _ mn md := new1_0 hb7
  have HB7 := Lib.hid (bl1 HB6.out hb7)
  clear hb7
  have cx0 := Fx.c0; have cx1 := Fx.c1; have cxl := Fx.lt
  have cy0 := Fy.c0; have cy1 := Fy.c1; have cyl := Fy.lt
  have cz0 := Fz.c0; have cz1 := Fz.c1; have czl := Fz.lt
  have cs0 := Fs.c0; have cs1 := Fs.c1; have csl := Fs.lt
  have ct0 := Ft.c0; have ct1 := Ft.c1; have ctl := Ft.lt
  have cm0 := Fm.c0; have cm1 := Fm.c1; have cml := Fm.lt
  go_wp2_with fail
  refine (CU _).mono ?_
  clear cx0 cx1 cxl cy0 cy1 cyl cz0 cz1 czl cs0 cs1 csl ct0 ct1 ctl cm0 cm1 cml
  rintro e w8 ⟨rfl, hb8⟩
  have Fx := Fx.past1 hb8
  have Fy := Fy.past1 hb8
  have Fz := Fz.past1 hb8
  have Fs := Fs.past1 hb8
  have Ft := Ft.past1 hb8
  have Fm := Fm.past1 hb8
  have Fn : Nm w8 _ mn md := new1_0 hb8
  have HB8 := Lib.hid (bl1 HB7.out hb8)
  clear hb8
  have cx0 := Fx.c0; have cx1 := Fx.c1; have cxl := Fx.lt
  have cy0 := Fy.c0; have cy1 := Fy.c1; have cyl := Fy.lt
  have cz0 := Fz.c0; have cz1 := Fz.c1; have czl := Fz.lt
  have cs0 := Fs.c0; have cs1 := Fs.c1; have csl := Fs.lt
  have ct0 := Ft.c0; have ct1 := Ft.c1; have ctl := Ft.lt
  have cm0 := Fm.c0; have cm1 := Fm.c1; have cml := Fm.lt
  have cn0 := Fn.c0; have cn1 := Fn.c1; have cnl := Fn.lt
  go_wp2_with fail
  refine (CV _).mono ?_
  clear cx0 cx1 cxl cy0 cy1 cyl cz0 cz1 czl cs0 cs1 csl ct0 ct1 ctl cm0 cm1 cml cn0 cn1 cnl
  rintro e w9 ⟨rfl, hb9⟩
  have Fx := Fx.past1 hb9
  have Fy := Fy.past1 hb9
  have Fz := Fz.past1 hb9
  have Fs := Fs.past1 hb9
  have Ft := Ft.past1 hb9
  have Fm := Fm.past1 hb9
  have Fn := Fn.past1 hb9
  have Fu : Nm w9 _ un ud := new1_0 hb9
  have HB9 := Lib.hid (bl1 HB8.out hb9)
  clear hb9
  have cx0 := Fx.c0; have cx1 := Fx.c1; have cxl := Fx.lt
  have cy0 := Fy.c0; have cy1 := Fy.c1; have cyl := Fy.lt
  have cz0 := Fz.c0; have cz1 := Fz.c1; have czl := Fz.lt
  have cs0 := Fs.c0; have cs1 := Fs.c1; have csl := Fs.lt
  have ct0 := Ft.c0; have ct1 := Ft.c1; have ctl := Ft.lt
  have cm0 := Fm.c0; have cm1 := Fm.c1; have cml := Fm.lt
  have cn0 := Fn.c0; have cn1 := Fn.c1; have cnl := Fn.lt
  have cu0 := Fu.c0; have cu1 := Fu.c1; have cul := Fu.lt
  go_wp2_with fail
  refine (CQ _).mono ?_
  clear cx0 cx1 cxl cy0 cy1 cyl cz0 cz1 czl cs0 cs1 csl ct0 ct1 ctl cm0 cm1 cml cn0 cn1 cnl cu0 cu1 cul
  rintro e w10 ⟨rfl, hb10⟩
  have Fx := Fx.past1 hb10
  have Fy := Fy.past1 hb10
  have Fz := Fz.past1 hb10
  have Fs := Fs.past1 hb10
  have Ft := Ft.past1 hb10
  have Fm := Fm.past1 hb10
  have Fn := Fn.past1 hb10
  have Fu := Fu.past1 hb10
  have Fv : Nm w10 _ vn vd := new1_0 hb10
  have HB10 := Lib.hid (bl1 HB9.out hb10)
  clear hb10
  have cx0 := Fx.c0; have cx1 := Fx.c1; have cxl := Fx.lt
  have cy0 := Fy.c0; have cy1 := Fy.c1; have cyl := Fy.lt
  have cz0 := Fz.c0; have cz1 := Fz.c1; have czl := Fz.lt
  have cs0 := Fs.c0; have cs1 := Fs.c1; have csl := Fs.lt
  have ct0 := Ft.c0; have ct1 := Ft.c1; have ctl := Ft.lt
  have cm0 := Fm.c0; have cm1 := Fm.c1; have cml := Fm.lt
  have cn0 := Fn.c0; have cn1 := Fn.c1; have cnl := Fn.lt
  have cu0 := Fu.c0; have cu1 := Fu.c1; have cul := Fu.lt
  have cv0 := Fv.c0; have cv1 := Fv.c1; have cvl := Fv.lt
  go_wp2_with fail
  refine (CK _).mono ?_
  clear cx0 cx1 cxl cy0 cy1 cyl cz0 cz1 czl cs0 cs1 csl ct0 ct1 ctl cm0 cm1 cml cn0 cn1 cnl cu0 cu1 cul cv0 cv1 cvl
  rintro e w11 ⟨rfl, hb11⟩
  have Fx := Fx.past1 hb11
  have Fy := Fy.past1 hb11
  have Fz := Fz.past1 hb11
  have Fs := Fs.past1 hb11
  have Ft := Ft.past1 hb11
  have Fm := Fm.past1 hb11
  have Fn := Fn.past1 hb11
  have Fu := Fu.past1 hb11
  have Fv := Fv.past1 hb11
  have Fq : Nm w11 _ qn qd := new1_0 hb11
  have HB11 := Lib.hid (bl1 HB10.out hb11)
  clear hb11
  have cx0 := Fx.c0; have cx1 := Fx.c1; have cxl := Fx.lt
  have cy0 := Fy.c0; have cy1 := Fy.c1; have cyl := Fy.lt
  have cz0 := Fz.c0; have cz1 := Fz.c1; have czl := Fz.lt
  have cs0 := Fs.c0; have cs1 := Fs.c1; have csl := Fs.lt
  have ct0 := Ft.c0; have ct1 := Ft.c1; have ctl := Ft.lt
  have cm0 := Fm.c0; have cm1 := Fm.c1; have cml := Fm.lt
  have cn0 := Fn.c0; have cn1 := Fn.c1; have cnl := Fn.lt
  have cu0 := Fu.c0; have cu1 := Fu.c1; have cul := Fu.lt
  have cv0 := Fv.c0; have cv1 := Fv.c1; have cvl := Fv.lt
  have cq0 := Fq.c0; have cq1 := Fq.c1; have cql := Fq.lt
  go_wp2_with fail
  refine (CR _).mono ?_
  clear cx0 cx1 cxl cy0 cy1 cyl cz0 cz1 czl cs0 cs1 csl ct0 ct1 ctl cm0 cm1 cml cn0 cn1 cnl cu0 cu1 cul cv0 cv1 cvl cq0 cq1 cql
  rintro e w12 ⟨rfl, hb12⟩
  have Fx := Fx.past1 hb12
  have Fy := Fy.past1 hb12
  have Fz := Fz.past1 hb12
  have Fs := Fs.past1 hb12
  have Ft := Ft.past1 hb12
  have Fm := Fm.past1 hb12
  have Fn := Fn.past1 hb12
  have Fu := Fu.past1 hb12
  have Fv := Fv.past1 hb12
  have Fq := Fq.past1 hb12
  have Fk : Nm w12 _ kn kd := new1_0 hb12
  have HB12 := Lib.hid (bl1 HB11.out hb12)
  clear hb12
  have cx0 := Fx.c0; have cx1 := Fx.c1; have cxl := Fx.lt
  have cy0 := Fy.c0; have cy1 := Fy.c1; have cyl := Fy.lt
  have cz0 := Fz.c0; have cz1 := Fz.c1; have czl := Fz.lt
  have cs0 := Fs.c0; have cs1 := Fs.c1; have csl := Fs.lt
  have ct0 := Ft.c0; have ct1 := Ft.c1; have ctl := Ft.lt
  have cm0 := Fm.c0; have cm1 := Fm.c1; have cml := Fm.lt
  have cn0 := Fn.c0; have cn1 := Fn.c1; have cnl := Fn.lt
  have cu0 := Fu.c0; have cu1 := Fu.c1; have cul := Fu.lt
  have cv0 := Fv.c0; have cv1 := Fv.c1; have cvl := Fv.lt
  have cq0 := Fq.c0; have cq1 := Fq.c1; have cql := Fq.lt
  have ck0 := Fk.c0; have ck1 := Fk.c1; have ckl := Fk.lt
  go_wp2_with fail
  refine (known_any _ (ht.below (bl_a1 HB12.out _))).mono ?_
  clear cx0 cx1 cxl cy0 cy1 cyl cz0 cz1 czl cs0 cs1 csl ct0 ct1 ctl cm0 cm1 cml cn0 cn1 cnl cu0 cu1 cul cv0 cv1 cvl cq0 cq1 cql ck0 ck1 ckl
  rintro e w13 ⟨rfl, hb13⟩
  have Fx := Fx.past1 hb13
  have Fy := Fy.past1 hb13
  have Fz := Fz.past1 hb13
  have Fs := Fs.past1 hb13
  have Ft := Ft.past1 hb13
  have Fm := Fm.past1 hb13
  have Fn := Fn.past1 hb13
  have Fu := Fu.past1 hb13
  have Fv := Fv.past1 hb13
  have Fq := Fq.past1 hb13
  have Fk := Fk.past1 hb13
  have Fr : Nm w13 _ 0 1 := new1_0 hb13
  have HB13 := Lib.hid (bl1 HB12.out hb13)
  clear hb13
  have cx0 := Fx.c0; have cx1 := Fx.c1; have cxl := Fx.lt
  have cy0 := Fy.c0; have cy1 := Fy.c1; have cyl := Fy.lt
  have cz0 := Fz.c0; have cz1 := Fz.c1; have czl := Fz.lt
  have cs0 := Fs.c0; have cs1 := Fs.c1; have csl := Fs.lt
  have ct0 := Ft.c0; have ct1 := Ft.c1; have ctl := Ft.lt
  have cm0 := Fm.c0; have cm1 := Fm.c1; have cml := Fm.lt
  have cn0 := Fn.c0; have cn1 := Fn.c1; have cnl := Fn.lt
  have cu0 := Fu.c0; have cu1 := Fu.c1; have cul := Fu.lt
  have cv0 := Fv.c0; have cv1 := Fv.c1; have cvl := Fv.lt
  have cq0 := Fq.c0; have cq1 := Fq.c1; have cql := Fq.lt
  have ck0 := Fk.c0; have ck1 := Fk.c1; have ckl := Fk.lt
  have cr0 := Fr.c0; have cr1 := Fr.c1; have crl := Fr.lt
  go_wp2
  go_ret
  exact ⟨rfl, HB13.out⟩
theorem NumberRing_any (a b c d e f : Int) (w : World) (ht : Tb w) : Calls Tryd.prog 9 #[.int .i64 a, .int .i64 b, .int .i64 c, .int .i64 d, .int .i64 e, .int .i64 f] w fun e w' => e = .returned (.bool true) ∧ Below w.heap.size w w' := by
  have hx := sm_of a d
  have hy := sm_of b e
  have hz := sm_of c f
  have eA := r3_eq (add_sm hx hy)
  have eB := eA; rw [add_comm'] at eB
  have eM := r3_eq (mul_sm hx hy)
  have eN := eM; rw [mul_comm'] at eN
  have eV := r3_eq (mul_sm hx hz)
  have eQ := r3_eq (mul_sm hy hz)
  have eB2 : add (ofN b e) (ofD b e) (ofN a d) (ofD a d) = ⟨(add (ofN a d) (ofD a d) (ofN b e) (ofD b e)).n, (add (ofN a d) (ofD a d) (ofN b e) (ofD b e)).d, 0⟩ := by rw [add_comm']; exact eA
  have eN2 : mul (ofN b e) (ofD b e) (ofN a d) (ofD a d) = ⟨(mul (ofN a d) (ofD a d) (ofN b e) (ofD b e)).n, (mul (ofN a d) (ofD a d) (ofN b e) (ofD b e)).d, 0⟩ := by rw [mul_comm']; exact eM
  clear eB eN
  have eU : mul (add (ofN a d) (ofD a d) (ofN b e) (ofD b e)).n (add (ofN a d) (ofD a d) (ofN b e) (ofD b e)).d (ofN c f) (ofD c f) = ⟨(mul (add (ofN a d) (ofD a d) (ofN b e) (ofD b e)).n (add (ofN a d) (ofD a d) (ofN b e) (ofD b e)).d (ofN c f) (ofD c f)).n, (mul (add (ofN a d) (ofD a d) (ofN b e) (ofD b e)).n (add (ofN a d) (ofD a d) (ofN b e) (ofD b e)).d (ofN c f) (ofD c f)).d, (mul (add (ofN a d) (ofD a d) (ofN b e) (ofD b e)).n (add (ofN a d) (ofD a d) (ofN b e) (ofD b e)).d (ofN c f) (ofD c f)).e⟩ := rfl
  have eK : add (mul (ofN a d) (ofD a d) (ofN c f) (ofD c f)).n (mul (ofN a d) (ofD a d) (ofN c f) (ofD c f)).d (mul (ofN b e) (ofD b e) (ofN c f) (ofD c f)).n (mul (ofN b e) (ofD b e) (ofN c f) (ofD c f)).d = ⟨(add (mul (ofN a d) (ofD a d) (ofN c f) (ofD c f)).n (mul (ofN a d) (ofD a d) (ofN c f) (ofD c f)).d (mul (ofN b e) (ofD b e) (ofN c f) (ofD c f)).n (mul (ofN b e) (ofD b e) (ofN c f) (ofD c f)).d).n, (add (mul (ofN a d) (ofD a d) (ofN c f) (ofD c f)).n (mul (ofN a d) (ofD a d) (ofN c f) (ofD c f)).d (mul (ofN b e) (ofD b e) (ofN c f) (ofD c f)).n (mul (ofN b e) (ofD b e) (ofN c f) (ofD c f)).d).d, (add (mul (ofN a d) (ofD a d) (ofN c f) (ofD c f)).n (mul (ofN a d) (ofD a d) (ofN c f) (ofD c f)).d (mul (ofN b e) (ofD b e) (ofN c f) (ofD c f)).n (mul (ofN b e) (ofD b e) (ofN c f) (ofD c f)).d).e⟩ := rfl
  by_cases hu : (mul (add (ofN a d) (ofD a d) (ofN b e) (ofD b e)).n (add (ofN a d) (ofD a d) (ofN b e) (ofD b e)).d (ofN c f) (ofD c f)).e = 0
  · by_cases hk : (add (mul (ofN a d) (ofD a d) (ofN c f) (ofD c f)).n (mul (ofN a d) (ofD a d) (ofN c f) (ofD c f)).d (mul (ofN b e) (ofD b e) (ofN c f) (ofD c f)).n (mul (ofN b e) (ofD b e) (ofN c f) (ofD c f)).d).e = 0
    · have hr := ring_zero hx hy hz rfl rfl rfl rfl rfl hu hk
      have hq := (mul_qv (add_qv hx.ok hy.ok (add_sm hx hy)).1 hz.ok hu).1
      rw [hu] at eU
      rw [hk] at eK
      exact RG_z a b c d e f _ _ _ _ _ _ _ _ _ _ _ _ _ _ _ _ _ _ w ht (cl_of a d) (cl_of b e) (cl_of c f) (cl_add eA) (cl_add eB2) (cl_mul eM) (cl_mul eN2) (cl_mul eU) (cl_mul eV) (cl_mul eQ) (cl_add eK) (cl_sub hr (i64_sm hq))
    · rw [hu] at eU
      exact RG_k a b c d e f _ _ _ _ _ _ _ _ _ _ _ _ _ _ _ _ _ _ _ w ht hk (cl_of a d) (cl_of b e) (cl_of c f) (cl_add eA) (cl_add eB2) (cl_mul eM) (cl_mul eN2) (cl_mul eU) (cl_mul eV) (cl_mul eQ) (cl_add eK)
  · exact RG_u a b c d e f _ _ _ _ _ _ _ _ _ _ _ _ _ _ _ _ _ _ _ _ w ht hu (cl_of a d) (cl_of b e) (cl_of c f) (cl_add eA) (cl_add eB2) (cl_mul eM) (cl_mul eN2) (cl_mul eU) (cl_mul eV) (cl_mul eQ) (cl_add eK)
end Go.Proofs.YtgnhihgimeiphaaDoor.Nu
