/-
  The law NumberMod returns true for all integers, in every world that holds the library's table.
-/
import Derived.Test.YtgnhihgimeiphaaDoorNuNm
namespace Go.Proofs.YtgnhihgimeiphaaDoor.Nu
open Go.RowKit

set_option maxRecDepth 100000 in
set_option maxHeartbeats 4000000 in
theorem MD_zero (a b c d xn xd yd : Int) (w : World) (ht : Tb w)
    (O1 : Cl 42 #[.int .i64 a, .int .i64 b] (.agg #[.int .i64 xn, .int .i64 xd]))
    (O2 : Cl 42 #[.int .i64 c, .int .i64 d] (.agg #[.int .i64 0, .int .i64 yd]))
    (CR : Cl 27 #[.agg #[.int .i64 xn, .int .i64 xd], .agg #[.int .i64 0, .int .i64 yd]] (.tuple #[.agg #[.int .i64 0, .int .i64 0], .int .i64 16]))
    : Calls Tryd.prog 11 #[.int .i64 a, .int .i64 b, .int .i64 c, .int .i64 d] w fun e w' => e = .returned (.bool true) ∧ Below w.heap.size w w' := by
  go_enter Tryd.func11, Tryd.ntmps11
  go_wp2_with fail
  refine (O1 _).mono ?_
  rintro e w1 ⟨rfl, hb1⟩
  have HB1 := Lib.hid hb1
  clear hb1
  go_wp2_with fail
  refine (O2 _).mono ?_
  rintro e w2 ⟨rfl, hb2⟩
  have HB2 := Lib.hid (bl0 HB1.out hb2)
  clear hb2
  go_wp2_with fail
  refine (CR _).mono ?_
  rintro e w3 ⟨rfl, hb3⟩
  have Fx : Nm w3 _ xn xd := new2_0 hb3
  have Fy : Nm w3 _ 0 yd := new2_1 hb3
  have HB3 := Lib.hid (bl2 HB2.out hb3)
  clear hb3
  have cx0 := Fx.c0; have cx1 := Fx.c1; have cxl := Fx.lt
  have cy0 := Fy.c0; have cy1 := Fy.c1; have cyl := Fy.lt
  go_wp2_with fail
  refine (known_any _ (ht.below (bl_a1 HB3.out _))).mono ?_
  clear cx0 cx1 cxl cy0 cy1 cyl
  rintro e w4 ⟨rfl, hb4⟩
  have Fx := Fx.past1 hb4
  have Fy := Fy.past1 hb4
  have Fr : Nm w4 _ 0 0 := new1_0 hb4
  have HB4 := Lib.hid (bl1 HB3.out hb4)
  clear hb4
  have cx0 := Fx.c0; have cx1 := Fx.c1; have cxl := Fx.lt
  have cy0 := Fy.c0; have cy1 := Fy.c1; have cyl := Fy.lt
  have cr0 := Fr.c0; have cr1 := Fr.c1; have crl := Fr.lt
  go_wp2
  go_ret
  exact ⟨rfl, HB4.out⟩
set_option maxRecDepth 100000 in
set_option maxHeartbeats 4000000 in
theorem MD_pos (a b c d xn xd yn yd rn rd sn sd k c1 c2 : Int) (w : World) (ht : Tb w)
    (h0 : 0 < yn)
    (h1 : 0 ≤ c1)
    (h2 : c2 < 0)
    (O1 : Cl 42 #[.int .i64 a, .int .i64 b] (.agg #[.int .i64 xn, .int .i64 xd]))
    (O2 : Cl 42 #[.int .i64 c, .int .i64 d] (.agg #[.int .i64 yn, .int .i64 yd]))
    (CR : Cl 27 #[.agg #[.int .i64 xn, .int .i64 xd], .agg #[.int .i64 yn, .int .i64 yd]] (.tuple #[.agg #[.int .i64 rn, .int .i64 rd], .int .i64 0]))
    (CS : Cl 21 #[.agg #[.int .i64 xn, .int .i64 xd], .agg #[.int .i64 rn, .int .i64 rd]] (.tuple #[.agg #[.int .i64 sn, .int .i64 sd], .int .i64 0]))
    (CQ : Cl 25 #[.agg #[.int .i64 sn, .int .i64 sd], .agg #[.int .i64 yn, .int .i64 yd]] (.tuple #[.agg #[.int .i64 k, .int .i64 1], .int .i64 0]))
    (C1 : Cl 29 #[.agg #[.int .i64 rn, .int .i64 rd], .agg #[.int .i64 0, .int .i64 1]] (.int .i64 c1))
    (C2 : Cl 29 #[.agg #[.int .i64 rn, .int .i64 rd], .agg #[.int .i64 yn, .int .i64 yd]] (.int .i64 c2))
    : Calls Tryd.prog 11 #[.int .i64 a, .int .i64 b, .int .i64 c, .int .i64 d] w fun e w' => e = .returned (.bool true) ∧ Below w.heap.size w w' := by
  have d1 : decide (0 < yn) = true := by simpa using h0
  have d0 : (yn == 0) = false := by rw [beq_eq_false_iff_ne]; omega
  have d2 : decide (0 ≤ c1) = true := by simpa using h1
  have d3 : decide (c2 < 0) = true := by simpa using h2
  go_enter Tryd.func11, Tryd.ntmps11
  go_wp2_with fail
  refine (O1 _).mono ?_
  rintro e w1 ⟨rfl, hb1⟩
  have HB1 := Lib.hid hb1
  clear hb1
  go_wp2_with fail
  refine (O2 _).mono ?_
  rintro e w2 ⟨rfl, hb2⟩
  have HB2 := Lib.hid (bl0 HB1.out hb2)
  clear hb2
  go_wp2_with fail
  refine (CR _).mono ?_
  rintro e w3 ⟨rfl, hb3⟩
  have Fx : Nm w3 _ xn xd := new2_0 hb3
  have Fy : Nm w3 _ yn yd := new2_1 hb3
  have HB3 := Lib.hid (bl2 HB2.out hb3)
  clear hb3
  have cx0 := Fx.c0; have cx1 := Fx.c1; have cxl := Fx.lt
  have cy0 := Fy.c0; have cy1 := Fy.c1; have cyl := Fy.lt
  go_wp2_with fail
  refine (CS _).mono ?_
  clear cx0 cx1 cxl cy0 cy1 cyl
  rintro e w4 ⟨rfl, hb4⟩
  have Fx := Fx.past1 hb4
  have Fy := Fy.past1 hb4
  have Fr : Nm w4 _ rn rd := new1_0 hb4
  have HB4 := Lib.hid (bl1 HB3.out hb4)
  clear hb4
  have cx0 := Fx.c0; have cx1 := Fx.c1; have cxl := Fx.lt
  have cy0 := Fy.c0; have cy1 := Fy.c1; have cyl := Fy.lt
  have cr0 := Fr.c0; have cr1 := Fr.c1; have crl := Fr.lt
  go_wp2_with fail
  refine (CQ _).mono ?_
  clear cx0 cx1 cxl cy0 cy1 cyl cr0 cr1 crl
  rintro e w5 ⟨rfl, hb5⟩
  have Fx := Fx.past1 hb5
  have Fy := Fy.past1 hb5
  have Fr := Fr.past1 hb5
  have Fs : Nm w5 _ sn sd := new1_0 hb5
  have HB5 := Lib.hid (bl1 HB4.out hb5)
  clear hb5
  have cx0 := Fx.c0; have cx1 := Fx.c1; have cxl := Fx.lt
  have cy0 := Fy.c0; have cy1 := Fy.c1; have cyl := Fy.lt
  have cr0 := Fr.c0; have cr1 := Fr.c1; have crl := Fr.lt
  have cs0 := Fs.c0; have cs1 := Fs.c1; have csl := Fs.lt
  go_wp2_with fail
  refine (C1 _).mono ?_
  clear cx0 cx1 cxl cy0 cy1 cyl cr0 cr1 crl cs0 cs1 csl
  rintro e w6 ⟨rfl, hb6⟩
  have Fx := Fx.past2 hb6
  have Fy := Fy.past2 hb6
  have Fr := Fr.past2 hb6
  have Fs := Fs.past2 hb6
  have Fq : Nm w6 _ k 1 := new2_0 hb6
  have Fz : Nm w6 _ 0 1 := new2_1 hb6
  have HB6 := Lib.hid (bl2 HB5.out hb6)
  clear hb6
  have cx0 := Fx.c0; have cx1 := Fx.c1; have cxl := Fx.lt
  have cy0 := Fy.c0; have cy1 := Fy.c1; have cyl := Fy.lt
  have cr0 := Fr.c0; have cr1 := Fr.c1; have crl := Fr.lt
  have cs0 := Fs.c0; have cs1 := Fs.c1; have csl := Fs.lt
  have cq0 := Fq.c0; have cq1 := Fq.c1; have cql := Fq.lt
  have cz0 := Fz.c0; have cz1 := Fz.c1; have czl := Fz.lt
  go_wp2_with fail
  refine (C2 _).mono ?_
  clear cx0 cx1 cxl cy0 cy1 cyl cr0 cr1 crl cs0 cs1 csl cq0 cq1 cql cz0 cz1 czl
  rintro e w7 ⟨rfl, hb7⟩
  have Fx := Fx.past0 hb7
  have Fy := Fy.past0 hb7
  have Fr := Fr.past0 hb7
  have Fs := Fs.past0 hb7
  have Fq := Fq.past0 hb7
  have Fz := Fz.past0 hb7
  have HB7 := Lib.hid (bl0 HB6.out hb7)
  clear hb7
  have cx0 := Fx.c0; have cx1 := Fx.c1; have cxl := Fx.lt
  have cy0 := Fy.c0; have cy1 := Fy.c1; have cyl := Fy.lt
  have cr0 := Fr.c0; have cr1 := Fr.c1; have crl := Fr.lt
  have cs0 := Fs.c0; have cs1 := Fs.c1; have csl := Fs.lt
  have cq0 := Fq.c0; have cq1 := Fq.c1; have cql := Fq.lt
  have cz0 := Fz.c0; have cz1 := Fz.c1; have czl := Fz.lt
  go_wp2_with fail
  refine (known_any _ (ht.below HB7.out)).mono ?_
  clear cx0 cx1 cxl cy0 cy1 cyl cr0 cr1 crl cs0 cs1 csl cq0 cq1 cql cz0 cz1 czl
  rintro e w8 ⟨rfl, hb8⟩
  have Fx := Fx.past0 hb8
  have Fy := Fy.past0 hb8
  have Fr := Fr.past0 hb8
  have Fs := Fs.past0 hb8
  have Fq := Fq.past0 hb8
  have Fz := Fz.past0 hb8
  have HB8 := Lib.hid (bl0 HB7.out hb8)
  clear hb8
  have cx0 := Fx.c0; have cx1 := Fx.c1; have cxl := Fx.lt
  have cy0 := Fy.c0; have cy1 := Fy.c1; have cyl := Fy.lt
  have cr0 := Fr.c0; have cr1 := Fr.c1; have crl := Fr.lt
  have cs0 := Fs.c0; have cs1 := Fs.c1; have csl := Fs.lt
  have cq0 := Fq.c0; have cq1 := Fq.c1; have cql := Fq.lt
  have cz0 := Fz.c0; have cz1 := Fz.c1; have czl := Fz.lt
  go_wp2
  go_ret
  exact ⟨rfl, HB8.out⟩
set_option maxRecDepth 100000 in
set_option maxHeartbeats 4000000 in
theorem MD_neg (a b c d xn xd yn yd rn rd sn sd k c1 c2 : Int) (w : World) (ht : Tb w)
    (h0 : yn < 0)
    (h1 : c1 ≤ 0)
    (h2 : 0 < c2)
    (O1 : Cl 42 #[.int .i64 a, .int .i64 b] (.agg #[.int .i64 xn, .int .i64 xd]))
    (O2 : Cl 42 #[.int .i64 c, .int .i64 d] (.agg #[.int .i64 yn, .int .i64 yd]))
    (CR : Cl 27 #[.agg #[.int .i64 xn, .int .i64 xd], .agg #[.int .i64 yn, .int .i64 yd]] (.tuple #[.agg #[.int .i64 rn, .int .i64 rd], .int .i64 0]))
    (CS : Cl 21 #[.agg #[.int .i64 xn, .int .i64 xd], .agg #[.int .i64 rn, .int .i64 rd]] (.tuple #[.agg #[.int .i64 sn, .int .i64 sd], .int .i64 0]))
    (CQ : Cl 25 #[.agg #[.int .i64 sn, .int .i64 sd], .agg #[.int .i64 yn, .int .i64 yd]] (.tuple #[.agg #[.int .i64 k, .int .i64 1], .int .i64 0]))
    (C1 : Cl 29 #[.agg #[.int .i64 rn, .int .i64 rd], .agg #[.int .i64 0, .int .i64 1]] (.int .i64 c1))
    (C2 : Cl 29 #[.agg #[.int .i64 rn, .int .i64 rd], .agg #[.int .i64 yn, .int .i64 yd]] (.int .i64 c2))
    : Calls Tryd.prog 11 #[.int .i64 a, .int .i64 b, .int .i64 c, .int .i64 d] w fun e w' => e = .returned (.bool true) ∧ Below w.heap.size w w' := by
  have d1 : decide (0 < yn) = false := by rw [decide_eq_false_iff_not]; omega
  have d0 : (yn == 0) = false := by rw [beq_eq_false_iff_ne]; omega
  have d2 : decide (c1 ≤ 0) = true := by simpa using h1
  have d3 : decide (0 < c2) = true := by simpa using h2
  go_enter Tryd.func11, Tryd.ntmps11
  go_wp2_with fail
  refine (O1 _).mono ?_
  rintro e w1 ⟨rfl, hb1⟩
  have HB1 := Lib.hid hb1
  clear hb1
  go_wp2_with fail
  refine (O2 _).mono ?_
  rintro e w2 ⟨rfl, hb2⟩
  have HB2 := Lib.hid (bl0 HB1.out hb2)
  clear hb2
  go_wp2_with fail
  refine (CR _).mono ?_
  rintro e w3 ⟨rfl, hb3⟩
  have Fx : Nm w3 _ xn xd := new2_0 hb3
  have Fy : Nm w3 _ yn yd := new2_1 hb3
  have HB3 := Lib.hid (bl2 HB2.out hb3)
  clear hb3
  have cx0 := Fx.c0; have cx1 := Fx.c1; have cxl := Fx.lt
  have cy0 := Fy.c0; have cy1 := Fy.c1; have cyl := Fy.lt
  go_wp2_with fail
  refine (CS _).mono ?_
  clear cx0 cx1 cxl cy0 cy1 cyl
  rintro e w4 ⟨rfl, hb4⟩
  have Fx := Fx.past1 hb4
  have Fy := Fy.past1 hb4
  have Fr : Nm w4 _ rn rd := new1_0 hb4
  have HB4 := Lib.hid (bl1 HB3.out hb4)
  clear hb4
  have cx0 := Fx.c0; have cx1 := Fx.c1; have cxl := Fx.lt
  have cy0 := Fy.c0; have cy1 := Fy.c1; have cyl := Fy.lt
  have cr0 := Fr.c0; have cr1 := Fr.c1; have crl := Fr.lt
  go_wp2_with fail
  refine (CQ _).mono ?_
  clear cx0 cx1 cxl cy0 cy1 cyl cr0 cr1 crl
  rintro e w5 ⟨rfl, hb5⟩
  have Fx := Fx.past1 hb5
  have Fy := Fy.past1 hb5
  have Fr := Fr.past1 hb5
  have Fs : Nm w5 _ sn sd := new1_0 hb5
  have HB5 := Lib.hid (bl1 HB4.out hb5)
  clear hb5
  have cx0 := Fx.c0; have cx1 := Fx.c1; have cxl := Fx.lt
  have cy0 := Fy.c0; have cy1 := Fy.c1; have cyl := Fy.lt
  have cr0 := Fr.c0; have cr1 := Fr.c1; have crl := Fr.lt
  have cs0 := Fs.c0; have cs1 := Fs.c1; have csl := Fs.lt
  go_wp2_with fail
  refine (C1 _).mono ?_
  clear cx0 cx1 cxl cy0 cy1 cyl cr0 cr1 crl cs0 cs1 csl
  rintro e w6 ⟨rfl, hb6⟩
  have Fx := Fx.past2 hb6
  have Fy := Fy.past2 hb6
  have Fr := Fr.past2 hb6
  have Fs := Fs.past2 hb6
  have Fq : Nm w6 _ k 1 := new2_0 hb6
  have Fz : Nm w6 _ 0 1 := new2_1 hb6
  have HB6 := Lib.hid (bl2 HB5.out hb6)
  clear hb6
  have cx0 := Fx.c0; have cx1 := Fx.c1; have cxl := Fx.lt
  have cy0 := Fy.c0; have cy1 := Fy.c1; have cyl := Fy.lt
  have cr0 := Fr.c0; have cr1 := Fr.c1; have crl := Fr.lt
  have cs0 := Fs.c0; have cs1 := Fs.c1; have csl := Fs.lt
  have cq0 := Fq.c0; have cq1 := Fq.c1; have cql := Fq.lt
  have cz0 := Fz.c0; have cz1 := Fz.c1; have czl := Fz.lt
  go_wp2_with fail
  refine (C2 _).mono ?_
  clear cx0 cx1 cxl cy0 cy1 cyl cr0 cr1 crl cs0 cs1 csl cq0 cq1 cql cz0 cz1 czl
  rintro e w7 ⟨rfl, hb7⟩
  have Fx := Fx.past0 hb7
  have Fy := Fy.past0 hb7
  have Fr := Fr.past0 hb7
  have Fs := Fs.past0 hb7
  have Fq := Fq.past0 hb7
  have Fz := Fz.past0 hb7
  have HB7 := Lib.hid (bl0 HB6.out hb7)
  clear hb7
  have cx0 := Fx.c0; have cx1 := Fx.c1; have cxl := Fx.lt
  have cy0 := Fy.c0; have cy1 := Fy.c1; have cyl := Fy.lt
  have cr0 := Fr.c0; have cr1 := Fr.c1; have crl := Fr.lt
  have cs0 := Fs.c0; have cs1 := Fs.c1; have csl := Fs.lt
  have cq0 := Fq.c0; have cq1 := Fq.c1; have cql := Fq.lt
  have cz0 := Fz.c0; have cz1 := Fz.c1; have czl := Fz.lt
  go_wp2_with fail
  refine (known_any _ (ht.below HB7.out)).mono ?_
  clear cx0 cx1 cxl cy0 cy1 cyl cr0 cr1 crl cs0 cs1 csl cq0 cq1 cql cz0 cz1 czl
  rintro e w8 ⟨rfl, hb8⟩
  have Fx := Fx.past0 hb8
  have Fy := Fy.past0 hb8
  have Fr := Fr.past0 hb8
  have Fs := Fs.past0 hb8
  have Fq := Fq.past0 hb8
  have Fz := Fz.past0 hb8
  have HB8 := Lib.hid (bl0 HB7.out hb8)
  clear hb8
  have cx0 := Fx.c0; have cx1 := Fx.c1; have cxl := Fx.lt
  have cy0 := Fy.c0; have cy1 := Fy.c1; have cyl := Fy.lt
  have cr0 := Fr.c0; have cr1 := Fr.c1; have crl := Fr.lt
  have cs0 := Fs.c0; have cs1 := Fs.c1; have csl := Fs.lt
  have cq0 := Fq.c0; have cq1 := Fq.c1; have cql := Fq.lt
  have cz0 := Fz.c0; have cz1 := Fz.c1; have czl := Fz.lt
  go_wp2
  go_ret
  exact ⟨rfl, HB8.out⟩
theorem NumberMod_any (a b c d : Int) (w : World) (ht : Tb w) : Calls Tryd.prog 11 #[.int .i64 a, .int .i64 b, .int .i64 c, .int .i64 d] w fun e w' => e = .returned (.bool true) ∧ Below w.heap.size w w' := by
  have hx := sm_of a b
  have hy := sm_of c d
  by_cases h0 : ofN c d = 0
  · have eR : mod (ofN a b) (ofD a b) (ofN c d) (ofD c d) = ⟨0, 0, 16⟩ := by unfold mod; rw [okB_iff.2 hx.ok, okB_iff.2 hy.ok, h0]; simp
    have O2 := cl_of c d
    have CR := cl_mod eR
    rw [h0] at O2 CR
    exact MD_zero a b c d _ _ _ w ht (cl_of a b) O2 CR
  · have hm := mod_mo hx hy h0
    obtain ⟨s, es, se, so, k, ek⟩ := hm.sub
    have eR := r3_eq hm.e
    have eS : sub (ofN a b) (ofD a b) (mod (ofN a b) (ofD a b) (ofN c d) (ofD c d)).n (mod (ofN a b) (ofD a b) (ofN c d) (ofD c d)).d = ⟨s.n, s.d, 0⟩ := by rw [es]; exact r3_eq se
    by_cases hp : 0 < ofN c d
    · obtain ⟨p1, p2⟩ := hm.pos hp
      exact MD_pos a b c d _ _ _ _ _ _ _ _ _ _ _ w ht hp p1 p2 (cl_of a b) (cl_of c d) (cl_mod eR) (cl_sub eS (i64_sm hm.ok)) (cl_div ek) (cl_cmp rfl) (cl_cmp rfl)
    · have hp' : ofN c d < 0 := by omega
      obtain ⟨p1, p2⟩ := hm.neg hp'
      exact MD_neg a b c d _ _ _ _ _ _ _ _ _ _ _ w ht hp' p1 p2 (cl_of a b) (cl_of c d) (cl_mod eR) (cl_sub eS (i64_sm hm.ok)) (cl_div ek) (cl_cmp rfl) (cl_cmp rfl)
end Go.Proofs.YtgnhihgimeiphaaDoor.Nu
