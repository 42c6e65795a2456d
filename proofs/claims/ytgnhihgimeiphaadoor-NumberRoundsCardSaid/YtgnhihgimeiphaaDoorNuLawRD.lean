/-
  The law NumberRounds returns true for all arguments, in every world that holds the library's table.
-/
import Derived.Test.YtgnhihgimeiphaaDoorNuNm
namespace Go.Proofs.YtgnhihgimeiphaaDoor.Nu
open Go.RowKit

set_option maxRecDepth 100000 in
set_option maxHeartbeats 4000000 in
theorem RD_core (p q k f fe rn rd re : Int) (w : World) (ht : Tb w)
    (CF : Cl 31 #[.agg #[.int .i64 p, .int .i64 q]] (.tuple #[.int .i64 f, .int .i64 fe]))
    (CG : Cl 32 #[.agg #[.int .i64 p, .int .i64 q]] (.tuple #[.int .i64 f, .int .i64 fe]))
    (CM : Cl 33 #[.agg #[.int .i64 p, .int .i64 q], .int .i64 k] (.tuple #[.agg #[.int .i64 rn, .int .i64 rd], .int .i64 re]))
    (CR : Cl 34 #[.agg #[.int .i64 p, .int .i64 q], .int .i64 k] (.tuple #[.agg #[.int .i64 rn, .int .i64 rd], .int .i64 re]))
    : Calls Tryd.prog 5 #[.agg #[.int .i64 p, .int .i64 q], .int .i64 k] w fun e w' => e = .returned (.bool true) ∧ Below w.heap.size w w' := by
  have eq := eq_num rn rd rn rd
  have er := eqN_refl rn rd
  go_enter Tryd.func5, Tryd.ntmps5
  go_wp2_with fail
  refine (CF _).mono ?_
  rintro e w1 ⟨rfl, hb1⟩
  have Fn : Nm w1 _ p q := new1_0 hb1
  have HB1 := Lib.hid (bl1 (Below.refl _ _) hb1)
  clear hb1
  have cn0 := Fn.c0; have cn1 := Fn.c1; have cnl := Fn.lt
  go_wp2_with fail
  refine (CG _).mono ?_
  clear cn0 cn1 cnl
  rintro e w2 ⟨rfl, hb2⟩
  have Fn := Fn.past0 hb2
  have HB2 := Lib.hid (bl0 HB1.out hb2)
  clear hb2
  have cn0 := Fn.c0; have cn1 := Fn.c1; have cnl := Fn.lt
  go_wp2_with fail
  refine (CM _).mono ?_
  clear cn0 cn1 cnl
  rintro e w3 ⟨rfl, hb3⟩
  have Fn := Fn.past0 hb3
  have HB3 := Lib.hid (bl0 HB2.out hb3)
  clear hb3
  have cn0 := Fn.c0; have cn1 := Fn.c1; have cnl := Fn.lt
  go_wp2_with fail
  refine (CR _).mono ?_
  clear cn0 cn1 cnl
  rintro e w4 ⟨rfl, hb4⟩
  have Fn := Fn.past1 hb4
  have Fx : Nm w4 _ rn rd := new1_0 hb4
  have HB4 := Lib.hid (bl1 HB3.out hb4)
  clear hb4
  have cn0 := Fn.c0; have cn1 := Fn.c1; have cnl := Fn.lt
  have cx0 := Fx.c0; have cx1 := Fx.c1; have cxl := Fx.lt
  go_wp2_with fail
  refine (known_any _ (ht.below (bl_a1 HB4.out _))).mono ?_
  clear cn0 cn1 cnl cx0 cx1 cxl
  rintro e w5 ⟨rfl, hb5⟩
  have Fn := Fn.past1 hb5
  have Fx := Fx.past1 hb5
  have Fy : Nm w5 _ rn rd := new1_0 hb5
  have HB5 := Lib.hid (bl1 HB4.out hb5)
  clear hb5
  have cn0 := Fn.c0; have cn1 := Fn.c1; have cnl := Fn.lt
  have cx0 := Fx.c0; have cx1 := Fx.c1; have cxl := Fx.lt
  have cy0 := Fy.c0; have cy1 := Fy.c1; have cyl := Fy.lt
  go_wp2
  go_ret
  exact ⟨rfl, HB5.out⟩
theorem NumberRounds_any (p q k : Int) (w : World) (_ : I64 p) (ht : Tb w) : Calls Tryd.prog 5 #[.agg #[.int .i64 p, .int .i64 q], .int .i64 k] w fun e w' => e = .returned (.bool true) ∧ Below w.heap.size w w' :=
  RD_core p q k (flr p q) (flE p q) (rnd p q k).n (rnd p q k).d (rnd p q k).e w ht (Floor_any p q) (RFloor_any p q) (Round_any p q k) (RRound_any p q k)
end Go.Proofs.YtgnhihgimeiphaaDoor.Nu
