/-
  The contract of Parse of the calendar's reference.
-/
import Derived.Test.YtlkbdnjpcagopaaDoorCaRPar
namespace Go.Proofs.YtlkbdnjpcagopaaDoor.Ca
open Go.RowKit
set_option linter.unusedVariables false
set_option linter.unusedSimpArgs false

theorem rnum_at (s : ByteArray) (i n : Nat) (I N : Int) (v : Int) (w : World) (hI : (i : Int) = I) (hN : (n : Int) = N) (hn : n ≤ 4) (hi : i + n ≤ s.size) (hs : s.size ≤ 1000) (hv : rn ((s.data.toList.drop i).take n) = v) :
    Calls Tryd.prog 43 #[.string s, .int .i64 I, .int .i64 N] w fun e w' => e = .returned (.int .i64 v) ∧ Below w.heap.size w w' := by
  subst hI hN hv; exact rnum_any s i n w hn hi hs
/-- The five numbers that a text may hold. -/
structure Nr (s : ByteArray) (Y M D : Int) : Prop where
  y : rn ((s.data.toList.drop 0).take 4) = Y
  m : rn ((s.data.toList.drop 5).take 2) = M
  d : rn ((s.data.toList.drop 8).take 2) = D
set_option maxRecDepth 100000 in
set_option maxHeartbeats 2000000 in
theorem RP10_s4 (s : ByteArray) (w : World) {Y M D : Int} (hs : s.size = 10) (N : Nr s Y M D) (gs4 : gb s.data.toList 4 ≠ 45) :
    Calls Tryd.prog 25 #[.string s] w fun e w' => e = .returned (.tuple #[.int .i64 0, .int .i64 1]) ∧ Below w.heap.size w w' := by
  have fs4 : (((s[4]'(by omega)).toNat : Int) != 45) = true := (u8_neb (by rw [← gb_str s 4 (by omega)]; exact gs4 : s[4]'(by omega) ≠ 45)).2
  clear gs4
  clear N
  go_enter Tryd.func25, Tryd.ntmps25
  go_wp2
  go_ret2
  exact ⟨rfl, Below.refl _ _⟩
set_option maxRecDepth 100000 in
set_option maxHeartbeats 2000000 in
theorem RP10_s7 (s : ByteArray) (w : World) {Y M D : Int} (hs : s.size = 10) (N : Nr s Y M D) (gs4 : gb s.data.toList 4 = 45) (gs7 : gb s.data.toList 7 ≠ 45) :
    Calls Tryd.prog 25 #[.string s] w fun e w' => e = .returned (.tuple #[.int .i64 0, .int .i64 1]) ∧ Below w.heap.size w w' := by
  have fs4 : (((s[4]'(by omega)).toNat : Int) != 45) = false := (u8_eqb (by rw [← gb_str s 4 (by omega)]; exact gs4 : s[4]'(by omega) = 45)).2
  have fs7 : (((s[7]'(by omega)).toNat : Int) != 45) = true := (u8_neb (by rw [← gb_str s 7 (by omega)]; exact gs7 : s[7]'(by omega) ≠ 45)).2
  clear gs4
  clear gs7
  clear N
  go_enter Tryd.func25, Tryd.ntmps25
  go_wp2
  go_ret2
  exact ⟨rfl, Below.refl _ _⟩
set_option maxRecDepth 100000 in
set_option maxHeartbeats 2000000 in
theorem RP10_Y (s : ByteArray) (w : World) {Y M D : Int} (hs : s.size = 10) (N : Nr s Y M D) (gs4 : gb s.data.toList 4 = 45) (gs7 : gb s.data.toList 7 = 45) (gY : Y < 0) :
    Calls Tryd.prog 25 #[.string s] w fun e w' => e = .returned (.tuple #[.int .i64 0, .int .i64 1]) ∧ Below w.heap.size w w' := by
  have fs4 : (((s[4]'(by omega)).toNat : Int) != 45) = false := (u8_eqb (by rw [← gb_str s 4 (by omega)]; exact gs4 : s[4]'(by omega) = 45)).2
  have fs7 : (((s[7]'(by omega)).toNat : Int) != 45) = false := (u8_eqb (by rw [← gb_str s 7 (by omega)]; exact gs7 : s[7]'(by omega) = 45)).2
  have HN1 := Lib.hid (fun w => rnum_at s 0 4 0 4 Y w rfl rfl (by omega) (by omega) (by omega) N.y)
  have HN2 := Lib.hid (fun w => rnum_at s 5 2 5 2 M w rfl rfl (by omega) (by omega) (by omega) N.m)
  have HN3 := Lib.hid (fun w => rnum_at s 8 2 8 2 D w rfl rfl (by omega) (by omega) (by omega) N.d)
  clear gs4
  clear gs7
  clear N
  go_enter Tryd.func25, Tryd.ntmps25
  go_wp2_with fail
  (with_reducible refine (HN1.out _).mono ?_)
  rintro e1 w1 ⟨rfl, hb1⟩
  have HB1 := Lib.hid hb1
  clear hb1
  go_wp2_with fail
  (with_reducible refine (HN2.out _).mono ?_)
  rintro e2 w2 ⟨rfl, hb2⟩
  have HB2 := Lib.hid (HB1.out.trans (hb2.mono HB1.out.size))
  clear hb2
  go_wp2_with fail
  (with_reducible refine (HN3.out _).mono ?_)
  rintro e3 w3 ⟨rfl, hb3⟩
  have HB3 := Lib.hid (HB2.out.trans (hb3.mono HB2.out.size))
  clear hb3
  have X := Nm3.new w3 Y M D
  have HX := Lib.hid (HB3.out.alloc HB3.out.size (.cells #[.int .i64 Y, .int .i64 M, .int .i64 D] 23))
  have q0 := X.c0
  have q1 := X.c1
  have q2 := X.c2
  go_wp2
  go_ret2
  exact ⟨rfl, HX.out⟩
set_option maxRecDepth 100000 in
set_option maxHeartbeats 2000000 in
theorem RP10_M (s : ByteArray) (w : World) {Y M D : Int} (hs : s.size = 10) (N : Nr s Y M D) (gs4 : gb s.data.toList 4 = 45) (gs7 : gb s.data.toList 7 = 45) (gY : 0 ≤ Y) (gM : M < 0) :
    Calls Tryd.prog 25 #[.string s] w fun e w' => e = .returned (.tuple #[.int .i64 0, .int .i64 1]) ∧ Below w.heap.size w w' := by
  have fs4 : (((s[4]'(by omega)).toNat : Int) != 45) = false := (u8_eqb (by rw [← gb_str s 4 (by omega)]; exact gs4 : s[4]'(by omega) = 45)).2
  have fs7 : (((s[7]'(by omega)).toNat : Int) != 45) = false := (u8_eqb (by rw [← gb_str s 7 (by omega)]; exact gs7 : s[7]'(by omega) = 45)).2
  have HN1 := Lib.hid (fun w => rnum_at s 0 4 0 4 Y w rfl rfl (by omega) (by omega) (by omega) N.y)
  have HN2 := Lib.hid (fun w => rnum_at s 5 2 5 2 M w rfl rfl (by omega) (by omega) (by omega) N.m)
  have HN3 := Lib.hid (fun w => rnum_at s 8 2 8 2 D w rfl rfl (by omega) (by omega) (by omega) N.d)
  clear gs4
  clear gs7
  clear N
  go_enter Tryd.func25, Tryd.ntmps25
  go_wp2_with fail
  (with_reducible refine (HN1.out _).mono ?_)
  rintro e1 w1 ⟨rfl, hb1⟩
  have HB1 := Lib.hid hb1
  clear hb1
  go_wp2_with fail
  (with_reducible refine (HN2.out _).mono ?_)
  rintro e2 w2 ⟨rfl, hb2⟩
  have HB2 := Lib.hid (HB1.out.trans (hb2.mono HB1.out.size))
  clear hb2
  go_wp2_with fail
  (with_reducible refine (HN3.out _).mono ?_)
  rintro e3 w3 ⟨rfl, hb3⟩
  have HB3 := Lib.hid (HB2.out.trans (hb3.mono HB2.out.size))
  clear hb3
  have X := Nm3.new w3 Y M D
  have HX := Lib.hid (HB3.out.alloc HB3.out.size (.cells #[.int .i64 Y, .int .i64 M, .int .i64 D] 23))
  have q0 := X.c0
  have q1 := X.c1
  have q2 := X.c2
  go_wp2
  go_ret2
  exact ⟨rfl, HX.out⟩
set_option maxRecDepth 100000 in
set_option maxHeartbeats 2000000 in
theorem RP10_D (s : ByteArray) (w : World) {Y M D : Int} (hs : s.size = 10) (N : Nr s Y M D) (gs4 : gb s.data.toList 4 = 45) (gs7 : gb s.data.toList 7 = 45) (gY : 0 ≤ Y) (gM : 0 ≤ M) (gD : D < 0) :
    Calls Tryd.prog 25 #[.string s] w fun e w' => e = .returned (.tuple #[.int .i64 0, .int .i64 1]) ∧ Below w.heap.size w w' := by
  have fs4 : (((s[4]'(by omega)).toNat : Int) != 45) = false := (u8_eqb (by rw [← gb_str s 4 (by omega)]; exact gs4 : s[4]'(by omega) = 45)).2
  have fs7 : (((s[7]'(by omega)).toNat : Int) != 45) = false := (u8_eqb (by rw [← gb_str s 7 (by omega)]; exact gs7 : s[7]'(by omega) = 45)).2
  have HN1 := Lib.hid (fun w => rnum_at s 0 4 0 4 Y w rfl rfl (by omega) (by omega) (by omega) N.y)
  have HN2 := Lib.hid (fun w => rnum_at s 5 2 5 2 M w rfl rfl (by omega) (by omega) (by omega) N.m)
  have HN3 := Lib.hid (fun w => rnum_at s 8 2 8 2 D w rfl rfl (by omega) (by omega) (by omega) N.d)
  clear gs4
  clear gs7
  clear N
  go_enter Tryd.func25, Tryd.ntmps25
  go_wp2_with fail
  (with_reducible refine (HN1.out _).mono ?_)
  rintro e1 w1 ⟨rfl, hb1⟩
  have HB1 := Lib.hid hb1
  clear hb1
  go_wp2_with fail
  (with_reducible refine (HN2.out _).mono ?_)
  rintro e2 w2 ⟨rfl, hb2⟩
  have HB2 := Lib.hid (HB1.out.trans (hb2.mono HB1.out.size))
  clear hb2
  go_wp2_with fail
  (with_reducible refine (HN3.out _).mono ?_)
  rintro e3 w3 ⟨rfl, hb3⟩
  have HB3 := Lib.hid (HB2.out.trans (hb3.mono HB2.out.size))
  clear hb3
  have X := Nm3.new w3 Y M D
  have HX := Lib.hid (HB3.out.alloc HB3.out.size (.cells #[.int .i64 Y, .int .i64 M, .int .i64 D] 23))
  have q0 := X.c0
  have q1 := X.c1
  have q2 := X.c2
  go_wp2
  go_ret2
  exact ⟨rfl, HX.out⟩
set_option maxRecDepth 100000 in
set_option maxHeartbeats 2000000 in
theorem RP10_ok (s : ByteArray) (w : World) {Y M D : Int} (hs : s.size = 10) (N : Nr s Y M D) (gs4 : gb s.data.toList 4 = 45) (gs7 : gb s.data.toList 7 = 45) (gY : 0 ≤ Y) (gM : 0 ≤ M) (gD : 0 ≤ D) :
    Calls Tryd.prog 25 #[.string s] w fun e w' => e = .returned (.tuple #[.int .i64 (minu Y M D (0)).n, .int .i64 (minu Y M D (0)).e]) ∧ Below w.heap.size w w' := by
  have fs4 : (((s[4]'(by omega)).toNat : Int) != 45) = false := (u8_eqb (by rw [← gb_str s 4 (by omega)]; exact gs4 : s[4]'(by omega) = 45)).2
  have fs7 : (((s[7]'(by omega)).toNat : Int) != 45) = false := (u8_eqb (by rw [← gb_str s 7 (by omega)]; exact gs7 : s[7]'(by omega) = 45)).2
  have HN1 := Lib.hid (fun w => rnum_at s 0 4 0 4 Y w rfl rfl (by omega) (by omega) (by omega) N.y)
  have HN2 := Lib.hid (fun w => rnum_at s 5 2 5 2 M w rfl rfl (by omega) (by omega) (by omega) N.m)
  have HN3 := Lib.hid (fun w => rnum_at s 8 2 8 2 D w rfl rfl (by omega) (by omega) (by omega) N.d)
  have HM := Lib.hid (fun w => RMinute_any Y M D (0) w)
  clear gs4
  clear gs7
  clear N
  go_enter Tryd.func25, Tryd.ntmps25
  go_wp2_with fail
  (with_reducible refine (HN1.out _).mono ?_)
  rintro e1 w1 ⟨rfl, hb1⟩
  have HB1 := Lib.hid hb1
  clear hb1
  go_wp2_with fail
  (with_reducible refine (HN2.out _).mono ?_)
  rintro e2 w2 ⟨rfl, hb2⟩
  have HB2 := Lib.hid (HB1.out.trans (hb2.mono HB1.out.size))
  clear hb2
  go_wp2_with fail
  (with_reducible refine (HN3.out _).mono ?_)
  rintro e3 w3 ⟨rfl, hb3⟩
  have HB3 := Lib.hid (HB2.out.trans (hb3.mono HB2.out.size))
  clear hb3
  have X := Nm3.new w3 Y M D
  have HX := Lib.hid (HB3.out.alloc HB3.out.size (.cells #[.int .i64 Y, .int .i64 M, .int .i64 D] 23))
  have q0 := X.c0
  have q1 := X.c1
  have q2 := X.c2
  go_wp2_with fail
  (with_reducible refine (HM.out _).mono ?_)
  rintro e9 w9 ⟨rfl, hb9⟩
  have HB9 := Lib.hid (HX.out.trans (hb9.mono HX.out.size))
  clear hb9
  go_wp2
  go_ret2
  exact ⟨rfl, HB9.out⟩
set_option maxRecDepth 100000 in
set_option maxHeartbeats 2000000 in
theorem RP16_s4 (s : ByteArray) (w : World) {Y M D h m : Int} (hs : s.size = 16) (N : Nr s Y M D) (hh : rn ((s.data.toList.drop 11).take 2) = h) (hm : rn ((s.data.toList.drop 14).take 2) = m) (hu4 : h < 10000) (hu5 : m < 10000) (gs4 : gb s.data.toList 4 ≠ 45) :
    Calls Tryd.prog 25 #[.string s] w fun e w' => e = .returned (.tuple #[.int .i64 0, .int .i64 1]) ∧ Below w.heap.size w w' := by
  have fs4 : (((s[4]'(by omega)).toNat : Int) != 45) = true := (u8_neb (by rw [← gb_str s 4 (by omega)]; exact gs4 : s[4]'(by omega) ≠ 45)).2
  clear gs4
  clear N
  go_enter Tryd.func25, Tryd.ntmps25
  go_wp2
  go_ret2
  exact ⟨rfl, Below.refl _ _⟩
set_option maxRecDepth 100000 in
set_option maxHeartbeats 2000000 in
theorem RP16_s7 (s : ByteArray) (w : World) {Y M D h m : Int} (hs : s.size = 16) (N : Nr s Y M D) (hh : rn ((s.data.toList.drop 11).take 2) = h) (hm : rn ((s.data.toList.drop 14).take 2) = m) (hu4 : h < 10000) (hu5 : m < 10000) (gs4 : gb s.data.toList 4 = 45) (gs7 : gb s.data.toList 7 ≠ 45) :
    Calls Tryd.prog 25 #[.string s] w fun e w' => e = .returned (.tuple #[.int .i64 0, .int .i64 1]) ∧ Below w.heap.size w w' := by
  have fs4 : (((s[4]'(by omega)).toNat : Int) != 45) = false := (u8_eqb (by rw [← gb_str s 4 (by omega)]; exact gs4 : s[4]'(by omega) = 45)).2
  have fs7 : (((s[7]'(by omega)).toNat : Int) != 45) = true := (u8_neb (by rw [← gb_str s 7 (by omega)]; exact gs7 : s[7]'(by omega) ≠ 45)).2
  clear gs4
  clear gs7
  clear N
  go_enter Tryd.func25, Tryd.ntmps25
  go_wp2
  go_ret2
  exact ⟨rfl, Below.refl _ _⟩
set_option maxRecDepth 100000 in
set_option maxHeartbeats 2000000 in
theorem RP16_s10 (s : ByteArray) (w : World) {Y M D h m : Int} (hs : s.size = 16) (N : Nr s Y M D) (hh : rn ((s.data.toList.drop 11).take 2) = h) (hm : rn ((s.data.toList.drop 14).take 2) = m) (hu4 : h < 10000) (hu5 : m < 10000) (gs4 : gb s.data.toList 4 = 45) (gs7 : gb s.data.toList 7 = 45) (gs10 : gb s.data.toList 10 ≠ 32) :
    Calls Tryd.prog 25 #[.string s] w fun e w' => e = .returned (.tuple #[.int .i64 0, .int .i64 1]) ∧ Below w.heap.size w w' := by
  have fs4 : (((s[4]'(by omega)).toNat : Int) != 45) = false := (u8_eqb (by rw [← gb_str s 4 (by omega)]; exact gs4 : s[4]'(by omega) = 45)).2
  have fs7 : (((s[7]'(by omega)).toNat : Int) != 45) = false := (u8_eqb (by rw [← gb_str s 7 (by omega)]; exact gs7 : s[7]'(by omega) = 45)).2
  have fs10 : (((s[10]'(by omega)).toNat : Int) != 32) = true := (u8_neb (by rw [← gb_str s 10 (by omega)]; exact gs10 : s[10]'(by omega) ≠ 32)).2
  have HN1 := Lib.hid (fun w => rnum_at s 0 4 0 4 Y w rfl rfl (by omega) (by omega) (by omega) N.y)
  have HN2 := Lib.hid (fun w => rnum_at s 5 2 5 2 M w rfl rfl (by omega) (by omega) (by omega) N.m)
  have HN3 := Lib.hid (fun w => rnum_at s 8 2 8 2 D w rfl rfl (by omega) (by omega) (by omega) N.d)
  clear gs4
  clear gs7
  clear gs10
  clear N
  go_enter Tryd.func25, Tryd.ntmps25
  go_wp2_with fail
  (with_reducible refine (HN1.out _).mono ?_)
  rintro e1 w1 ⟨rfl, hb1⟩
  have HB1 := Lib.hid hb1
  clear hb1
  go_wp2_with fail
  (with_reducible refine (HN2.out _).mono ?_)
  rintro e2 w2 ⟨rfl, hb2⟩
  have HB2 := Lib.hid (HB1.out.trans (hb2.mono HB1.out.size))
  clear hb2
  go_wp2_with fail
  (with_reducible refine (HN3.out _).mono ?_)
  rintro e3 w3 ⟨rfl, hb3⟩
  have HB3 := Lib.hid (HB2.out.trans (hb3.mono HB2.out.size))
  clear hb3
  have X := Nm3.new w3 Y M D
  have HX := Lib.hid (HB3.out.alloc HB3.out.size (.cells #[.int .i64 Y, .int .i64 M, .int .i64 D] 23))
  go_wp2
  go_ret2
  exact ⟨rfl, HX.out⟩
set_option maxRecDepth 100000 in
set_option maxHeartbeats 2000000 in
theorem RP16_s13 (s : ByteArray) (w : World) {Y M D h m : Int} (hs : s.size = 16) (N : Nr s Y M D) (hh : rn ((s.data.toList.drop 11).take 2) = h) (hm : rn ((s.data.toList.drop 14).take 2) = m) (hu4 : h < 10000) (hu5 : m < 10000) (gs4 : gb s.data.toList 4 = 45) (gs7 : gb s.data.toList 7 = 45) (gs10 : gb s.data.toList 10 = 32) (gs13 : gb s.data.toList 13 ≠ 58) :
    Calls Tryd.prog 25 #[.string s] w fun e w' => e = .returned (.tuple #[.int .i64 0, .int .i64 1]) ∧ Below w.heap.size w w' := by
  have fs4 : (((s[4]'(by omega)).toNat : Int) != 45) = false := (u8_eqb (by rw [← gb_str s 4 (by omega)]; exact gs4 : s[4]'(by omega) = 45)).2
  have fs7 : (((s[7]'(by omega)).toNat : Int) != 45) = false := (u8_eqb (by rw [← gb_str s 7 (by omega)]; exact gs7 : s[7]'(by omega) = 45)).2
  have fs10 : (((s[10]'(by omega)).toNat : Int) != 32) = false := (u8_eqb (by rw [← gb_str s 10 (by omega)]; exact gs10 : s[10]'(by omega) = 32)).2
  have fs13 : (((s[13]'(by omega)).toNat : Int) != 58) = true := (u8_neb (by rw [← gb_str s 13 (by omega)]; exact gs13 : s[13]'(by omega) ≠ 58)).2
  have HN1 := Lib.hid (fun w => rnum_at s 0 4 0 4 Y w rfl rfl (by omega) (by omega) (by omega) N.y)
  have HN2 := Lib.hid (fun w => rnum_at s 5 2 5 2 M w rfl rfl (by omega) (by omega) (by omega) N.m)
  have HN3 := Lib.hid (fun w => rnum_at s 8 2 8 2 D w rfl rfl (by omega) (by omega) (by omega) N.d)
  clear gs4
  clear gs7
  clear gs10
  clear gs13
  clear N
  go_enter Tryd.func25, Tryd.ntmps25
  go_wp2_with fail
  (with_reducible refine (HN1.out _).mono ?_)
  rintro e1 w1 ⟨rfl, hb1⟩
  have HB1 := Lib.hid hb1
  clear hb1
  go_wp2_with fail
  (with_reducible refine (HN2.out _).mono ?_)
  rintro e2 w2 ⟨rfl, hb2⟩
  have HB2 := Lib.hid (HB1.out.trans (hb2.mono HB1.out.size))
  clear hb2
  go_wp2_with fail
  (with_reducible refine (HN3.out _).mono ?_)
  rintro e3 w3 ⟨rfl, hb3⟩
  have HB3 := Lib.hid (HB2.out.trans (hb3.mono HB2.out.size))
  clear hb3
  have X := Nm3.new w3 Y M D
  have HX := Lib.hid (HB3.out.alloc HB3.out.size (.cells #[.int .i64 Y, .int .i64 M, .int .i64 D] 23))
  go_wp2
  go_ret2
  exact ⟨rfl, HX.out⟩
set_option maxRecDepth 100000 in
set_option maxHeartbeats 2000000 in
theorem RP16_Y (s : ByteArray) (w : World) {Y M D h m : Int} (hs : s.size = 16) (N : Nr s Y M D) (hh : rn ((s.data.toList.drop 11).take 2) = h) (hm : rn ((s.data.toList.drop 14).take 2) = m) (hu4 : h < 10000) (hu5 : m < 10000) (gs4 : gb s.data.toList 4 = 45) (gs7 : gb s.data.toList 7 = 45) (gs10 : gb s.data.toList 10 = 32) (gs13 : gb s.data.toList 13 = 58) (gY : Y < 0) :
    Calls Tryd.prog 25 #[.string s] w fun e w' => e = .returned (.tuple #[.int .i64 0, .int .i64 1]) ∧ Below w.heap.size w w' := by
  have fs4 : (((s[4]'(by omega)).toNat : Int) != 45) = false := (u8_eqb (by rw [← gb_str s 4 (by omega)]; exact gs4 : s[4]'(by omega) = 45)).2
  have fs7 : (((s[7]'(by omega)).toNat : Int) != 45) = false := (u8_eqb (by rw [← gb_str s 7 (by omega)]; exact gs7 : s[7]'(by omega) = 45)).2
  have fs10 : (((s[10]'(by omega)).toNat : Int) != 32) = false := (u8_eqb (by rw [← gb_str s 10 (by omega)]; exact gs10 : s[10]'(by omega) = 32)).2
  have fs13 : (((s[13]'(by omega)).toNat : Int) != 58) = false := (u8_eqb (by rw [← gb_str s 13 (by omega)]; exact gs13 : s[13]'(by omega) = 58)).2
  have HN1 := Lib.hid (fun w => rnum_at s 0 4 0 4 Y w rfl rfl (by omega) (by omega) (by omega) N.y)
  have HN2 := Lib.hid (fun w => rnum_at s 5 2 5 2 M w rfl rfl (by omega) (by omega) (by omega) N.m)
  have HN3 := Lib.hid (fun w => rnum_at s 8 2 8 2 D w rfl rfl (by omega) (by omega) (by omega) N.d)
  have HN4 := Lib.hid (fun w => rnum_at s 11 2 11 2 h w rfl rfl (by omega) (by omega) (by omega) hh)
  have HN5 := Lib.hid (fun w => rnum_at s 14 2 14 2 m w rfl rfl (by omega) (by omega) (by omega) hm)
  clear gs4
  clear gs7
  clear gs10
  clear gs13
  clear N
  go_enter Tryd.func25, Tryd.ntmps25
  go_wp2_with fail
  (with_reducible refine (HN1.out _).mono ?_)
  rintro e1 w1 ⟨rfl, hb1⟩
  have HB1 := Lib.hid hb1
  clear hb1
  go_wp2_with fail
  (with_reducible refine (HN2.out _).mono ?_)
  rintro e2 w2 ⟨rfl, hb2⟩
  have HB2 := Lib.hid (HB1.out.trans (hb2.mono HB1.out.size))
  clear hb2
  go_wp2_with fail
  (with_reducible refine (HN3.out _).mono ?_)
  rintro e3 w3 ⟨rfl, hb3⟩
  have HB3 := Lib.hid (HB2.out.trans (hb3.mono HB2.out.size))
  clear hb3
  have X := Nm3.new w3 Y M D
  have HX := Lib.hid (HB3.out.alloc HB3.out.size (.cells #[.int .i64 Y, .int .i64 M, .int .i64 D] 23))
  go_wp2_with fail
  (with_reducible refine (HN4.out _).mono ?_)
  rintro e4 w4 ⟨rfl, hb4⟩
  have HB4 := Lib.hid (HX.out.trans (hb4.mono HX.out.size))
  have X := X.below hb4
  clear hb4
  go_wp2_with fail
  (with_reducible refine (HN5.out _).mono ?_)
  rintro e5 w5 ⟨rfl, hb5⟩
  have HB5 := Lib.hid (HB4.out.trans (hb5.mono HB4.out.size))
  have X := X.below hb5
  clear hb5
  have q0 := X.c0
  have q1 := X.c1
  have q2 := X.c2
  go_wp2
  go_ret2
  exact ⟨rfl, HB5.out⟩
set_option maxRecDepth 100000 in
set_option maxHeartbeats 2000000 in
theorem RP16_M (s : ByteArray) (w : World) {Y M D h m : Int} (hs : s.size = 16) (N : Nr s Y M D) (hh : rn ((s.data.toList.drop 11).take 2) = h) (hm : rn ((s.data.toList.drop 14).take 2) = m) (hu4 : h < 10000) (hu5 : m < 10000) (gs4 : gb s.data.toList 4 = 45) (gs7 : gb s.data.toList 7 = 45) (gs10 : gb s.data.toList 10 = 32) (gs13 : gb s.data.toList 13 = 58) (gY : 0 ≤ Y) (gM : M < 0) :
    Calls Tryd.prog 25 #[.string s] w fun e w' => e = .returned (.tuple #[.int .i64 0, .int .i64 1]) ∧ Below w.heap.size w w' := by
  have fs4 : (((s[4]'(by omega)).toNat : Int) != 45) = false := (u8_eqb (by rw [← gb_str s 4 (by omega)]; exact gs4 : s[4]'(by omega) = 45)).2
  have fs7 : (((s[7]'(by omega)).toNat : Int) != 45) = false := (u8_eqb (by rw [← gb_str s 7 (by omega)]; exact gs7 : s[7]'(by omega) = 45)).2
  have fs10 : (((s[10]'(by omega)).toNat : Int) != 32) = false := (u8_eqb (by rw [← gb_str s 10 (by omega)]; exact gs10 : s[10]'(by omega) = 32)).2
  have fs13 : (((s[13]'(by omega)).toNat : Int) != 58) = false := (u8_eqb (by rw [← gb_str s 13 (by omega)]; exact gs13 : s[13]'(by omega) = 58)).2
  have HN1 := Lib.hid (fun w => rnum_at s 0 4 0 4 Y w rfl rfl (by omega) (by omega) (by omega) N.y)
  have HN2 := Lib.hid (fun w => rnum_at s 5 2 5 2 M w rfl rfl (by omega) (by omega) (by omega) N.m)
  have HN3 := Lib.hid (fun w => rnum_at s 8 2 8 2 D w rfl rfl (by omega) (by omega) (by omega) N.d)
  have HN4 := Lib.hid (fun w => rnum_at s 11 2 11 2 h w rfl rfl (by omega) (by omega) (by omega) hh)
  have HN5 := Lib.hid (fun w => rnum_at s 14 2 14 2 m w rfl rfl (by omega) (by omega) (by omega) hm)
  clear gs4
  clear gs7
  clear gs10
  clear gs13
  clear N
  go_enter Tryd.func25, Tryd.ntmps25
  go_wp2_with fail
  (with_reducible refine (HN1.out _).mono ?_)
  rintro e1 w1 ⟨rfl, hb1⟩
  have HB1 := Lib.hid hb1
  clear hb1
  go_wp2_with fail
  (with_reducible refine (HN2.out _).mono ?_)
  rintro e2 w2 ⟨rfl, hb2⟩
  have HB2 := Lib.hid (HB1.out.trans (hb2.mono HB1.out.size))
  clear hb2
  go_wp2_with fail
  (with_reducible refine (HN3.out _).mono ?_)
  rintro e3 w3 ⟨rfl, hb3⟩
  have HB3 := Lib.hid (HB2.out.trans (hb3.mono HB2.out.size))
  clear hb3
  have X := Nm3.new w3 Y M D
  have HX := Lib.hid (HB3.out.alloc HB3.out.size (.cells #[.int .i64 Y, .int .i64 M, .int .i64 D] 23))
  go_wp2_with fail
  (with_reducible refine (HN4.out _).mono ?_)
  rintro e4 w4 ⟨rfl, hb4⟩
  have HB4 := Lib.hid (HX.out.trans (hb4.mono HX.out.size))
  have X := X.below hb4
  clear hb4
  go_wp2_with fail
  (with_reducible refine (HN5.out _).mono ?_)
  rintro e5 w5 ⟨rfl, hb5⟩
  have HB5 := Lib.hid (HB4.out.trans (hb5.mono HB4.out.size))
  have X := X.below hb5
  clear hb5
  have q0 := X.c0
  have q1 := X.c1
  have q2 := X.c2
  go_wp2
  go_ret2
  exact ⟨rfl, HB5.out⟩
set_option maxRecDepth 100000 in
set_option maxHeartbeats 2000000 in
theorem RP16_D (s : ByteArray) (w : World) {Y M D h m : Int} (hs : s.size = 16) (N : Nr s Y M D) (hh : rn ((s.data.toList.drop 11).take 2) = h) (hm : rn ((s.data.toList.drop 14).take 2) = m) (hu4 : h < 10000) (hu5 : m < 10000) (gs4 : gb s.data.toList 4 = 45) (gs7 : gb s.data.toList 7 = 45) (gs10 : gb s.data.toList 10 = 32) (gs13 : gb s.data.toList 13 = 58) (gY : 0 ≤ Y) (gM : 0 ≤ M) (gD : D < 0) :
    Calls Tryd.prog 25 #[.string s] w fun e w' => e = .returned (.tuple #[.int .i64 0, .int .i64 1]) ∧ Below w.heap.size w w' := by
  have fs4 : (((s[4]'(by omega)).toNat : Int) != 45) = false := (u8_eqb (by rw [← gb_str s 4 (by omega)]; exact gs4 : s[4]'(by omega) = 45)).2
  have fs7 : (((s[7]'(by omega)).toNat : Int) != 45) = false := (u8_eqb (by rw [← gb_str s 7 (by omega)]; exact gs7 : s[7]'(by omega) = 45)).2
  have fs10 : (((s[10]'(by omega)).toNat : Int) != 32) = false := (u8_eqb (by rw [← gb_str s 10 (by omega)]; exact gs10 : s[10]'(by omega) = 32)).2
  have fs13 : (((s[13]'(by omega)).toNat : Int) != 58) = false := (u8_eqb (by rw [← gb_str s 13 (by omega)]; exact gs13 : s[13]'(by omega) = 58)).2
  have HN1 := Lib.hid (fun w => rnum_at s 0 4 0 4 Y w rfl rfl (by omega) (by omega) (by omega) N.y)
  have HN2 := Lib.hid (fun w => rnum_at s 5 2 5 2 M w rfl rfl (by omega) (by omega) (by omega) N.m)
  have HN3 := Lib.hid (fun w => rnum_at s 8 2 8 2 D w rfl rfl (by omega) (by omega) (by omega) N.d)
  have HN4 := Lib.hid (fun w => rnum_at s 11 2 11 2 h w rfl rfl (by omega) (by omega) (by omega) hh)
  have HN5 := Lib.hid (fun w => rnum_at s 14 2 14 2 m w rfl rfl (by omega) (by omega) (by omega) hm)
  clear gs4
  clear gs7
  clear gs10
  clear gs13
  clear N
  go_enter Tryd.func25, Tryd.ntmps25
  go_wp2_with fail
  (with_reducible refine (HN1.out _).mono ?_)
  rintro e1 w1 ⟨rfl, hb1⟩
  have HB1 := Lib.hid hb1
  clear hb1
  go_wp2_with fail
  (with_reducible refine (HN2.out _).mono ?_)
  rintro e2 w2 ⟨rfl, hb2⟩
  have HB2 := Lib.hid (HB1.out.trans (hb2.mono HB1.out.size))
  clear hb2
  go_wp2_with fail
  (with_reducible refine (HN3.out _).mono ?_)
  rintro e3 w3 ⟨rfl, hb3⟩
  have HB3 := Lib.hid (HB2.out.trans (hb3.mono HB2.out.size))
  clear hb3
  have X := Nm3.new w3 Y M D
  have HX := Lib.hid (HB3.out.alloc HB3.out.size (.cells #[.int .i64 Y, .int .i64 M, .int .i64 D] 23))
  go_wp2_with fail
  (with_reducible refine (HN4.out _).mono ?_)
  rintro e4 w4 ⟨rfl, hb4⟩
  have HB4 := Lib.hid (HX.out.trans (hb4.mono HX.out.size))
  have X := X.below hb4
  clear hb4
  go_wp2_with fail
  (with_reducible refine (HN5.out _).mono ?_)
  rintro e5 w5 ⟨rfl, hb5⟩
  have HB5 := Lib.hid (HB4.out.trans (hb5.mono HB4.out.size))
  have X := X.below hb5
  clear hb5
  have q0 := X.c0
  have q1 := X.c1
  have q2 := X.c2
  go_wp2
  go_ret2
  exact ⟨rfl, HB5.out⟩
set_option maxRecDepth 100000 in
set_option maxHeartbeats 2000000 in
theorem RP16_h (s : ByteArray) (w : World) {Y M D h m : Int} (hs : s.size = 16) (N : Nr s Y M D) (hh : rn ((s.data.toList.drop 11).take 2) = h) (hm : rn ((s.data.toList.drop 14).take 2) = m) (hu4 : h < 10000) (hu5 : m < 10000) (gs4 : gb s.data.toList 4 = 45) (gs7 : gb s.data.toList 7 = 45) (gs10 : gb s.data.toList 10 = 32) (gs13 : gb s.data.toList 13 = 58) (gY : 0 ≤ Y) (gM : 0 ≤ M) (gD : 0 ≤ D) (gh : h < 0) :
    Calls Tryd.prog 25 #[.string s] w fun e w' => e = .returned (.tuple #[.int .i64 0, .int .i64 1]) ∧ Below w.heap.size w w' := by
  have fs4 : (((s[4]'(by omega)).toNat : Int) != 45) = false := (u8_eqb (by rw [← gb_str s 4 (by omega)]; exact gs4 : s[4]'(by omega) = 45)).2
  have fs7 : (((s[7]'(by omega)).toNat : Int) != 45) = false := (u8_eqb (by rw [← gb_str s 7 (by omega)]; exact gs7 : s[7]'(by omega) = 45)).2
  have fs10 : (((s[10]'(by omega)).toNat : Int) != 32) = false := (u8_eqb (by rw [← gb_str s 10 (by omega)]; exact gs10 : s[10]'(by omega) = 32)).2
  have fs13 : (((s[13]'(by omega)).toNat : Int) != 58) = false := (u8_eqb (by rw [← gb_str s 13 (by omega)]; exact gs13 : s[13]'(by omega) = 58)).2
  have HN1 := Lib.hid (fun w => rnum_at s 0 4 0 4 Y w rfl rfl (by omega) (by omega) (by omega) N.y)
  have HN2 := Lib.hid (fun w => rnum_at s 5 2 5 2 M w rfl rfl (by omega) (by omega) (by omega) N.m)
  have HN3 := Lib.hid (fun w => rnum_at s 8 2 8 2 D w rfl rfl (by omega) (by omega) (by omega) N.d)
  have HN4 := Lib.hid (fun w => rnum_at s 11 2 11 2 h w rfl rfl (by omega) (by omega) (by omega) hh)
  have HN5 := Lib.hid (fun w => rnum_at s 14 2 14 2 m w rfl rfl (by omega) (by omega) (by omega) hm)
  clear gs4
  clear gs7
  clear gs10
  clear gs13
  clear N
  go_enter Tryd.func25, Tryd.ntmps25
  go_wp2_with fail
  (with_reducible refine (HN1.out _).mono ?_)
  rintro e1 w1 ⟨rfl, hb1⟩
  have HB1 := Lib.hid hb1
  clear hb1
  go_wp2_with fail
  (with_reducible refine (HN2.out _).mono ?_)
  rintro e2 w2 ⟨rfl, hb2⟩
  have HB2 := Lib.hid (HB1.out.trans (hb2.mono HB1.out.size))
  clear hb2
  go_wp2_with fail
  (with_reducible refine (HN3.out _).mono ?_)
  rintro e3 w3 ⟨rfl, hb3⟩
  have HB3 := Lib.hid (HB2.out.trans (hb3.mono HB2.out.size))
  clear hb3
  have X := Nm3.new w3 Y M D
  have HX := Lib.hid (HB3.out.alloc HB3.out.size (.cells #[.int .i64 Y, .int .i64 M, .int .i64 D] 23))
  go_wp2_with fail
  (with_reducible refine (HN4.out _).mono ?_)
  rintro e4 w4 ⟨rfl, hb4⟩
  have HB4 := Lib.hid (HX.out.trans (hb4.mono HX.out.size))
  have X := X.below hb4
  clear hb4
  go_wp2_with fail
  (with_reducible refine (HN5.out _).mono ?_)
  rintro e5 w5 ⟨rfl, hb5⟩
  have HB5 := Lib.hid (HB4.out.trans (hb5.mono HB4.out.size))
  have X := X.below hb5
  clear hb5
  have q0 := X.c0
  have q1 := X.c1
  have q2 := X.c2
  go_wp2
  go_ret2
  exact ⟨rfl, HB5.out⟩
set_option maxRecDepth 100000 in
set_option maxHeartbeats 2000000 in
theorem RP16_m (s : ByteArray) (w : World) {Y M D h m : Int} (hs : s.size = 16) (N : Nr s Y M D) (hh : rn ((s.data.toList.drop 11).take 2) = h) (hm : rn ((s.data.toList.drop 14).take 2) = m) (hu4 : h < 10000) (hu5 : m < 10000) (gs4 : gb s.data.toList 4 = 45) (gs7 : gb s.data.toList 7 = 45) (gs10 : gb s.data.toList 10 = 32) (gs13 : gb s.data.toList 13 = 58) (gY : 0 ≤ Y) (gM : 0 ≤ M) (gD : 0 ≤ D) (gh : 0 ≤ h) (gm : m < 0) :
    Calls Tryd.prog 25 #[.string s] w fun e w' => e = .returned (.tuple #[.int .i64 0, .int .i64 1]) ∧ Below w.heap.size w w' := by
  have fs4 : (((s[4]'(by omega)).toNat : Int) != 45) = false := (u8_eqb (by rw [← gb_str s 4 (by omega)]; exact gs4 : s[4]'(by omega) = 45)).2
  have fs7 : (((s[7]'(by omega)).toNat : Int) != 45) = false := (u8_eqb (by rw [← gb_str s 7 (by omega)]; exact gs7 : s[7]'(by omega) = 45)).2
  have fs10 : (((s[10]'(by omega)).toNat : Int) != 32) = false := (u8_eqb (by rw [← gb_str s 10 (by omega)]; exact gs10 : s[10]'(by omega) = 32)).2
  have fs13 : (((s[13]'(by omega)).toNat : Int) != 58) = false := (u8_eqb (by rw [← gb_str s 13 (by omega)]; exact gs13 : s[13]'(by omega) = 58)).2
  have HN1 := Lib.hid (fun w => rnum_at s 0 4 0 4 Y w rfl rfl (by omega) (by omega) (by omega) N.y)
  have HN2 := Lib.hid (fun w => rnum_at s 5 2 5 2 M w rfl rfl (by omega) (by omega) (by omega) N.m)
  have HN3 := Lib.hid (fun w => rnum_at s 8 2 8 2 D w rfl rfl (by omega) (by omega) (by omega) N.d)
  have HN4 := Lib.hid (fun w => rnum_at s 11 2 11 2 h w rfl rfl (by omega) (by omega) (by omega) hh)
  have HN5 := Lib.hid (fun w => rnum_at s 14 2 14 2 m w rfl rfl (by omega) (by omega) (by omega) hm)
  clear gs4
  clear gs7
  clear gs10
  clear gs13
  clear N
  go_enter Tryd.func25, Tryd.ntmps25
  go_wp2_with fail
  (with_reducible refine (HN1.out _).mono ?_)
  rintro e1 w1 ⟨rfl, hb1⟩
  have HB1 := Lib.hid hb1
  clear hb1
  go_wp2_with fail
  (with_reducible refine (HN2.out _).mono ?_)
  rintro e2 w2 ⟨rfl, hb2⟩
  have HB2 := Lib.hid (HB1.out.trans (hb2.mono HB1.out.size))
  clear hb2
  go_wp2_with fail
  (with_reducible refine (HN3.out _).mono ?_)
  rintro e3 w3 ⟨rfl, hb3⟩
  have HB3 := Lib.hid (HB2.out.trans (hb3.mono HB2.out.size))
  clear hb3
  have X := Nm3.new w3 Y M D
  have HX := Lib.hid (HB3.out.alloc HB3.out.size (.cells #[.int .i64 Y, .int .i64 M, .int .i64 D] 23))
  go_wp2_with fail
  (with_reducible refine (HN4.out _).mono ?_)
  rintro e4 w4 ⟨rfl, hb4⟩
  have HB4 := Lib.hid (HX.out.trans (hb4.mono HX.out.size))
  have X := X.below hb4
  clear hb4
  go_wp2_with fail
  (with_reducible refine (HN5.out _).mono ?_)
  rintro e5 w5 ⟨rfl, hb5⟩
  have HB5 := Lib.hid (HB4.out.trans (hb5.mono HB4.out.size))
  have X := X.below hb5
  clear hb5
  have q0 := X.c0
  have q1 := X.c1
  have q2 := X.c2
  go_wp2
  go_ret2
  exact ⟨rfl, HB5.out⟩
set_option maxRecDepth 100000 in
set_option maxHeartbeats 2000000 in
theorem RP16_hx (s : ByteArray) (w : World) {Y M D h m : Int} (hs : s.size = 16) (N : Nr s Y M D) (hh : rn ((s.data.toList.drop 11).take 2) = h) (hm : rn ((s.data.toList.drop 14).take 2) = m) (hu4 : h < 10000) (hu5 : m < 10000) (gs4 : gb s.data.toList 4 = 45) (gs7 : gb s.data.toList 7 = 45) (gs10 : gb s.data.toList 10 = 32) (gs13 : gb s.data.toList 13 = 58) (gY : 0 ≤ Y) (gM : 0 ≤ M) (gD : 0 ≤ D) (gh : 0 ≤ h) (gm : 0 ≤ m) (ghx : 23 < h) :
    Calls Tryd.prog 25 #[.string s] w fun e w' => e = .returned (.tuple #[.int .i64 0, .int .i64 2]) ∧ Below w.heap.size w w' := by
  have fs4 : (((s[4]'(by omega)).toNat : Int) != 45) = false := (u8_eqb (by rw [← gb_str s 4 (by omega)]; exact gs4 : s[4]'(by omega) = 45)).2
  have fs7 : (((s[7]'(by omega)).toNat : Int) != 45) = false := (u8_eqb (by rw [← gb_str s 7 (by omega)]; exact gs7 : s[7]'(by omega) = 45)).2
  have fs10 : (((s[10]'(by omega)).toNat : Int) != 32) = false := (u8_eqb (by rw [← gb_str s 10 (by omega)]; exact gs10 : s[10]'(by omega) = 32)).2
  have fs13 : (((s[13]'(by omega)).toNat : Int) != 58) = false := (u8_eqb (by rw [← gb_str s 13 (by omega)]; exact gs13 : s[13]'(by omega) = 58)).2
  have HN1 := Lib.hid (fun w => rnum_at s 0 4 0 4 Y w rfl rfl (by omega) (by omega) (by omega) N.y)
  have HN2 := Lib.hid (fun w => rnum_at s 5 2 5 2 M w rfl rfl (by omega) (by omega) (by omega) N.m)
  have HN3 := Lib.hid (fun w => rnum_at s 8 2 8 2 D w rfl rfl (by omega) (by omega) (by omega) N.d)
  have HN4 := Lib.hid (fun w => rnum_at s 11 2 11 2 h w rfl rfl (by omega) (by omega) (by omega) hh)
  have HN5 := Lib.hid (fun w => rnum_at s 14 2 14 2 m w rfl rfl (by omega) (by omega) (by omega) hm)
  clear gs4
  clear gs7
  clear gs10
  clear gs13
  clear N
  go_enter Tryd.func25, Tryd.ntmps25
  go_wp2_with fail
  (with_reducible refine (HN1.out _).mono ?_)
  rintro e1 w1 ⟨rfl, hb1⟩
  have HB1 := Lib.hid hb1
  clear hb1
  go_wp2_with fail
  (with_reducible refine (HN2.out _).mono ?_)
  rintro e2 w2 ⟨rfl, hb2⟩
  have HB2 := Lib.hid (HB1.out.trans (hb2.mono HB1.out.size))
  clear hb2
  go_wp2_with fail
  (with_reducible refine (HN3.out _).mono ?_)
  rintro e3 w3 ⟨rfl, hb3⟩
  have HB3 := Lib.hid (HB2.out.trans (hb3.mono HB2.out.size))
  clear hb3
  have X := Nm3.new w3 Y M D
  have HX := Lib.hid (HB3.out.alloc HB3.out.size (.cells #[.int .i64 Y, .int .i64 M, .int .i64 D] 23))
  go_wp2_with fail
  (with_reducible refine (HN4.out _).mono ?_)
  rintro e4 w4 ⟨rfl, hb4⟩
  have HB4 := Lib.hid (HX.out.trans (hb4.mono HX.out.size))
  have X := X.below hb4
  clear hb4
  go_wp2_with fail
  (with_reducible refine (HN5.out _).mono ?_)
  rintro e5 w5 ⟨rfl, hb5⟩
  have HB5 := Lib.hid (HB4.out.trans (hb5.mono HB4.out.size))
  have X := X.below hb5
  clear hb5
  have q0 := X.c0
  have q1 := X.c1
  have q2 := X.c2
  go_wp2
  go_ret2
  exact ⟨rfl, HB5.out⟩
set_option maxRecDepth 100000 in
set_option maxHeartbeats 2000000 in
theorem RP16_mx (s : ByteArray) (w : World) {Y M D h m : Int} (hs : s.size = 16) (N : Nr s Y M D) (hh : rn ((s.data.toList.drop 11).take 2) = h) (hm : rn ((s.data.toList.drop 14).take 2) = m) (hu4 : h < 10000) (hu5 : m < 10000) (gs4 : gb s.data.toList 4 = 45) (gs7 : gb s.data.toList 7 = 45) (gs10 : gb s.data.toList 10 = 32) (gs13 : gb s.data.toList 13 = 58) (gY : 0 ≤ Y) (gM : 0 ≤ M) (gD : 0 ≤ D) (gh : 0 ≤ h) (gm : 0 ≤ m) (ghx : h ≤ 23) (gmx : 59 < m) :
    Calls Tryd.prog 25 #[.string s] w fun e w' => e = .returned (.tuple #[.int .i64 0, .int .i64 2]) ∧ Below w.heap.size w w' := by
  have fs4 : (((s[4]'(by omega)).toNat : Int) != 45) = false := (u8_eqb (by rw [← gb_str s 4 (by omega)]; exact gs4 : s[4]'(by omega) = 45)).2
  have fs7 : (((s[7]'(by omega)).toNat : Int) != 45) = false := (u8_eqb (by rw [← gb_str s 7 (by omega)]; exact gs7 : s[7]'(by omega) = 45)).2
  have fs10 : (((s[10]'(by omega)).toNat : Int) != 32) = false := (u8_eqb (by rw [← gb_str s 10 (by omega)]; exact gs10 : s[10]'(by omega) = 32)).2
  have fs13 : (((s[13]'(by omega)).toNat : Int) != 58) = false := (u8_eqb (by rw [← gb_str s 13 (by omega)]; exact gs13 : s[13]'(by omega) = 58)).2
  have HN1 := Lib.hid (fun w => rnum_at s 0 4 0 4 Y w rfl rfl (by omega) (by omega) (by omega) N.y)
  have HN2 := Lib.hid (fun w => rnum_at s 5 2 5 2 M w rfl rfl (by omega) (by omega) (by omega) N.m)
  have HN3 := Lib.hid (fun w => rnum_at s 8 2 8 2 D w rfl rfl (by omega) (by omega) (by omega) N.d)
  have HN4 := Lib.hid (fun w => rnum_at s 11 2 11 2 h w rfl rfl (by omega) (by omega) (by omega) hh)
  have HN5 := Lib.hid (fun w => rnum_at s 14 2 14 2 m w rfl rfl (by omega) (by omega) (by omega) hm)
  clear gs4
  clear gs7
  clear gs10
  clear gs13
  clear N
  go_enter Tryd.func25, Tryd.ntmps25
  go_wp2_with fail
  (with_reducible refine (HN1.out _).mono ?_)
  rintro e1 w1 ⟨rfl, hb1⟩
  have HB1 := Lib.hid hb1
  clear hb1
  go_wp2_with fail
  (with_reducible refine (HN2.out _).mono ?_)
  rintro e2 w2 ⟨rfl, hb2⟩
  have HB2 := Lib.hid (HB1.out.trans (hb2.mono HB1.out.size))
  clear hb2
  go_wp2_with fail
  (with_reducible refine (HN3.out _).mono ?_)
  rintro e3 w3 ⟨rfl, hb3⟩
  have HB3 := Lib.hid (HB2.out.trans (hb3.mono HB2.out.size))
  clear hb3
  have X := Nm3.new w3 Y M D
  have HX := Lib.hid (HB3.out.alloc HB3.out.size (.cells #[.int .i64 Y, .int .i64 M, .int .i64 D] 23))
  go_wp2_with fail
  (with_reducible refine (HN4.out _).mono ?_)
  rintro e4 w4 ⟨rfl, hb4⟩
  have HB4 := Lib.hid (HX.out.trans (hb4.mono HX.out.size))
  have X := X.below hb4
  clear hb4
  go_wp2_with fail
  (with_reducible refine (HN5.out _).mono ?_)
  rintro e5 w5 ⟨rfl, hb5⟩
  have HB5 := Lib.hid (HB4.out.trans (hb5.mono HB4.out.size))
  have X := X.below hb5
  clear hb5
  have q0 := X.c0
  have q1 := X.c1
  have q2 := X.c2
  go_wp2
  go_ret2
  exact ⟨rfl, HB5.out⟩
set_option maxRecDepth 100000 in
set_option maxHeartbeats 2000000 in
theorem RP16_ok (s : ByteArray) (w : World) {Y M D h m : Int} (hs : s.size = 16) (N : Nr s Y M D) (hh : rn ((s.data.toList.drop 11).take 2) = h) (hm : rn ((s.data.toList.drop 14).take 2) = m) (hu4 : h < 10000) (hu5 : m < 10000) (gs4 : gb s.data.toList 4 = 45) (gs7 : gb s.data.toList 7 = 45) (gs10 : gb s.data.toList 10 = 32) (gs13 : gb s.data.toList 13 = 58) (gY : 0 ≤ Y) (gM : 0 ≤ M) (gD : 0 ≤ D) (gh : 0 ≤ h) (gm : 0 ≤ m) (ghx : h ≤ 23) (gmx : m ≤ 59) :
    Calls Tryd.prog 25 #[.string s] w fun e w' => e = .returned (.tuple #[.int .i64 (minu Y M D (h * 60 + m)).n, .int .i64 (minu Y M D (h * 60 + m)).e]) ∧ Below w.heap.size w w' := by
  have fs4 : (((s[4]'(by omega)).toNat : Int) != 45) = false := (u8_eqb (by rw [← gb_str s 4 (by omega)]; exact gs4 : s[4]'(by omega) = 45)).2
  have fs7 : (((s[7]'(by omega)).toNat : Int) != 45) = false := (u8_eqb (by rw [← gb_str s 7 (by omega)]; exact gs7 : s[7]'(by omega) = 45)).2
  have fs10 : (((s[10]'(by omega)).toNat : Int) != 32) = false := (u8_eqb (by rw [← gb_str s 10 (by omega)]; exact gs10 : s[10]'(by omega) = 32)).2
  have fs13 : (((s[13]'(by omega)).toNat : Int) != 58) = false := (u8_eqb (by rw [← gb_str s 13 (by omega)]; exact gs13 : s[13]'(by omega) = 58)).2
  have HN1 := Lib.hid (fun w => rnum_at s 0 4 0 4 Y w rfl rfl (by omega) (by omega) (by omega) N.y)
  have HN2 := Lib.hid (fun w => rnum_at s 5 2 5 2 M w rfl rfl (by omega) (by omega) (by omega) N.m)
  have HN3 := Lib.hid (fun w => rnum_at s 8 2 8 2 D w rfl rfl (by omega) (by omega) (by omega) N.d)
  have HN4 := Lib.hid (fun w => rnum_at s 11 2 11 2 h w rfl rfl (by omega) (by omega) (by omega) hh)
  have HN5 := Lib.hid (fun w => rnum_at s 14 2 14 2 m w rfl rfl (by omega) (by omega) (by omega) hm)
  have HM := Lib.hid (fun w => RMinute_any Y M D (h * 60 + m) w)
  clear gs4
  clear gs7
  clear gs10
  clear gs13
  clear N
  go_enter Tryd.func25, Tryd.ntmps25
  go_wp2_with fail
  (with_reducible refine (HN1.out _).mono ?_)
  rintro e1 w1 ⟨rfl, hb1⟩
  have HB1 := Lib.hid hb1
  clear hb1
  go_wp2_with fail
  (with_reducible refine (HN2.out _).mono ?_)
  rintro e2 w2 ⟨rfl, hb2⟩
  have HB2 := Lib.hid (HB1.out.trans (hb2.mono HB1.out.size))
  clear hb2
  go_wp2_with fail
  (with_reducible refine (HN3.out _).mono ?_)
  rintro e3 w3 ⟨rfl, hb3⟩
  have HB3 := Lib.hid (HB2.out.trans (hb3.mono HB2.out.size))
  clear hb3
  have X := Nm3.new w3 Y M D
  have HX := Lib.hid (HB3.out.alloc HB3.out.size (.cells #[.int .i64 Y, .int .i64 M, .int .i64 D] 23))
  go_wp2_with fail
  (with_reducible refine (HN4.out _).mono ?_)
  rintro e4 w4 ⟨rfl, hb4⟩
  have HB4 := Lib.hid (HX.out.trans (hb4.mono HX.out.size))
  have X := X.below hb4
  clear hb4
  go_wp2_with fail
  (with_reducible refine (HN5.out _).mono ?_)
  rintro e5 w5 ⟨rfl, hb5⟩
  have HB5 := Lib.hid (HB4.out.trans (hb5.mono HB4.out.size))
  have X := X.below hb5
  clear hb5
  have q0 := X.c0
  have q1 := X.c1
  have q2 := X.c2
  go_wp2_with fail
  (with_reducible refine (HM.out _).mono ?_)
  rintro e9 w9 ⟨rfl, hb9⟩
  have HB9 := Lib.hid (HB5.out.trans (hb9.mono HB5.out.size))
  clear hb9
  go_wp2
  go_ret2
  exact ⟨rfl, HB9.out⟩
set_option maxRecDepth 100000 in
theorem RP_len (s : ByteArray) (w : World) (h1 : s.size ≠ 10) (h2 : s.size ≠ 16) (hs : s.size ≤ 1000) :
    Calls Tryd.prog 25 #[.string s] w fun e w' => e = .returned (.tuple #[.int .i64 0, .int .i64 1]) ∧ Below w.heap.size w w' := by
  have n1 : ((s.size : Int) != 10) = true := by simp; omega
  have n2 : ((s.size : Int) != 16) = true := by simp; omega
  clear h1 h2
  go_enter Tryd.func25, Tryd.ntmps25
  go_wp2
  go_ret2
  exact ⟨rfl, Below.refl _ _⟩
theorem RParse_any (s : ByteArray) (w : World) (hs : s.size ≤ 1000) :
    Calls Tryd.prog 25 #[.string s] w fun e w' => e = .returned (.tuple #[.int .i64 (parse s.data.toList).n, .int .i64 (parse s.data.toList).e]) ∧ Below w.heap.size w w' := by
  have hl : s.data.toList.length = s.size := by simp
  have bad : ∀ {a : Prop}, (form s.data.toList = true → False) → parse s.data.toList = ⟨0, 1⟩ := fun h => parse_no (by cases hf : form s.data.toList with | false => rfl | true => exact (h hf).elim)
  by_cases e10 : s.size = 10
  · obtain ⟨Y, hY⟩ : ∃ Y, rn ((s.data.toList.drop 0).take 4) = Y := ⟨_, rfl⟩
    obtain ⟨M, hM⟩ : ∃ M, rn ((s.data.toList.drop 5).take 2) = M := ⟨_, rfl⟩
    obtain ⟨D, hD⟩ : ∃ D, rn ((s.data.toList.drop 8).take 2) = D := ⟨_, rfl⟩
    have N : Nr s Y M D := ⟨hY, hM, hD⟩
    by_cases gs4 : gb s.data.toList 4 = 45
    case neg => rw [bad (a := True) (fun hf => gs4 ((form_fm hf (by omega)).a))]; exact RP10_s4 s w e10 N gs4
    by_cases gs7 : gb s.data.toList 7 = 45
    case neg => rw [bad (a := True) (fun hf => gs7 ((form_fm hf (by omega)).b))]; exact RP10_s7 s w e10 N gs4 gs7
    by_cases gY : 0 ≤ Y
    case neg => rw [bad (a := True) (fun hf => gY (by rw [← hY, rn_yes (part_dig hf (by omega) 0 4 (by omega) l48a)]; exact (dv_small (part_dig hf (by omega) 0 4 (by omega) l48a) (by rw [List.length_take]; omega)).1))]; exact RP10_Y s w e10 N gs4 gs7 (by omega)
    by_cases gM : 0 ≤ M
    case neg => rw [bad (a := True) (fun hf => gM (by rw [← hM, rn_yes (part_dig hf (by omega) 5 2 (by omega) l48b)]; exact (dv_small (part_dig hf (by omega) 5 2 (by omega) l48b) (by rw [List.length_take]; omega)).1))]; exact RP10_M s w e10 N gs4 gs7 gY (by omega)
    by_cases gD : 0 ≤ D
    case neg => rw [bad (a := True) (fun hf => gD (by rw [← hD, rn_yes (part_dig hf (by omega) 8 2 (by omega) l48c)]; exact (dv_small (part_dig hf (by omega) 8 2 (by omega) l48c) (by rw [List.length_take]; omega)).1))]; exact RP10_D s w e10 N gs4 gs7 gY gM (by omega)
    have hf : form s.data.toList = true := fm_form (by omega) ⟨gs4, gs7, fun e => by omega⟩ (rn_dig (by rw [hY]; exact gY)) (rn_dig (by rw [hM]; exact gM)) (rn_dig (by rw [hD]; exact gD)) (fun e => by omega)
    have vh : hh s.data.toList = 0 := by unfold hh; rw [List.drop_eq_nil_of_le (by omega)]; rfl
    have vm : mm s.data.toList = 0 := by unfold mm; rw [List.drop_eq_nil_of_le (by omega)]; rfl
    have vY : dv (s.data.toList.take 4) = Y := by rw [← hY]; exact (rn_yes (part_dig hf (by omega) 0 4 (by omega) l48a)).symm
    have vM : dv ((s.data.toList.drop 5).take 2) = M := by rw [← hM]; exact (rn_yes (part_dig hf (by omega) 5 2 (by omega) l48b)).symm
    have vD : dv ((s.data.toList.drop 8).take 2) = D := by rw [← hD]; exact (rn_yes (part_dig hf (by omega) 8 2 (by omega) l48c)).symm
    have hp : parse s.data.toList = minu Y M D (0) := by unfold parse; rw [if_pos hf, vh, vm, if_neg (by omega), vY, vM, vD]; rfl
    rw [hp]; exact RP10_ok s w e10 N gs4 gs7 gY gM gD
  by_cases e16 : s.size = 16
  · obtain ⟨Y, hY⟩ : ∃ Y, rn ((s.data.toList.drop 0).take 4) = Y := ⟨_, rfl⟩
    obtain ⟨M, hM⟩ : ∃ M, rn ((s.data.toList.drop 5).take 2) = M := ⟨_, rfl⟩
    obtain ⟨D, hD⟩ : ∃ D, rn ((s.data.toList.drop 8).take 2) = D := ⟨_, rfl⟩
    have N : Nr s Y M D := ⟨hY, hM, hD⟩
    obtain ⟨h, hh⟩ : ∃ h, rn ((s.data.toList.drop 11).take 2) = h := ⟨_, rfl⟩
    obtain ⟨m, hm⟩ : ∃ m, rn ((s.data.toList.drop 14).take 2) = m := ⟨_, rfl⟩
    have u4 : h < 10000 := by rw [← hh]; exact (rn_bd (by rw [List.length_take]; omega)).2
    have u5 : m < 10000 := by rw [← hm]; exact (rn_bd (by rw [List.length_take]; omega)).2
    by_cases gs4 : gb s.data.toList 4 = 45
    case neg => rw [bad (a := True) (fun hf => gs4 ((form_fm hf (by omega)).a))]; exact RP16_s4 s w e16 N hh hm u4 u5 gs4
    by_cases gs7 : gb s.data.toList 7 = 45
    case neg => rw [bad (a := True) (fun hf => gs7 ((form_fm hf (by omega)).b))]; exact RP16_s7 s w e16 N hh hm u4 u5 gs4 gs7
    by_cases gs10 : gb s.data.toList 10 = 32
    case neg => rw [bad (a := True) (fun hf => gs10 (((form_fm hf (by omega)).c (by omega)).1))]; exact RP16_s10 s w e16 N hh hm u4 u5 gs4 gs7 gs10
    by_cases gs13 : gb s.data.toList 13 = 58
    case neg => rw [bad (a := True) (fun hf => gs13 (((form_fm hf (by omega)).c (by omega)).2))]; exact RP16_s13 s w e16 N hh hm u4 u5 gs4 gs7 gs10 gs13
    by_cases gY : 0 ≤ Y
    case neg => rw [bad (a := True) (fun hf => gY (by rw [← hY, rn_yes (part_dig hf (by omega) 0 4 (by omega) l48a)]; exact (dv_small (part_dig hf (by omega) 0 4 (by omega) l48a) (by rw [List.length_take]; omega)).1))]; exact RP16_Y s w e16 N hh hm u4 u5 gs4 gs7 gs10 gs13 (by omega)
    by_cases gM : 0 ≤ M
    case neg => rw [bad (a := True) (fun hf => gM (by rw [← hM, rn_yes (part_dig hf (by omega) 5 2 (by omega) l48b)]; exact (dv_small (part_dig hf (by omega) 5 2 (by omega) l48b) (by rw [List.length_take]; omega)).1))]; exact RP16_M s w e16 N hh hm u4 u5 gs4 gs7 gs10 gs13 gY (by omega)
    by_cases gD : 0 ≤ D
    case neg => rw [bad (a := True) (fun hf => gD (by rw [← hD, rn_yes (part_dig hf (by omega) 8 2 (by omega) l48c)]; exact (dv_small (part_dig hf (by omega) 8 2 (by omega) l48c) (by rw [List.length_take]; omega)).1))]; exact RP16_D s w e16 N hh hm u4 u5 gs4 gs7 gs10 gs13 gY gM (by omega)
    by_cases gh : 0 ≤ h
    case neg => rw [bad (a := True) (fun hf => gh (by rw [← hh, rn_yes (part_dig hf (by omega) 11 2 (by omega) l48d)]; exact (dv_small (part_dig hf (by omega) 11 2 (by omega) l48d) (by rw [List.length_take]; omega)).1))]; exact RP16_h s w e16 N hh hm u4 u5 gs4 gs7 gs10 gs13 gY gM gD (by omega)
    by_cases gm : 0 ≤ m
    case neg => rw [bad (a := True) (fun hf => gm (by rw [← hm, rn_yes (part_dig hf (by omega) 14 2 (by omega) l48e)]; exact (dv_small (part_dig hf (by omega) 14 2 (by omega) l48e) (by rw [List.length_take]; omega)).1))]; exact RP16_m s w e16 N hh hm u4 u5 gs4 gs7 gs10 gs13 gY gM gD gh (by omega)
    have hf : form s.data.toList = true := fm_form (by omega) ⟨gs4, gs7, fun _ => ⟨gs10, gs13⟩⟩ (rn_dig (by rw [hY]; exact gY)) (rn_dig (by rw [hM]; exact gM)) (rn_dig (by rw [hD]; exact gD)) (fun _ => ⟨rn_dig (by rw [hh]; exact gh), rn_dig (by rw [hm]; exact gm)⟩)
    have vh : Ca.hh s.data.toList = h := by rw [← hh]; exact (rn_yes (part_dig hf (by omega) 11 2 (by omega) l48d)).symm
    have vm : mm s.data.toList = m := by rw [← hm]; exact (rn_yes (part_dig hf (by omega) 14 2 (by omega) l48e)).symm
    by_cases ghx : h ≤ 23
    case neg => rw [show parse s.data.toList = ⟨0, 2⟩ by unfold parse; rw [if_pos hf, vh, vm, if_pos (by omega)]]; exact RP16_hx s w e16 N hh hm u4 u5 gs4 gs7 gs10 gs13 gY gM gD gh gm (by omega)
    by_cases gmx : m ≤ 59
    case neg => rw [show parse s.data.toList = ⟨0, 2⟩ by unfold parse; rw [if_pos hf, vh, vm, if_pos (by omega)]]; exact RP16_mx s w e16 N hh hm u4 u5 gs4 gs7 gs10 gs13 gY gM gD gh gm ghx (by omega)
    have vY : dv (s.data.toList.take 4) = Y := by rw [← hY]; exact (rn_yes (part_dig hf (by omega) 0 4 (by omega) l48a)).symm
    have vM : dv ((s.data.toList.drop 5).take 2) = M := by rw [← hM]; exact (rn_yes (part_dig hf (by omega) 5 2 (by omega) l48b)).symm
    have vD : dv ((s.data.toList.drop 8).take 2) = D := by rw [← hD]; exact (rn_yes (part_dig hf (by omega) 8 2 (by omega) l48c)).symm
    have hp : parse s.data.toList = minu Y M D (h * 60 + m) := by unfold parse; rw [if_pos hf, vh, vm, if_neg (by omega), vY, vM, vD]
    rw [hp]; exact RP16_ok s w e16 N hh hm u4 u5 gs4 gs7 gs10 gs13 gY gM gD gh gm ghx gmx
  rw [bad (a := True) (fun hf => by have := form_size hf; omega)]; exact RP_len s w e10 e16 hs
end Go.Proofs.YtlkbdnjpcagopaaDoor.Ca
