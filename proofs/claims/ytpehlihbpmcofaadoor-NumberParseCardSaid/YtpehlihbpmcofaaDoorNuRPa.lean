/-
  The contract of the reference's Parse: one walk for each sign and each way.
-/
import Derived.Test.YtpehlihbpmcofaaDoorNuRPl
import Derived.Test.YtpehlihbpmcofaaDoorNuForm
import Derived.Test.YtpehlihbpmcofaaDoorNuMake
namespace Go.Proofs.YtpehlihbpmcofaaDoor.Nu
open Go.RowKit
set_option linter.unusedVariables false

set_option maxRecDepth 100000 in
set_option maxHeartbeats 4000000 in
theorem RP_all_n (s : ByteArray) (w : World) (hs : s.size ≤ 100) (x : UInt8) (h0 : 0 < s.size) (hx : s[0]'h0 = x) (hx1 : x.toNat ≠ 43) (hx2 : x.toNat ≠ 45) (hall : run1 s.data.toList 0 = s.data.toList.length) (hok : s.size ≤ 9) (hok1 : 1 ≤ s.size) :
    Calls Tryd.prog 36 #[.string s] w fun e w' => e = .returned (.tuple #[.agg #[.int .i64 (pbody false s.data.toList).n, .int .i64 (pbody false s.data.toList).d], .int .i64 (pbody false s.data.toList).e]) ∧ Below w.heap.size w w' := by
  have hsz := Lib.size_eq s
  have q0 : decide ((0 : Int) < (s.size : Int)) = true := decide_eq_true (by omega)
  have q1 : ((x.toNat : Int) == 43) = false := beq_eq_false_iff_ne.2 (by omega)
  have q2 : ((x.toNat : Int) == 45) = false := beq_eq_false_iff_ne.2 (by omega)
  have HA : Hid (pbody false s.data.toList = fit (val s.data.toList : Int) 1) := Lib.hid (by rw [pb_all false hall, if_pos ⟨by omega, by omega⟩]; rfl)
  have hda := tw_all (by rw [← run1_zero]; exact hall)
  have hv := val_18 hda (by omega)
  have CD := Lib.hid (fun w => digits_any s 0 w (by omega) (Nat.zero_le _))
  rw [hall, ← hsz] at CD
  have CV := Lib.hid (fun w => value_any s w (by omega) hda)
  generalize val s.data.toList = V at *
  have CF := Lib.hid (fun w => form_any (V : Int) 1 w (by omega) (by omega) (by decide))
  have e1 : IntKind.i64.wrap (1 * (V : Int)) = (V : Int) := by rw [IntWalk.i64_in _ (by omega)]; omega
  have e1' : IntKind.i64.wrap (V : Int) = (V : Int) := IntWalk.i64_in _ (by omega)
  have q3 : decide ((9 : Int) < (s.size : Int)) = false := decide_eq_false (by omega)
  have q4 : ((s.size : Int) == 0) = false := beq_eq_false_iff_ne.2 (by omega)
  have q5 : decide ((s.size : Int) < (s.size : Int)) = false := decide_eq_false (by omega)
  clear hsz hall hda hv hok hok1 hx1 hx2
  go_enter Tryd.func36, Tryd.ntmps36
  go_wp2_with fail
  refine (CD.out _).mono ?_
  rintro e w' ⟨rfl, rfl⟩
  go_wp2_with fail
  refine (CV.out _).mono ?_
  rintro e w' ⟨rfl, rfl⟩
  go_wp2_with fail
  refine (CF.out _).mono ?_
  rintro e w1 ⟨rfl, hb⟩
  obtain ⟨hc, hf⟩ := bcell hb
  have z0 := size1 hb
  have HB := Lib.hid (below1 hb)
  go_wp2
  exact bodyPost_ret (v := .tuple #[.agg #[.int .i64 (fit (V : Int) 1).n, .int .i64 (fit (V : Int) 1).d], .int .i64 (fit (V : Int) 1).e]) (by simp [results, Tryd.results36, go_sem, hc]) rfl ⟨by rw [HA.out], below_two HB.out _ _⟩
set_option maxRecDepth 100000 in
set_option maxHeartbeats 4000000 in
theorem RP_long_n (s : ByteArray) (w : World) (hs : s.size ≤ 100) (x : UInt8) (h0 : 0 < s.size) (hx : s[0]'h0 = x) (hx1 : x.toNat ≠ 43) (hx2 : x.toNat ≠ 45) (hall : run1 s.data.toList 0 = s.data.toList.length) (hbad : 9 < s.size) :
    Calls Tryd.prog 36 #[.string s] w fun e w' => e = .returned (.tuple #[.agg #[.int .i64 (pbody false s.data.toList).n, .int .i64 (pbody false s.data.toList).d], .int .i64 (pbody false s.data.toList).e]) ∧ Below w.heap.size w w' := by
  have hsz := Lib.size_eq s
  have q0 : decide ((0 : Int) < (s.size : Int)) = true := decide_eq_true (by omega)
  have q1 : ((x.toNat : Int) == 43) = false := beq_eq_false_iff_ne.2 (by omega)
  have q2 : ((x.toNat : Int) == 45) = false := beq_eq_false_iff_ne.2 (by omega)
  have HA : Hid (pbody false s.data.toList = ⟨0, 0, 1⟩) := Lib.hid (by rw [pb_all false hall, if_neg (by omega)])
  have CD := Lib.hid (fun w => digits_any s 0 w (by omega) (Nat.zero_le _))
  rw [hall, ← hsz] at CD
  have q3 : decide ((9 : Int) < (s.size : Int)) = true := decide_eq_true (by omega)
  clear hsz hall hbad hx1 hx2
  go_enter Tryd.func36, Tryd.ntmps36
  go_wp2_with fail
  refine (CD.out _).mono ?_
  rintro e w' ⟨rfl, rfl⟩
  go_wp2
  exact bodyPost_ret (v := .tuple #[.agg #[.int .i64 0, .int .i64 0], .int .i64 1]) (by simp [results, Tryd.results36, go_sem]) rfl ⟨by rw [HA.out], (Below.refl _ _).alloc (Nat.le_refl _) _⟩
set_option maxRecDepth 100000 in
set_option maxHeartbeats 4000000 in
theorem RP_else_n (s : ByteArray) (w : World) (hs : s.size ≤ 100) (x : UInt8) (h0 : 0 < s.size) (hx : s[0]'h0 = x) (hx1 : x.toNat ≠ 43) (hx2 : x.toNat ≠ 45) (I : Nat) (hI : run1 s.data.toList 0 = I) (y : UInt8) (h1 : I < s.size) (hy : s[I]'h1 = y) (hy1 : y.toNat ≠ 46) (HA : Hid (pbody false s.data.toList = ⟨0, 0, 1⟩)) :
    Calls Tryd.prog 36 #[.string s] w fun e w' => e = .returned (.tuple #[.agg #[.int .i64 (pbody false s.data.toList).n, .int .i64 (pbody false s.data.toList).d], .int .i64 (pbody false s.data.toList).e]) ∧ Below w.heap.size w w' := by
  have hsz := Lib.size_eq s
  have q0 : decide ((0 : Int) < (s.size : Int)) = true := decide_eq_true (by omega)
  have q1 : ((x.toNat : Int) == 43) = false := beq_eq_false_iff_ne.2 (by omega)
  have q2 : ((x.toNat : Int) == 45) = false := beq_eq_false_iff_ne.2 (by omega)
  have CD := Lib.hid (fun w => digits_any s 0 w (by omega) (Nat.zero_le _))
  rw [hI] at CD
  have q3 : decide ((I : Int) < (s.size : Int)) = true := decide_eq_true (by omega)
  have q4 : ((y.toNat : Int) == 46) = false := beq_eq_false_iff_ne.2 (by omega)
  have q5 : ((I : Int) == (s.size : Int)) = false := beq_eq_false_iff_ne.2 (by omega)
  clear hsz hI hy1 hx1 hx2
  go_enter Tryd.func36, Tryd.ntmps36
  go_wp2_with fail
  refine (CD.out _).mono ?_
  rintro e w' ⟨rfl, rfl⟩
  go_wp2
  exact bodyPost_ret (v := .tuple #[.agg #[.int .i64 0, .int .i64 0], .int .i64 1]) (by simp [results, Tryd.results36, go_sem]) rfl ⟨by rw [HA.out], (Below.refl _ _).alloc (Nat.le_refl _) _⟩
set_option maxRecDepth 100000 in
set_option maxHeartbeats 4000000 in
theorem RP_all_p (s : ByteArray) (w : World) (hs : s.size ≤ 100) (x : UInt8) (h0 : 0 < s.size) (hx : s[0]'h0 = x) (hx1 : x.toNat = 43) (r : ByteArray) (hr : s.extract 1 s.size = r) (hrs : r.size + 1 = s.size) (hall : run1 r.data.toList 0 = r.data.toList.length) (hok : r.size ≤ 9) (hok1 : 1 ≤ r.size) :
    Calls Tryd.prog 36 #[.string s] w fun e w' => e = .returned (.tuple #[.agg #[.int .i64 (pbody false r.data.toList).n, .int .i64 (pbody false r.data.toList).d], .int .i64 (pbody false r.data.toList).e]) ∧ Below w.heap.size w w' := by
  have hsz := Lib.size_eq r
  have q0 : decide ((0 : Int) < (s.size : Int)) = true := decide_eq_true (by omega)
  have q1 : ((x.toNat : Int) == 43) = true := beq_iff_eq.2 (by omega)
  have q2 : ((x.toNat : Int) == 45) = false := beq_eq_false_iff_ne.2 (by omega)
  have HA : Hid (pbody false r.data.toList = fit (val r.data.toList : Int) 1) := Lib.hid (by rw [pb_all false hall, if_pos ⟨by omega, by omega⟩]; rfl)
  have hda := tw_all (by rw [← run1_zero]; exact hall)
  have hv := val_18 hda (by omega)
  have CD := Lib.hid (fun w => digits_any r 0 w (by omega) (Nat.zero_le _))
  rw [hall, ← hsz] at CD
  have CV := Lib.hid (fun w => value_any r w (by omega) hda)
  generalize val r.data.toList = V at *
  have CF := Lib.hid (fun w => form_any (V : Int) 1 w (by omega) (by omega) (by decide))
  have e1 : IntKind.i64.wrap (1 * (V : Int)) = (V : Int) := by rw [IntWalk.i64_in _ (by omega)]; omega
  have e1' : IntKind.i64.wrap (V : Int) = (V : Int) := IntWalk.i64_in _ (by omega)
  have q3 : decide ((9 : Int) < (r.size : Int)) = false := decide_eq_false (by omega)
  have q4 : ((r.size : Int) == 0) = false := beq_eq_false_iff_ne.2 (by omega)
  have q5 : decide ((r.size : Int) < (r.size : Int)) = false := decide_eq_false (by omega)
  clear hsz hall hda hv hok hok1 hx1 hrs
  go_enter Tryd.func36, Tryd.ntmps36
  go_wp2_with fail
  refine (CD.out _).mono ?_
  rintro e w' ⟨rfl, rfl⟩
  go_wp2_with fail
  refine (CV.out _).mono ?_
  rintro e w' ⟨rfl, rfl⟩
  go_wp2_with fail
  refine (CF.out _).mono ?_
  rintro e w1 ⟨rfl, hb⟩
  obtain ⟨hc, hf⟩ := bcell hb
  have z0 := size1 hb
  have HB := Lib.hid (below1 hb)
  go_wp2
  exact bodyPost_ret (v := .tuple #[.agg #[.int .i64 (fit (V : Int) 1).n, .int .i64 (fit (V : Int) 1).d], .int .i64 (fit (V : Int) 1).e]) (by simp [results, Tryd.results36, go_sem, hc]) rfl ⟨by rw [HA.out], below_two HB.out _ _⟩
set_option maxRecDepth 100000 in
set_option maxHeartbeats 4000000 in
theorem RP_long_p (s : ByteArray) (w : World) (hs : s.size ≤ 100) (x : UInt8) (h0 : 0 < s.size) (hx : s[0]'h0 = x) (hx1 : x.toNat = 43) (r : ByteArray) (hr : s.extract 1 s.size = r) (hrs : r.size + 1 = s.size) (hall : run1 r.data.toList 0 = r.data.toList.length) (hbad : 9 < r.size) :
    Calls Tryd.prog 36 #[.string s] w fun e w' => e = .returned (.tuple #[.agg #[.int .i64 (pbody false r.data.toList).n, .int .i64 (pbody false r.data.toList).d], .int .i64 (pbody false r.data.toList).e]) ∧ Below w.heap.size w w' := by
  have hsz := Lib.size_eq r
  have q0 : decide ((0 : Int) < (s.size : Int)) = true := decide_eq_true (by omega)
  have q1 : ((x.toNat : Int) == 43) = true := beq_iff_eq.2 (by omega)
  have q2 : ((x.toNat : Int) == 45) = false := beq_eq_false_iff_ne.2 (by omega)
  have HA : Hid (pbody false r.data.toList = ⟨0, 0, 1⟩) := Lib.hid (by rw [pb_all false hall, if_neg (by omega)])
  have CD := Lib.hid (fun w => digits_any r 0 w (by omega) (Nat.zero_le _))
  rw [hall, ← hsz] at CD
  have q3 : decide ((9 : Int) < (r.size : Int)) = true := decide_eq_true (by omega)
  clear hsz hall hbad hx1 hrs
  go_enter Tryd.func36, Tryd.ntmps36
  go_wp2_with fail
  refine (CD.out _).mono ?_
  rintro e w' ⟨rfl, rfl⟩
  go_wp2
  exact bodyPost_ret (v := .tuple #[.agg #[.int .i64 0, .int .i64 0], .int .i64 1]) (by simp [results, Tryd.results36, go_sem]) rfl ⟨by rw [HA.out], (Below.refl _ _).alloc (Nat.le_refl _) _⟩
set_option maxRecDepth 100000 in
set_option maxHeartbeats 4000000 in
theorem RP_none_p (s : ByteArray) (w : World) (hs : s.size ≤ 100) (x : UInt8) (h0 : 0 < s.size) (hx : s[0]'h0 = x) (hx1 : x.toNat = 43) (r : ByteArray) (hr : s.extract 1 s.size = r) (hrs : r.size + 1 = s.size) (hall : run1 r.data.toList 0 = r.data.toList.length) (hbad : r.size = 0) :
    Calls Tryd.prog 36 #[.string s] w fun e w' => e = .returned (.tuple #[.agg #[.int .i64 (pbody false r.data.toList).n, .int .i64 (pbody false r.data.toList).d], .int .i64 (pbody false r.data.toList).e]) ∧ Below w.heap.size w w' := by
  have hsz := Lib.size_eq r
  have q0 : decide ((0 : Int) < (s.size : Int)) = true := decide_eq_true (by omega)
  have q1 : ((x.toNat : Int) == 43) = true := beq_iff_eq.2 (by omega)
  have q2 : ((x.toNat : Int) == 45) = false := beq_eq_false_iff_ne.2 (by omega)
  have HA : Hid (pbody false r.data.toList = ⟨0, 0, 1⟩) := Lib.hid (by rw [pb_all false hall, if_neg (by omega)])
  have CD := Lib.hid (fun w => digits_any r 0 w (by omega) (Nat.zero_le _))
  rw [hall, ← hsz] at CD
  have q3 : (r.size : Int) = 0 := by omega
  clear hsz hall hbad hx1 hrs
  go_enter Tryd.func36, Tryd.ntmps36
  go_wp2_with fail
  refine (CD.out _).mono ?_
  rintro e w' ⟨rfl, rfl⟩
  go_wp2
  exact bodyPost_ret (v := .tuple #[.agg #[.int .i64 0, .int .i64 0], .int .i64 1]) (by simp [results, Tryd.results36, go_sem]) rfl ⟨by rw [HA.out], (Below.refl _ _).alloc (Nat.le_refl _) _⟩
set_option maxRecDepth 100000 in
set_option maxHeartbeats 4000000 in
theorem RP_else_p (s : ByteArray) (w : World) (hs : s.size ≤ 100) (x : UInt8) (h0 : 0 < s.size) (hx : s[0]'h0 = x) (hx1 : x.toNat = 43) (r : ByteArray) (hr : s.extract 1 s.size = r) (hrs : r.size + 1 = s.size) (I : Nat) (hI : run1 r.data.toList 0 = I) (y : UInt8) (h1 : I < r.size) (hy : r[I]'h1 = y) (hy1 : y.toNat ≠ 46) (HA : Hid (pbody false r.data.toList = ⟨0, 0, 1⟩)) :
    Calls Tryd.prog 36 #[.string s] w fun e w' => e = .returned (.tuple #[.agg #[.int .i64 (pbody false r.data.toList).n, .int .i64 (pbody false r.data.toList).d], .int .i64 (pbody false r.data.toList).e]) ∧ Below w.heap.size w w' := by
  have hsz := Lib.size_eq r
  have q0 : decide ((0 : Int) < (s.size : Int)) = true := decide_eq_true (by omega)
  have q1 : ((x.toNat : Int) == 43) = true := beq_iff_eq.2 (by omega)
  have q2 : ((x.toNat : Int) == 45) = false := beq_eq_false_iff_ne.2 (by omega)
  have CD := Lib.hid (fun w => digits_any r 0 w (by omega) (Nat.zero_le _))
  rw [hI] at CD
  have q3 : decide ((I : Int) < (r.size : Int)) = true := decide_eq_true (by omega)
  have q4 : ((y.toNat : Int) == 46) = false := beq_eq_false_iff_ne.2 (by omega)
  have q5 : ((I : Int) == (r.size : Int)) = false := beq_eq_false_iff_ne.2 (by omega)
  clear hsz hI hy1 hx1 hrs
  go_enter Tryd.func36, Tryd.ntmps36
  go_wp2_with fail
  refine (CD.out _).mono ?_
  rintro e w' ⟨rfl, rfl⟩
  go_wp2
  exact bodyPost_ret (v := .tuple #[.agg #[.int .i64 0, .int .i64 0], .int .i64 1]) (by simp [results, Tryd.results36, go_sem]) rfl ⟨by rw [HA.out], (Below.refl _ _).alloc (Nat.le_refl _) _⟩
set_option maxRecDepth 100000 in
set_option maxHeartbeats 4000000 in
theorem RP_all_m (s : ByteArray) (w : World) (hs : s.size ≤ 100) (x : UInt8) (h0 : 0 < s.size) (hx : s[0]'h0 = x) (hx1 : x.toNat = 45) (r : ByteArray) (hr : s.extract 1 s.size = r) (hrs : r.size + 1 = s.size) (hall : run1 r.data.toList 0 = r.data.toList.length) (hok : r.size ≤ 9) (hok1 : 1 ≤ r.size) :
    Calls Tryd.prog 36 #[.string s] w fun e w' => e = .returned (.tuple #[.agg #[.int .i64 (pbody true r.data.toList).n, .int .i64 (pbody true r.data.toList).d], .int .i64 (pbody true r.data.toList).e]) ∧ Below w.heap.size w w' := by
  have hsz := Lib.size_eq r
  have q0 : decide ((0 : Int) < (s.size : Int)) = true := decide_eq_true (by omega)
  have q1 : ((x.toNat : Int) == 43) = false := beq_eq_false_iff_ne.2 (by omega)
  have q2 : ((x.toNat : Int) == 45) = true := beq_iff_eq.2 (by omega)
  have HA : Hid (pbody true r.data.toList = fit (-(val r.data.toList : Int)) 1) := Lib.hid (by rw [pb_all true hall, if_pos ⟨by omega, by omega⟩]; rfl)
  have hda := tw_all (by rw [← run1_zero]; exact hall)
  have hv := val_18 hda (by omega)
  have CD := Lib.hid (fun w => digits_any r 0 w (by omega) (Nat.zero_le _))
  rw [hall, ← hsz] at CD
  have CV := Lib.hid (fun w => value_any r w (by omega) hda)
  generalize val r.data.toList = V at *
  have CF := Lib.hid (fun w => form_any (-(V : Int)) 1 w (by omega) (by omega) (by decide))
  have e1 : IntKind.i64.wrap (-1 * (V : Int)) = -(V : Int) := by rw [IntWalk.i64_in _ (by omega)]; omega
  have e1' : IntKind.i64.wrap (-(V : Int)) = -(V : Int) := IntWalk.i64_in _ (by omega)
  have q3 : decide ((9 : Int) < (r.size : Int)) = false := decide_eq_false (by omega)
  have q4 : ((r.size : Int) == 0) = false := beq_eq_false_iff_ne.2 (by omega)
  have q5 : decide ((r.size : Int) < (r.size : Int)) = false := decide_eq_false (by omega)
  clear hsz hall hda hv hok hok1 hx1 hrs
  go_enter Tryd.func36, Tryd.ntmps36
  go_wp2_with fail
  refine (CD.out _).mono ?_
  rintro e w' ⟨rfl, rfl⟩
  go_wp2_with fail
  refine (CV.out _).mono ?_
  rintro e w' ⟨rfl, rfl⟩
  go_wp2_with fail
  refine (CF.out _).mono ?_
  rintro e w1 ⟨rfl, hb⟩
  obtain ⟨hc, hf⟩ := bcell hb
  have z0 := size1 hb
  have HB := Lib.hid (below1 hb)
  go_wp2
  exact bodyPost_ret (v := .tuple #[.agg #[.int .i64 (fit (-(V : Int)) 1).n, .int .i64 (fit (-(V : Int)) 1).d], .int .i64 (fit (-(V : Int)) 1).e]) (by simp [results, Tryd.results36, go_sem, hc]) rfl ⟨by rw [HA.out], below_two HB.out _ _⟩
set_option maxRecDepth 100000 in
set_option maxHeartbeats 4000000 in
theorem RP_long_m (s : ByteArray) (w : World) (hs : s.size ≤ 100) (x : UInt8) (h0 : 0 < s.size) (hx : s[0]'h0 = x) (hx1 : x.toNat = 45) (r : ByteArray) (hr : s.extract 1 s.size = r) (hrs : r.size + 1 = s.size) (hall : run1 r.data.toList 0 = r.data.toList.length) (hbad : 9 < r.size) :
    Calls Tryd.prog 36 #[.string s] w fun e w' => e = .returned (.tuple #[.agg #[.int .i64 (pbody true r.data.toList).n, .int .i64 (pbody true r.data.toList).d], .int .i64 (pbody true r.data.toList).e]) ∧ Below w.heap.size w w' := by
  have hsz := Lib.size_eq r
  have q0 : decide ((0 : Int) < (s.size : Int)) = true := decide_eq_true (by omega)
  have q1 : ((x.toNat : Int) == 43) = false := beq_eq_false_iff_ne.2 (by omega)
  have q2 : ((x.toNat : Int) == 45) = true := beq_iff_eq.2 (by omega)
  have HA : Hid (pbody true r.data.toList = ⟨0, 0, 1⟩) := Lib.hid (by rw [pb_all true hall, if_neg (by omega)])
  have CD := Lib.hid (fun w => digits_any r 0 w (by omega) (Nat.zero_le _))
  rw [hall, ← hsz] at CD
  have q3 : decide ((9 : Int) < (r.size : Int)) = true := decide_eq_true (by omega)
  clear hsz hall hbad hx1 hrs
  go_enter Tryd.func36, Tryd.ntmps36
  go_wp2_with fail
  refine (CD.out _).mono ?_
  rintro e w' ⟨rfl, rfl⟩
  go_wp2
  exact bodyPost_ret (v := .tuple #[.agg #[.int .i64 0, .int .i64 0], .int .i64 1]) (by simp [results, Tryd.results36, go_sem]) rfl ⟨by rw [HA.out], (Below.refl _ _).alloc (Nat.le_refl _) _⟩
set_option maxRecDepth 100000 in
set_option maxHeartbeats 4000000 in
theorem RP_none_m (s : ByteArray) (w : World) (hs : s.size ≤ 100) (x : UInt8) (h0 : 0 < s.size) (hx : s[0]'h0 = x) (hx1 : x.toNat = 45) (r : ByteArray) (hr : s.extract 1 s.size = r) (hrs : r.size + 1 = s.size) (hall : run1 r.data.toList 0 = r.data.toList.length) (hbad : r.size = 0) :
    Calls Tryd.prog 36 #[.string s] w fun e w' => e = .returned (.tuple #[.agg #[.int .i64 (pbody true r.data.toList).n, .int .i64 (pbody true r.data.toList).d], .int .i64 (pbody true r.data.toList).e]) ∧ Below w.heap.size w w' := by
  have hsz := Lib.size_eq r
  have q0 : decide ((0 : Int) < (s.size : Int)) = true := decide_eq_true (by omega)
  have q1 : ((x.toNat : Int) == 43) = false := beq_eq_false_iff_ne.2 (by omega)
  have q2 : ((x.toNat : Int) == 45) = true := beq_iff_eq.2 (by omega)
  have HA : Hid (pbody true r.data.toList = ⟨0, 0, 1⟩) := Lib.hid (by rw [pb_all true hall, if_neg (by omega)])
  have CD := Lib.hid (fun w => digits_any r 0 w (by omega) (Nat.zero_le _))
  rw [hall, ← hsz] at CD
  have q3 : (r.size : Int) = 0 := by omega
  clear hsz hall hbad hx1 hrs
  go_enter Tryd.func36, Tryd.ntmps36
  go_wp2_with fail
  refine (CD.out _).mono ?_
  rintro e w' ⟨rfl, rfl⟩
  go_wp2
  exact bodyPost_ret (v := .tuple #[.agg #[.int .i64 0, .int .i64 0], .int .i64 1]) (by simp [results, Tryd.results36, go_sem]) rfl ⟨by rw [HA.out], (Below.refl _ _).alloc (Nat.le_refl _) _⟩
set_option maxRecDepth 100000 in
set_option maxHeartbeats 4000000 in
theorem RP_else_m (s : ByteArray) (w : World) (hs : s.size ≤ 100) (x : UInt8) (h0 : 0 < s.size) (hx : s[0]'h0 = x) (hx1 : x.toNat = 45) (r : ByteArray) (hr : s.extract 1 s.size = r) (hrs : r.size + 1 = s.size) (I : Nat) (hI : run1 r.data.toList 0 = I) (y : UInt8) (h1 : I < r.size) (hy : r[I]'h1 = y) (hy1 : y.toNat ≠ 46) (HA : Hid (pbody true r.data.toList = ⟨0, 0, 1⟩)) :
    Calls Tryd.prog 36 #[.string s] w fun e w' => e = .returned (.tuple #[.agg #[.int .i64 (pbody true r.data.toList).n, .int .i64 (pbody true r.data.toList).d], .int .i64 (pbody true r.data.toList).e]) ∧ Below w.heap.size w w' := by
  have hsz := Lib.size_eq r
  have q0 : decide ((0 : Int) < (s.size : Int)) = true := decide_eq_true (by omega)
  have q1 : ((x.toNat : Int) == 43) = false := beq_eq_false_iff_ne.2 (by omega)
  have q2 : ((x.toNat : Int) == 45) = true := beq_iff_eq.2 (by omega)
  have CD := Lib.hid (fun w => digits_any r 0 w (by omega) (Nat.zero_le _))
  rw [hI] at CD
  have q3 : decide ((I : Int) < (r.size : Int)) = true := decide_eq_true (by omega)
  have q4 : ((y.toNat : Int) == 46) = false := beq_eq_false_iff_ne.2 (by omega)
  have q5 : ((I : Int) == (r.size : Int)) = false := beq_eq_false_iff_ne.2 (by omega)
  clear hsz hI hy1 hx1 hrs
  go_enter Tryd.func36, Tryd.ntmps36
  go_wp2_with fail
  refine (CD.out _).mono ?_
  rintro e w' ⟨rfl, rfl⟩
  go_wp2
  exact bodyPost_ret (v := .tuple #[.agg #[.int .i64 0, .int .i64 0], .int .i64 1]) (by simp [results, Tryd.results36, go_sem]) rfl ⟨by rw [HA.out], (Below.refl _ _).alloc (Nat.le_refl _) _⟩
end Go.Proofs.YtpehlihbpmcofaaDoor.Nu
