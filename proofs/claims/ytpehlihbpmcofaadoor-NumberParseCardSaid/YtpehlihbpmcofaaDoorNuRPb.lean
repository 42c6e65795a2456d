/-
  The contract of the reference's Parse: texts with a point.
-/
import Derived.Test.YtpehlihbpmcofaaDoorNuRPl
import Derived.Test.YtpehlihbpmcofaaDoorNuRPa
import Derived.Deep.RegionWith
import Derived.Test.YtpehlihbpmcofaaDoorNuForm
import Derived.Test.YtpehlihbpmcofaaDoorNuMake
namespace Go.Proofs.YtpehlihbpmcofaaDoor.Nu
open Go.RowKit
set_option linter.unusedVariables false

set_option maxRecDepth 100000 in
set_option maxHeartbeats 4000000 in
theorem RP_pk_n (s : ByteArray) (w : World) (hs : s.size ≤ 100) (x : UInt8) (h0 : 0 < s.size) (hx : s[0]'h0 = x) (hx1 : x.toNat ≠ 43) (hx2 : x.toNat ≠ 45) (I K : Nat) (hI : run1 s.data.toList 0 = I) (y : UInt8) (h1 : I < s.size) (hy : s[I]'h1 = y) (hy1 : y.toNat = 46) (hK : run1 s.data.toList (I + 1) = K) (hKb : K ≠ s.size) (HA : Hid (pbody false s.data.toList = ⟨0, 0, 1⟩)) :
    Calls Tryd.prog 36 #[.string s] w fun e w' => e = .returned (.tuple #[.agg #[.int .i64 (pbody false s.data.toList).n, .int .i64 (pbody false s.data.toList).d], .int .i64 (pbody false s.data.toList).e]) ∧ Below w.heap.size w w' := by
  have hsz := Lib.size_eq s
  have q0 : decide ((0 : Int) < (s.size : Int)) = true := decide_eq_true (by omega)
  have q1 : ((x.toNat : Int) == 43) = false := beq_eq_false_iff_ne.2 (by omega)
  have q2 : ((x.toNat : Int) == 45) = false := beq_eq_false_iff_ne.2 (by omega)
  have CD := Lib.hid (fun w => digits_any s 0 w (by omega) (Nat.zero_le _))
  rw [hI] at CD
  have cd2 := fun w => digits_any s (I + 1) w (by omega) (by omega)
  rw [hK, Int.natCast_succ] at cd2
  have CD2 := Lib.hid cd2
  have eI : IntKind.i64.wrap ((I : Int) + 1) = (I : Int) + 1 := IntWalk.i64_in _ (by omega)
  have q3 : decide ((I : Int) < (s.size : Int)) = true := decide_eq_true (by omega)
  have q4 : ((y.toNat : Int) == 46) = true := beq_iff_eq.2 (by omega)
  have q5 : ((K : Int) == (s.size : Int)) = false := beq_eq_false_iff_ne.2 (by omega)
  have q6 : ((K : Int) != (s.size : Int)) = true := by rw [bne, q5]; rfl
  have q8 : ¬ (K : Int) = (s.size : Int) := by omega
  clear hKb
  clear hsz hI hK cd2 hy1 hx1 hx2
  go_enter Tryd.func36, Tryd.ntmps36
  go_wp2_with fail
  refine (CD.out _).mono ?_
  rintro e w' ⟨rfl, rfl⟩
  go_wp2_with fail
  refine (CD2.out _).mono ?_
  rintro e w' ⟨rfl, rfl⟩
  go_wp2
  exact bodyPost_ret (v := .tuple #[.agg #[.int .i64 0, .int .i64 0], .int .i64 1]) (by simp [results, Tryd.results36, go_sem]) rfl ⟨by rw [HA.out], (Below.refl _ _).alloc (Nat.le_refl _) _⟩
set_option maxRecDepth 100000 in
set_option maxHeartbeats 4000000 in
theorem RP_pi_n (s : ByteArray) (w : World) (hs : s.size ≤ 100) (x : UInt8) (h0 : 0 < s.size) (hx : s[0]'h0 = x) (hx1 : x.toNat ≠ 43) (hx2 : x.toNat ≠ 45) (I K : Nat) (hI : run1 s.data.toList 0 = I) (y : UInt8) (h1 : I < s.size) (hy : s[I]'h1 = y) (hy1 : y.toNat = 46) (hK : run1 s.data.toList (I + 1) = s.size) (hb : 9 < I) (HA : Hid (pbody false s.data.toList = ⟨0, 0, 1⟩)) :
    Calls Tryd.prog 36 #[.string s] w fun e w' => e = .returned (.tuple #[.agg #[.int .i64 (pbody false s.data.toList).n, .int .i64 (pbody false s.data.toList).d], .int .i64 (pbody false s.data.toList).e]) ∧ Below w.heap.size w w' := by
  have hsz := Lib.size_eq s
  have q0 : decide ((0 : Int) < (s.size : Int)) = true := decide_eq_true (by omega)
  have q1 : ((x.toNat : Int) == 43) = false := beq_eq_false_iff_ne.2 (by omega)
  have q2 : ((x.toNat : Int) == 45) = false := beq_eq_false_iff_ne.2 (by omega)
  have CD := Lib.hid (fun w => digits_any s 0 w (by omega) (Nat.zero_le _))
  rw [hI] at CD
  have cd2 := fun w => digits_any s (I + 1) w (by omega) (by omega)
  rw [hK, Int.natCast_succ] at cd2
  have CD2 := Lib.hid cd2
  have eI : IntKind.i64.wrap ((I : Int) + 1) = (I : Int) + 1 := IntWalk.i64_in _ (by omega)
  have q3 : decide ((I : Int) < (s.size : Int)) = true := decide_eq_true (by omega)
  have q4 : ((y.toNat : Int) == 46) = true := beq_iff_eq.2 (by omega)
  have q5 : decide ((9 : Int) < (I : Int)) = true := decide_eq_true (by omega)
  clear hb
  clear hsz hI hK cd2 hy1 hx1 hx2
  go_enter Tryd.func36, Tryd.ntmps36
  go_wp2_with fail
  refine (CD.out _).mono ?_
  rintro e w' ⟨rfl, rfl⟩
  go_wp2_with fail
  refine (CD2.out _).mono ?_
  rintro e w' ⟨rfl, rfl⟩
  go_wp2
  exact bodyPost_ret (v := .tuple #[.agg #[.int .i64 0, .int .i64 0], .int .i64 1]) (by simp [results, Tryd.results36, go_sem]) rfl ⟨by rw [HA.out], (Below.refl _ _).alloc (Nat.le_refl _) _⟩
set_option maxRecDepth 100000 in
set_option maxHeartbeats 4000000 in
theorem RP_p0_n (s : ByteArray) (w : World) (hs : s.size ≤ 100) (x : UInt8) (h0 : 0 < s.size) (hx : s[0]'h0 = x) (hx1 : x.toNat ≠ 43) (hx2 : x.toNat ≠ 45) (I K : Nat) (hI : run1 s.data.toList 0 = I) (y : UInt8) (h1 : I < s.size) (hy : s[I]'h1 = y) (hy1 : y.toNat = 46) (hK : run1 s.data.toList (I + 1) = s.size) (hb : I ≤ 9) (hm : s.size = I + 1) (HA : Hid (pbody false s.data.toList = ⟨0, 0, 1⟩)) :
    Calls Tryd.prog 36 #[.string s] w fun e w' => e = .returned (.tuple #[.agg #[.int .i64 (pbody false s.data.toList).n, .int .i64 (pbody false s.data.toList).d], .int .i64 (pbody false s.data.toList).e]) ∧ Below w.heap.size w w' := by
  have hsz := Lib.size_eq s
  have q0 : decide ((0 : Int) < (s.size : Int)) = true := decide_eq_true (by omega)
  have q1 : ((x.toNat : Int) == 43) = false := beq_eq_false_iff_ne.2 (by omega)
  have q2 : ((x.toNat : Int) == 45) = false := beq_eq_false_iff_ne.2 (by omega)
  have CD := Lib.hid (fun w => digits_any s 0 w (by omega) (Nat.zero_le _))
  rw [hI] at CD
  have cd2 := fun w => digits_any s (I + 1) w (by omega) (by omega)
  rw [hK, Int.natCast_succ] at cd2
  have CD2 := Lib.hid cd2
  have eI : IntKind.i64.wrap ((I : Int) + 1) = (I : Int) + 1 := IntWalk.i64_in _ (by omega)
  have q3 : decide ((I : Int) < (s.size : Int)) = true := decide_eq_true (by omega)
  have q4 : ((y.toNat : Int) == 46) = true := beq_iff_eq.2 (by omega)
  have q5 : decide ((9 : Int) < (I : Int)) = false := decide_eq_false (by omega)
  have s1 : IntKind.i64.wrap ((s.size : Int) - (I : Int)) = (s.size : Int) - (I : Int) := IntWalk.i64_in _ (by omega)
  have s2 : IntKind.i64.wrap ((s.size : Int) - (I : Int) - 1) = 0 := by rw [IntWalk.i64_in _ (by omega)]; omega
  clear hb hm
  clear hsz hI hK cd2 hy1 hx1 hx2
  go_enter Tryd.func36, Tryd.ntmps36
  go_wp2_with fail
  refine (CD.out _).mono ?_
  rintro e w' ⟨rfl, rfl⟩
  go_wp2_with fail
  refine (CD2.out _).mono ?_
  rintro e w' ⟨rfl, rfl⟩
  go_wp2
  exact bodyPost_ret (v := .tuple #[.agg #[.int .i64 0, .int .i64 0], .int .i64 1]) (by simp [results, Tryd.results36, go_sem]) rfl ⟨by rw [HA.out], (Below.refl _ _).alloc (Nat.le_refl _) _⟩
set_option maxRecDepth 100000 in
set_option maxHeartbeats 4000000 in
theorem RP_p9_n (s : ByteArray) (w : World) (hs : s.size ≤ 100) (x : UInt8) (h0 : 0 < s.size) (hx : s[0]'h0 = x) (hx1 : x.toNat ≠ 43) (hx2 : x.toNat ≠ 45) (I K : Nat) (hI : run1 s.data.toList 0 = I) (y : UInt8) (h1 : I < s.size) (hy : s[I]'h1 = y) (hy1 : y.toNat = 46) (hK : run1 s.data.toList (I + 1) = s.size) (hb : I ≤ 9) (hm : s.size = I + 1 + K) (hm9 : 9 < K) (HA : Hid (pbody false s.data.toList = ⟨0, 0, 1⟩)) :
    Calls Tryd.prog 36 #[.string s] w fun e w' => e = .returned (.tuple #[.agg #[.int .i64 (pbody false s.data.toList).n, .int .i64 (pbody false s.data.toList).d], .int .i64 (pbody false s.data.toList).e]) ∧ Below w.heap.size w w' := by
  have hsz := Lib.size_eq s
  have q0 : decide ((0 : Int) < (s.size : Int)) = true := decide_eq_true (by omega)
  have q1 : ((x.toNat : Int) == 43) = false := beq_eq_false_iff_ne.2 (by omega)
  have q2 : ((x.toNat : Int) == 45) = false := beq_eq_false_iff_ne.2 (by omega)
  have CD := Lib.hid (fun w => digits_any s 0 w (by omega) (Nat.zero_le _))
  rw [hI] at CD
  have cd2 := fun w => digits_any s (I + 1) w (by omega) (by omega)
  rw [hK, Int.natCast_succ] at cd2
  have CD2 := Lib.hid cd2
  have eI : IntKind.i64.wrap ((I : Int) + 1) = (I : Int) + 1 := IntWalk.i64_in _ (by omega)
  have q3 : decide ((I : Int) < (s.size : Int)) = true := decide_eq_true (by omega)
  have q4 : ((y.toNat : Int) == 46) = true := beq_iff_eq.2 (by omega)
  have q5 : decide ((9 : Int) < (I : Int)) = false := decide_eq_false (by omega)
  have s1 : IntKind.i64.wrap ((s.size : Int) - (I : Int)) = (s.size : Int) - (I : Int) := IntWalk.i64_in _ (by omega)
  have s2 : IntKind.i64.wrap ((s.size : Int) - (I : Int) - 1) = (K : Int) := by rw [IntWalk.i64_in _ (by omega)]; omega
  have q6 : decide ((K : Int) < 1) = false := decide_eq_false (by omega)
  have q7 : decide ((9 : Int) < (K : Int)) = true := decide_eq_true (by omega)
  clear hm9
  clear hb hm
  clear hsz hI hK cd2 hy1 hx1 hx2
  go_enter Tryd.func36, Tryd.ntmps36
  go_wp2_with fail
  refine (CD.out _).mono ?_
  rintro e w' ⟨rfl, rfl⟩
  go_wp2_with fail
  refine (CD2.out _).mono ?_
  rintro e w' ⟨rfl, rfl⟩
  go_wp2
  exact bodyPost_ret (v := .tuple #[.agg #[.int .i64 0, .int .i64 0], .int .i64 1]) (by simp [results, Tryd.results36, go_sem]) rfl ⟨by rw [HA.out], (Below.refl _ _).alloc (Nat.le_refl _) _⟩
set_option maxRecDepth 100000 in
set_option maxHeartbeats 4000000 in
theorem RP_pk_p (s : ByteArray) (w : World) (hs : s.size ≤ 100) (x : UInt8) (h0 : 0 < s.size) (hx : s[0]'h0 = x) (hx1 : x.toNat = 43) (r : ByteArray) (hr : s.extract 1 s.size = r) (hrs : r.size + 1 = s.size) (I K : Nat) (hI : run1 r.data.toList 0 = I) (y : UInt8) (h1 : I < r.size) (hy : r[I]'h1 = y) (hy1 : y.toNat = 46) (hK : run1 r.data.toList (I + 1) = K) (hKb : K ≠ r.size) (HA : Hid (pbody false r.data.toList = ⟨0, 0, 1⟩)) :
    Calls Tryd.prog 36 #[.string s] w fun e w' => e = .returned (.tuple #[.agg #[.int .i64 (pbody false r.data.toList).n, .int .i64 (pbody false r.data.toList).d], .int .i64 (pbody false r.data.toList).e]) ∧ Below w.heap.size w w' := by
  have hsz := Lib.size_eq r
  have q0 : decide ((0 : Int) < (s.size : Int)) = true := decide_eq_true (by omega)
  have q1 : ((x.toNat : Int) == 43) = true := beq_iff_eq.2 (by omega)
  have q2 : ((x.toNat : Int) == 45) = false := beq_eq_false_iff_ne.2 (by omega)
  have CD := Lib.hid (fun w => digits_any r 0 w (by omega) (Nat.zero_le _))
  rw [hI] at CD
  have cd2 := fun w => digits_any r (I + 1) w (by omega) (by omega)
  rw [hK, Int.natCast_succ] at cd2
  have CD2 := Lib.hid cd2
  have eI : IntKind.i64.wrap ((I : Int) + 1) = (I : Int) + 1 := IntWalk.i64_in _ (by omega)
  have q3 : decide ((I : Int) < (r.size : Int)) = true := decide_eq_true (by omega)
  have q4 : ((y.toNat : Int) == 46) = true := beq_iff_eq.2 (by omega)
  have q5 : ((K : Int) == (r.size : Int)) = false := beq_eq_false_iff_ne.2 (by omega)
  have q6 : ((K : Int) != (r.size : Int)) = true := by rw [bne, q5]; rfl
  have q8 : ¬ (K : Int) = (r.size : Int) := by omega
  clear hKb
  clear hsz hI hK cd2 hy1 hx1 hrs
  go_enter Tryd.func36, Tryd.ntmps36
  go_wp2_with fail
  refine (CD.out _).mono ?_
  rintro e w' ⟨rfl, rfl⟩
  go_wp2_with fail
  refine (CD2.out _).mono ?_
  rintro e w' ⟨rfl, rfl⟩
  go_wp2
  exact bodyPost_ret (v := .tuple #[.agg #[.int .i64 0, .int .i64 0], .int .i64 1]) (by simp [results, Tryd.results36, go_sem]) rfl ⟨by rw [HA.out], (Below.refl _ _).alloc (Nat.le_refl _) _⟩
set_option maxRecDepth 100000 in
set_option maxHeartbeats 4000000 in
theorem RP_pi_p (s : ByteArray) (w : World) (hs : s.size ≤ 100) (x : UInt8) (h0 : 0 < s.size) (hx : s[0]'h0 = x) (hx1 : x.toNat = 43) (r : ByteArray) (hr : s.extract 1 s.size = r) (hrs : r.size + 1 = s.size) (I K : Nat) (hI : run1 r.data.toList 0 = I) (y : UInt8) (h1 : I < r.size) (hy : r[I]'h1 = y) (hy1 : y.toNat = 46) (hK : run1 r.data.toList (I + 1) = r.size) (hb : 9 < I) (HA : Hid (pbody false r.data.toList = ⟨0, 0, 1⟩)) :
    Calls Tryd.prog 36 #[.string s] w fun e w' => e = .returned (.tuple #[.agg #[.int .i64 (pbody false r.data.toList).n, .int .i64 (pbody false r.data.toList).d], .int .i64 (pbody false r.data.toList).e]) ∧ Below w.heap.size w w' := by
  have hsz := Lib.size_eq r
  have q0 : decide ((0 : Int) < (s.size : Int)) = true := decide_eq_true (by omega)
  have q1 : ((x.toNat : Int) == 43) = true := beq_iff_eq.2 (by omega)
  have q2 : ((x.toNat : Int) == 45) = false := beq_eq_false_iff_ne.2 (by omega)
  have CD := Lib.hid (fun w => digits_any r 0 w (by omega) (Nat.zero_le _))
  rw [hI] at CD
  have cd2 := fun w => digits_any r (I + 1) w (by omega) (by omega)
  rw [hK, Int.natCast_succ] at cd2
  have CD2 := Lib.hid cd2
  have eI : IntKind.i64.wrap ((I : Int) + 1) = (I : Int) + 1 := IntWalk.i64_in _ (by omega)
  have q3 : decide ((I : Int) < (r.size : Int)) = true := decide_eq_true (by omega)
  have q4 : ((y.toNat : Int) == 46) = true := beq_iff_eq.2 (by omega)
  have q5 : decide ((9 : Int) < (I : Int)) = true := decide_eq_true (by omega)
  clear hb
  clear hsz hI hK cd2 hy1 hx1 hrs
  go_enter Tryd.func36, Tryd.ntmps36
  go_wp2_with fail
  refine (CD.out _).mono ?_
  rintro e w' ⟨rfl, rfl⟩
  go_wp2_with fail
  refine (CD2.out _).mono ?_
  rintro e w' ⟨rfl, rfl⟩
  go_wp2
  exact bodyPost_ret (v := .tuple #[.agg #[.int .i64 0, .int .i64 0], .int .i64 1]) (by simp [results, Tryd.results36, go_sem]) rfl ⟨by rw [HA.out], (Below.refl _ _).alloc (Nat.le_refl _) _⟩
set_option maxRecDepth 100000 in
set_option maxHeartbeats 4000000 in
theorem RP_p0_p (s : ByteArray) (w : World) (hs : s.size ≤ 100) (x : UInt8) (h0 : 0 < s.size) (hx : s[0]'h0 = x) (hx1 : x.toNat = 43) (r : ByteArray) (hr : s.extract 1 s.size = r) (hrs : r.size + 1 = s.size) (I K : Nat) (hI : run1 r.data.toList 0 = I) (y : UInt8) (h1 : I < r.size) (hy : r[I]'h1 = y) (hy1 : y.toNat = 46) (hK : run1 r.data.toList (I + 1) = r.size) (hb : I ≤ 9) (hm : r.size = I + 1) (HA : Hid (pbody false r.data.toList = ⟨0, 0, 1⟩)) :
    Calls Tryd.prog 36 #[.string s] w fun e w' => e = .returned (.tuple #[.agg #[.int .i64 (pbody false r.data.toList).n, .int .i64 (pbody false r.data.toList).d], .int .i64 (pbody false r.data.toList).e]) ∧ Below w.heap.size w w' := by
  have hsz := Lib.size_eq r
  have q0 : decide ((0 : Int) < (s.size : Int)) = true := decide_eq_true (by omega)
  have q1 : ((x.toNat : Int) == 43) = true := beq_iff_eq.2 (by omega)
  have q2 : ((x.toNat : Int) == 45) = false := beq_eq_false_iff_ne.2 (by omega)
  have CD := Lib.hid (fun w => digits_any r 0 w (by omega) (Nat.zero_le _))
  rw [hI] at CD
  have cd2 := fun w => digits_any r (I + 1) w (by omega) (by omega)
  rw [hK, Int.natCast_succ] at cd2
  have CD2 := Lib.hid cd2
  have eI : IntKind.i64.wrap ((I : Int) + 1) = (I : Int) + 1 := IntWalk.i64_in _ (by omega)
  have q3 : decide ((I : Int) < (r.size : Int)) = true := decide_eq_true (by omega)
  have q4 : ((y.toNat : Int) == 46) = true := beq_iff_eq.2 (by omega)
  have q5 : decide ((9 : Int) < (I : Int)) = false := decide_eq_false (by omega)
  have s1 : IntKind.i64.wrap ((r.size : Int) - (I : Int)) = (r.size : Int) - (I : Int) := IntWalk.i64_in _ (by omega)
  have s2 : IntKind.i64.wrap ((r.size : Int) - (I : Int) - 1) = 0 := by rw [IntWalk.i64_in _ (by omega)]; omega
  clear hb hm
  clear hsz hI hK cd2 hy1 hx1 hrs
  go_enter Tryd.func36, Tryd.ntmps36
  go_wp2_with fail
  refine (CD.out _).mono ?_
  rintro e w' ⟨rfl, rfl⟩
  go_wp2_with fail
  refine (CD2.out _).mono ?_
  rintro e w' ⟨rfl, rfl⟩
  go_wp2
  exact bodyPost_ret (v := .tuple #[.agg #[.int .i64 0, .int .i64 0], .int .i64 1]) (by simp [results, Tryd.results36, go_sem]) rfl ⟨by rw [HA.out], (Below.refl _ _).alloc (Nat.le_refl _) _⟩
set_option maxRecDepth 100000 in
set_option maxHeartbeats 4000000 in
theorem RP_p9_p (s : ByteArray) (w : World) (hs : s.size ≤ 100) (x : UInt8) (h0 : 0 < s.size) (hx : s[0]'h0 = x) (hx1 : x.toNat = 43) (r : ByteArray) (hr : s.extract 1 s.size = r) (hrs : r.size + 1 = s.size) (I K : Nat) (hI : run1 r.data.toList 0 = I) (y : UInt8) (h1 : I < r.size) (hy : r[I]'h1 = y) (hy1 : y.toNat = 46) (hK : run1 r.data.toList (I + 1) = r.size) (hb : I ≤ 9) (hm : r.size = I + 1 + K) (hm9 : 9 < K) (HA : Hid (pbody false r.data.toList = ⟨0, 0, 1⟩)) :
    Calls Tryd.prog 36 #[.string s] w fun e w' => e = .returned (.tuple #[.agg #[.int .i64 (pbody false r.data.toList).n, .int .i64 (pbody false r.data.toList).d], .int .i64 (pbody false r.data.toList).e]) ∧ Below w.heap.size w w' := by
  have hsz := Lib.size_eq r
  have q0 : decide ((0 : Int) < (s.size : Int)) = true := decide_eq_true (by omega)
  have q1 : ((x.toNat : Int) == 43) = true := beq_iff_eq.2 (by omega)
  have q2 : ((x.toNat : Int) == 45) = false := beq_eq_false_iff_ne.2 (by omega)
  have CD := Lib.hid (fun w => digits_any r 0 w (by omega) (Nat.zero_le _))
  rw [hI] at CD
  have cd2 := fun w => digits_any r (I + 1) w (by omega) (by omega)
  rw [hK, Int.natCast_succ] at cd2
  have CD2 := Lib.hid cd2
  have eI : IntKind.i64.wrap ((I : Int) + 1) = (I : Int) + 1 := IntWalk.i64_in _ (by omega)
  have q3 : decide ((I : Int) < (r.size : Int)) = true := decide_eq_true (by omega)
  have q4 : ((y.toNat : Int) == 46) = true := beq_iff_eq.2 (by omega)
  have q5 : decide ((9 : Int) < (I : Int)) = false := decide_eq_false (by omega)
  have s1 : IntKind.i64.wrap ((r.size : Int) - (I : Int)) = (r.size : Int) - (I : Int) := IntWalk.i64_in _ (by omega)
  have s2 : IntKind.i64.wrap ((r.size : Int) - (I : Int) - 1) = (K : Int) := by rw [IntWalk.i64_in _ (by omega)]; omega
  have q6 : decide ((K : Int) < 1) = false := decide_eq_false (by omega)
  have q7 : decide ((9 : Int) < (K : Int)) = true := decide_eq_true (by omega)
  clear hm9
  clear hb hm
  clear hsz hI hK cd2 hy1 hx1 hrs
  go_enter Tryd.func36, Tryd.ntmps36
  go_wp2_with fail
  refine (CD.out _).mono ?_
  rintro e w' ⟨rfl, rfl⟩
  go_wp2_with fail
  refine (CD2.out _).mono ?_
  rintro e w' ⟨rfl, rfl⟩
  go_wp2
  exact bodyPost_ret (v := .tuple #[.agg #[.int .i64 0, .int .i64 0], .int .i64 1]) (by simp [results, Tryd.results36, go_sem]) rfl ⟨by rw [HA.out], (Below.refl _ _).alloc (Nat.le_refl _) _⟩
set_option maxRecDepth 100000 in
set_option maxHeartbeats 4000000 in
theorem RP_pk_m (s : ByteArray) (w : World) (hs : s.size ≤ 100) (x : UInt8) (h0 : 0 < s.size) (hx : s[0]'h0 = x) (hx1 : x.toNat = 45) (r : ByteArray) (hr : s.extract 1 s.size = r) (hrs : r.size + 1 = s.size) (I K : Nat) (hI : run1 r.data.toList 0 = I) (y : UInt8) (h1 : I < r.size) (hy : r[I]'h1 = y) (hy1 : y.toNat = 46) (hK : run1 r.data.toList (I + 1) = K) (hKb : K ≠ r.size) (HA : Hid (pbody true r.data.toList = ⟨0, 0, 1⟩)) :
    Calls Tryd.prog 36 #[.string s] w fun e w' => e = .returned (.tuple #[.agg #[.int .i64 (pbody true r.data.toList).n, .int .i64 (pbody true r.data.toList).d], .int .i64 (pbody true r.data.toList).e]) ∧ Below w.heap.size w w' := by
  have hsz := Lib.size_eq r
  have q0 : decide ((0 : Int) < (s.size : Int)) = true := decide_eq_true (by omega)
  have q1 : ((x.toNat : Int) == 43) = false := beq_eq_false_iff_ne.2 (by omega)
  have q2 : ((x.toNat : Int) == 45) = true := beq_iff_eq.2 (by omega)
  have CD := Lib.hid (fun w => digits_any r 0 w (by omega) (Nat.zero_le _))
  rw [hI] at CD
  have cd2 := fun w => digits_any r (I + 1) w (by omega) (by omega)
  rw [hK, Int.natCast_succ] at cd2
  have CD2 := Lib.hid cd2
  have eI : IntKind.i64.wrap ((I : Int) + 1) = (I : Int) + 1 := IntWalk.i64_in _ (by omega)
  have q3 : decide ((I : Int) < (r.size : Int)) = true := decide_eq_true (by omega)
  have q4 : ((y.toNat : Int) == 46) = true := beq_iff_eq.2 (by omega)
  have q5 : ((K : Int) == (r.size : Int)) = false := beq_eq_false_iff_ne.2 (by omega)
  have q6 : ((K : Int) != (r.size : Int)) = true := by rw [bne, q5]; rfl
  have q8 : ¬ (K : Int) = (r.size : Int) := by omega
  clear hKb
  clear hsz hI hK cd2 hy1 hx1 hrs
  go_enter Tryd.func36, Tryd.ntmps36
  go_wp2_with fail
  refine (CD.out _).mono ?_
  rintro e w' ⟨rfl, rfl⟩
  go_wp2_with fail
  refine (CD2.out _).mono ?_
  rintro e w' ⟨rfl, rfl⟩
  go_wp2
  exact bodyPost_ret (v := .tuple #[.agg #[.int .i64 0, .int .i64 0], .int .i64 1]) (by simp [results, Tryd.results36, go_sem]) rfl ⟨by rw [HA.out], (Below.refl _ _).alloc (Nat.le_refl _) _⟩
set_option maxRecDepth 100000 in
set_option maxHeartbeats 4000000 in
theorem RP_pi_m (s : ByteArray) (w : World) (hs : s.size ≤ 100) (x : UInt8) (h0 : 0 < s.size) (hx : s[0]'h0 = x) (hx1 : x.toNat = 45) (r : ByteArray) (hr : s.extract 1 s.size = r) (hrs : r.size + 1 = s.size) (I K : Nat) (hI : run1 r.data.toList 0 = I) (y : UInt8) (h1 : I < r.size) (hy : r[I]'h1 = y) (hy1 : y.toNat = 46) (hK : run1 r.data.toList (I + 1) = r.size) (hb : 9 < I) (HA : Hid (pbody true r.data.toList = ⟨0, 0, 1⟩)) :
    Calls Tryd.prog 36 #[.string s] w fun e w' => e = .returned (.tuple #[.agg #[.int .i64 (pbody true r.data.toList).n, .int .i64 (pbody true r.data.toList).d], .int .i64 (pbody true r.data.toList).e]) ∧ Below w.heap.size w w' := by
  have hsz := Lib.size_eq r
  have q0 : decide ((0 : Int) < (s.size : Int)) = true := decide_eq_true (by omega)
  have q1 : ((x.toNat : Int) == 43) = false := beq_eq_false_iff_ne.2 (by omega)
  have q2 : ((x.toNat : Int) == 45) = true := beq_iff_eq.2 (by omega)
  have CD := Lib.hid (fun w => digits_any r 0 w (by omega) (Nat.zero_le _))
  rw [hI] at CD
  have cd2 := fun w => digits_any r (I + 1) w (by omega) (by omega)
  rw [hK, Int.natCast_succ] at cd2
  have CD2 := Lib.hid cd2
  have eI : IntKind.i64.wrap ((I : Int) + 1) = (I : Int) + 1 := IntWalk.i64_in _ (by omega)
  have q3 : decide ((I : Int) < (r.size : Int)) = true := decide_eq_true (by omega)
  have q4 : ((y.toNat : Int) == 46) = true := beq_iff_eq.2 (by omega)
  have q5 : decide ((9 : Int) < (I : Int)) = true := decide_eq_true (by omega)
  clear hb
  clear hsz hI hK cd2 hy1 hx1 hrs
  go_enter Tryd.func36, Tryd.ntmps36
  go_wp2_with fail
  refine (CD.out _).mono ?_
  rintro e w' ⟨rfl, rfl⟩
  go_wp2_with fail
  refine (CD2.out _).mono ?_
  rintro e w' ⟨rfl, rfl⟩
  go_wp2
  exact bodyPost_ret (v := .tuple #[.agg #[.int .i64 0, .int .i64 0], .int .i64 1]) (by simp [results, Tryd.results36, go_sem]) rfl ⟨by rw [HA.out], (Below.refl _ _).alloc (Nat.le_refl _) _⟩
set_option maxRecDepth 100000 in
set_option maxHeartbeats 4000000 in
theorem RP_p0_m (s : ByteArray) (w : World) (hs : s.size ≤ 100) (x : UInt8) (h0 : 0 < s.size) (hx : s[0]'h0 = x) (hx1 : x.toNat = 45) (r : ByteArray) (hr : s.extract 1 s.size = r) (hrs : r.size + 1 = s.size) (I K : Nat) (hI : run1 r.data.toList 0 = I) (y : UInt8) (h1 : I < r.size) (hy : r[I]'h1 = y) (hy1 : y.toNat = 46) (hK : run1 r.data.toList (I + 1) = r.size) (hb : I ≤ 9) (hm : r.size = I + 1) (HA : Hid (pbody true r.data.toList = ⟨0, 0, 1⟩)) :
    Calls Tryd.prog 36 #[.string s] w fun e w' => e = .returned (.tuple #[.agg #[.int .i64 (pbody true r.data.toList).n, .int .i64 (pbody true r.data.toList).d], .int .i64 (pbody true r.data.toList).e]) ∧ Below w.heap.size w w' := by
  have hsz := Lib.size_eq r
  have q0 : decide ((0 : Int) < (s.size : Int)) = true := decide_eq_true (by omega)
  have q1 : ((x.toNat : Int) == 43) = false := beq_eq_false_iff_ne.2 (by omega)
  have q2 : ((x.toNat : Int) == 45) = true := beq_iff_eq.2 (by omega)
  have CD := Lib.hid (fun w => digits_any r 0 w (by omega) (Nat.zero_le _))
  rw [hI] at CD
  have cd2 := fun w => digits_any r (I + 1) w (by omega) (by omega)
  rw [hK, Int.natCast_succ] at cd2
  have CD2 := Lib.hid cd2
  have eI : IntKind.i64.wrap ((I : Int) + 1) = (I : Int) + 1 := IntWalk.i64_in _ (by omega)
  have q3 : decide ((I : Int) < (r.size : Int)) = true := decide_eq_true (by omega)
  have q4 : ((y.toNat : Int) == 46) = true := beq_iff_eq.2 (by omega)
  have q5 : decide ((9 : Int) < (I : Int)) = false := decide_eq_false (by omega)
  have s1 : IntKind.i64.wrap ((r.size : Int) - (I : Int)) = (r.size : Int) - (I : Int) := IntWalk.i64_in _ (by omega)
  have s2 : IntKind.i64.wrap ((r.size : Int) - (I : Int) - 1) = 0 := by rw [IntWalk.i64_in _ (by omega)]; omega
  clear hb hm
  clear hsz hI hK cd2 hy1 hx1 hrs
  go_enter Tryd.func36, Tryd.ntmps36
  go_wp2_with fail
  refine (CD.out _).mono ?_
  rintro e w' ⟨rfl, rfl⟩
  go_wp2_with fail
  refine (CD2.out _).mono ?_
  rintro e w' ⟨rfl, rfl⟩
  go_wp2
  exact bodyPost_ret (v := .tuple #[.agg #[.int .i64 0, .int .i64 0], .int .i64 1]) (by simp [results, Tryd.results36, go_sem]) rfl ⟨by rw [HA.out], (Below.refl _ _).alloc (Nat.le_refl _) _⟩
set_option maxRecDepth 100000 in
set_option maxHeartbeats 4000000 in
theorem RP_p9_m (s : ByteArray) (w : World) (hs : s.size ≤ 100) (x : UInt8) (h0 : 0 < s.size) (hx : s[0]'h0 = x) (hx1 : x.toNat = 45) (r : ByteArray) (hr : s.extract 1 s.size = r) (hrs : r.size + 1 = s.size) (I K : Nat) (hI : run1 r.data.toList 0 = I) (y : UInt8) (h1 : I < r.size) (hy : r[I]'h1 = y) (hy1 : y.toNat = 46) (hK : run1 r.data.toList (I + 1) = r.size) (hb : I ≤ 9) (hm : r.size = I + 1 + K) (hm9 : 9 < K) (HA : Hid (pbody true r.data.toList = ⟨0, 0, 1⟩)) :
    Calls Tryd.prog 36 #[.string s] w fun e w' => e = .returned (.tuple #[.agg #[.int .i64 (pbody true r.data.toList).n, .int .i64 (pbody true r.data.toList).d], .int .i64 (pbody true r.data.toList).e]) ∧ Below w.heap.size w w' := by
  have hsz := Lib.size_eq r
  have q0 : decide ((0 : Int) < (s.size : Int)) = true := decide_eq_true (by omega)
  have q1 : ((x.toNat : Int) == 43) = false := beq_eq_false_iff_ne.2 (by omega)
  have q2 : ((x.toNat : Int) == 45) = true := beq_iff_eq.2 (by omega)
  have CD := Lib.hid (fun w => digits_any r 0 w (by omega) (Nat.zero_le _))
  rw [hI] at CD
  have cd2 := fun w => digits_any r (I + 1) w (by omega) (by omega)
  rw [hK, Int.natCast_succ] at cd2
  have CD2 := Lib.hid cd2
  have eI : IntKind.i64.wrap ((I : Int) + 1) = (I : Int) + 1 := IntWalk.i64_in _ (by omega)
  have q3 : decide ((I : Int) < (r.size : Int)) = true := decide_eq_true (by omega)
  have q4 : ((y.toNat : Int) == 46) = true := beq_iff_eq.2 (by omega)
  have q5 : decide ((9 : Int) < (I : Int)) = false := decide_eq_false (by omega)
  have s1 : IntKind.i64.wrap ((r.size : Int) - (I : Int)) = (r.size : Int) - (I : Int) := IntWalk.i64_in _ (by omega)
  have s2 : IntKind.i64.wrap ((r.size : Int) - (I : Int) - 1) = (K : Int) := by rw [IntWalk.i64_in _ (by omega)]; omega
  have q6 : decide ((K : Int) < 1) = false := decide_eq_false (by omega)
  have q7 : decide ((9 : Int) < (K : Int)) = true := decide_eq_true (by omega)
  clear hm9
  clear hb hm
  clear hsz hI hK cd2 hy1 hx1 hrs
  go_enter Tryd.func36, Tryd.ntmps36
  go_wp2_with fail
  refine (CD.out _).mono ?_
  rintro e w' ⟨rfl, rfl⟩
  go_wp2_with fail
  refine (CD2.out _).mono ?_
  rintro e w' ⟨rfl, rfl⟩
  go_wp2
  exact bodyPost_ret (v := .tuple #[.agg #[.int .i64 0, .int .i64 0], .int .i64 1]) (by simp [results, Tryd.results36, go_sem]) rfl ⟨by rw [HA.out], (Below.refl _ _).alloc (Nat.le_refl _) _⟩
end Go.Proofs.YtpehlihbpmcofaaDoor.Nu
