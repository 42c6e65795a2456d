/-
  The contract of of of the laws of chapter 6: a small fraction in its valid form.
-/
import Derived.Test.YtpehlihbpmcofaaDoorNuKnown
namespace Go.Proofs.YtpehlihbpmcofaaDoor.Nu
open Go.RowKit

theorem i64_and1023 (n : Int) : bits .and .i64 n 1023 = n % 1024 := by
  have h7 : (BitVec.ofInt 64 1023).toNat = 2 ^ 10 - 1 := by decide
  have key : (BitVec.ofInt 64 n &&& BitVec.ofInt 64 1023).toNat = (n % ((2 ^ 64 : Nat) : Int)).toNat % 2 ^ 10 := by
    rw [BitVec.toNat_and, BitVec.toNat_ofInt, h7, Nat.and_two_pow_sub_one_eq_mod]
  show IntKind.i64.wrap ((BitVec.ofInt 64 n &&& BitVec.ofInt 64 1023).toNat : Nat) = n % 1024
  rw [key, IntKind.wrap_i64]
  omega
theorem i64_and7 (n : Int) : bits .and .i64 n 7 = n % 8 := by
  have h7 : (BitVec.ofInt 64 7).toNat = 2 ^ 3 - 1 := by decide
  have key : (BitVec.ofInt 64 n &&& BitVec.ofInt 64 7).toNat = (n % ((2 ^ 64 : Nat) : Int)).toNat % 2 ^ 3 := by
    rw [BitVec.toNat_and, BitVec.toNat_ofInt, h7, Nat.and_two_pow_sub_one_eq_mod]
  show IntKind.i64.wrap ((BitVec.ofInt 64 n &&& BitVec.ofInt 64 7).toNat : Nat) = n % 8
  rw [key, IntKind.wrap_i64]
  omega
theorem i64_and3 (n : Int) : bits .and .i64 n 3 = n % 4 := by
  have h7 : (BitVec.ofInt 64 3).toNat = 2 ^ 2 - 1 := by decide
  have key : (BitVec.ofInt 64 n &&& BitVec.ofInt 64 3).toNat = (n % ((2 ^ 64 : Nat) : Int)).toNat % 2 ^ 2 := by
    rw [BitVec.toNat_and, BitVec.toNat_ofInt, h7, Nat.and_two_pow_sub_one_eq_mod]
  show IntKind.i64.wrap ((BitVec.ofInt 64 n &&& BitVec.ofInt 64 3).toNat : Nat) = n % 4
  rw [key, IntKind.wrap_i64]
  omega
def ofN (a b : Int) : Int := (make (a.tmod 2000) (1 + b % 1024)).n
def ofD (a b : Int) : Int := (make (a.tmod 2000) (1 + b % 1024)).d
theorem tmod_2000 (a : Int) : -1999 ≤ a.tmod 2000 ∧ a.tmod 2000 ≤ 1999 := by
  have := tmod_lt a (b := 2000) (by decide)
  generalize a.tmod 2000 = x at *
  omega
theorem of_make (a b : Int) : make (a.tmod 2000) (1 + b % 1024) = fit (a.tmod 2000) (1 + b % 1024) := by
  have h := tmod_2000 a
  unfold make inB
  rw [show decide (-1000000000 ≤ a.tmod 2000 ∧ a.tmod 2000 ≤ 1000000000) = true by rw [decide_eq_true_iff]; generalize a.tmod 2000 = x at *; omega,
    show decide (-1000000000 ≤ 1 + b % 1024 ∧ 1 + b % 1024 ≤ 1000000000) = true by rw [decide_eq_true_iff]; omega]
  simp; intro h0; omega
theorem of_e (a b : Int) : (make (a.tmod 2000) (1 + b % 1024)).e = 0 := by
  have h := tmod_2000 a
  rw [of_make]
  exact fit_small (by omega) (by generalize a.tmod 2000 = x at *; omega) (by generalize a.tmod 2000 = x at *; omega) (by omega) (by omega)
theorem sm_of (a b : Int) : Sm (ofN a b) (ofD a b) := by
  have h := tmod_2000 a
  have he := of_e a b
  unfold ofN ofD
  rw [of_make] at he ⊢
  have hf : fit (a.tmod 2000) (1 + b % 1024) = ⟨fn (a.tmod 2000) (1 + b % 1024), fd (a.tmod 2000) (1 + b % 1024), 0⟩ := by
    unfold fit at he ⊢
    split
    · rfl
    · rename_i h1; rw [if_neg h1] at he; simp at he
  have hO := (fit_ok (by omega) he).1
  have b1 := fn_bd (a.tmod 2000) (1 + b % 1024) (B := 1999) (by generalize a.tmod 2000 = x at *; omega)
  have b2 := fd_bd (a.tmod 2000) (1 + b % 1024) (B := 1024) (by omega)
  rw [hf] at hO ⊢
  exact ⟨hO, by simp only; omega, by simp only; omega, by simp only; omega⟩
set_option maxRecDepth 100000 in
set_option maxHeartbeats 1000000 in
theorem of_any (a b : Int) (w : World) : Calls Tryd.prog 42 #[.int .i64 a, .int .i64 b] w fun e w' => e = .returned (.agg #[.int .i64 (ofN a b), .int .i64 (ofD a b)]) ∧ Below w.heap.size w w' := by
  have hb0 := i64_and1023 b
  have hB : 0 ≤ b % 1024 ∧ b % 1024 ≤ 1023 := by omega
  obtain ⟨m0, m1⟩ := hB
  have hE := of_e a b
  have HN : Hid (ofN a b = (make (a.tmod 2000) (1 + b % 1024)).n ∧ ofD a b = (make (a.tmod 2000) (1 + b % 1024)).d) := Lib.hid ⟨rfl, rfl⟩
  obtain ⟨x, hx⟩ : ∃ x, a.tmod 2000 = x := ⟨_, rfl⟩
  rw [hx] at hE HN
  by_cases ha : 0 ≤ a
  · have hx2 : a % 2000 = x := by rw [← hx, Int.tmod_eq_emod_of_nonneg ha]
    go_enter Tryd.func42, Tryd.ntmps42
    go_wp2_with fail
    refine (RMake_any x (1 + b % 1024) _).mono ?_
    rintro e w1 ⟨rfl, hb⟩
    obtain ⟨hc, hf⟩ := bcell hb
    have z0 := size1 hb
    have HB := Lib.hid (below1 hb)
    go_wp2
    exact bodyPost_ret (v := .agg #[.int .i64 (make x (1 + b % 1024)).n, .int .i64 (make x (1 + b % 1024)).d]) (by simp [results, Tryd.results42, go_sem, hc, z0]) rfl ⟨by rw [HN.out.1, HN.out.2], (below_two HB.out _ _).alloc (below_two HB.out _ _).size _⟩
  · go_enter Tryd.func42, Tryd.ntmps42
    go_wp2_with fail
    refine (RMake_any x (1 + b % 1024) _).mono ?_
    rintro e w1 ⟨rfl, hb⟩
    obtain ⟨hc, hf⟩ := bcell hb
    have z0 := size1 hb
    have HB := Lib.hid (below1 hb)
    go_wp2
    exact bodyPost_ret (v := .agg #[.int .i64 (make x (1 + b % 1024)).n, .int .i64 (make x (1 + b % 1024)).d]) (by simp [results, Tryd.results42, go_sem, hc, z0]) rfl ⟨by rw [HN.out.1, HN.out.2], (below_two HB.out _ _).alloc (below_two HB.out _ _).size _⟩
end Go.Proofs.YtpehlihbpmcofaaDoor.Nu
