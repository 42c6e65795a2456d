/-
  The values of powers of small integers.
-/
import Derived.Test.YtfocokjihbenmaaDoorFoKnown
namespace Go.Proofs.YtfocokjihbenmaaDoor.Fo
open Go.RowKit Go.Proofs.YtfocokjihbenmaaDoor.Nu
set_option linter.unusedVariables false
set_option linter.unusedSimpArgs false

def pwT (a n : Int) : List UInt8 := dg a ++ [32, 94, 32] ++ dg n
/-- What the law multiplies: k rounds at most, as long as the product fits. -/
def want (a : Int) : Nat → Int → Int
  | 0, w => w
  | k + 1, w => if -1000000000 ≤ w ∧ w ≤ 1000000000 then want a k (w * a) else w
def pwOk (a n : Int) : Bool :=
  let r := ev (pwT a n)
  if n < 0 ∨ 30 < n then decide (r.e = 2) else
  let w := want a n.toNat 1
  if 1000000000 < w ∨ w < -1000000000 then decide (r.e = 15) else decide (r.n = w ∧ r.d = 1 ∧ r.e = 0)
def pwRow (a : Int) : Bool := (List.range 64).all fun j => pwOk a ((j : Int) - 16)
theorem pw_row0 : ((List.range 5).all fun i => pwRow ((i : Int) - 9)) = true := by kernel_rfl
theorem pw_row1 : ((List.range 5).all fun i => pwRow ((i : Int) - 4)) = true := by kernel_rfl
theorem pw_row2 : ((List.range 5).all fun i => pwRow ((i : Int) + 1)) = true := by kernel_rfl
theorem pw_row3 : ((List.range 4).all fun i => pwRow ((i : Int) + 6)) = true := by kernel_rfl
theorem pw_ok {a n : Int} (h1 : a.natAbs ≤ 9) (h2 : -16 ≤ n) (h3 : n ≤ 47) : pwOk a n = true := by
  have key : pwRow a = true := by
    rcases (by omega : a ≤ -5 ∨ (-4 ≤ a ∧ a ≤ 0) ∨ (1 ≤ a ∧ a ≤ 5) ∨ 6 ≤ a) with h | h | h | h
    · have := List.all_eq_true.1 pw_row0 (a + 9).toNat (List.mem_range.2 (by omega))
      rwa [show (((a + 9).toNat : Nat) : Int) - 9 = a by omega] at this
    · have := List.all_eq_true.1 pw_row1 (a + 4).toNat (List.mem_range.2 (by omega))
      rwa [show (((a + 4).toNat : Nat) : Int) - 4 = a by omega] at this
    · have := List.all_eq_true.1 pw_row2 (a - 1).toNat (List.mem_range.2 (by omega))
      rwa [show (((a - 1).toNat : Nat) : Int) + 1 = a by omega] at this
    · have := List.all_eq_true.1 pw_row3 (a - 6).toNat (List.mem_range.2 (by omega))
      rwa [show (((a - 6).toNat : Nat) : Int) + 6 = a by omega] at this
  have := List.all_eq_true.1 key (n + 16).toNat (List.mem_range.2 (by omega))
  rwa [show (((n + 16).toNat : Nat) : Int) - 16 = n by omega] at this
end Go.Proofs.YtfocokjihbenmaaDoor.Fo
