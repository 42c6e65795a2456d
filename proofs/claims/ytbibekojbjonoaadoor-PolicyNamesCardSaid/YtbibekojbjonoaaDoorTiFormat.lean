/-
  The contract of Format of package title, for every namespace and every name.
-/
import Derived.Test.YtbibekojbjonoaaDoorTiValid
namespace Go.Proofs.YtbibekojbjonoaaDoor.Ti
open Go.RowKit

/-- The text of a title. -/
def format (sp : Int) (l : List UInt8) : List UInt8 := if valid sp l then (if sp = 0 then l else name sp.toNat ++ [58] ++ l) else []
theorem valid_space {sp : Int} {l : List UInt8} (h : valid sp l = true) : 0 ≤ sp ∧ sp < 6 := by
  rw [valid] at h
  by_cases h1 : sp < 0 ∨ 6 ≤ sp
  · rw [if_pos h1] at h; cases h
  · omega
theorem valid_len {sp : Int} {l : List UInt8} (h : valid sp l = true) : 1 ≤ l.length ∧ l.length ≤ 100 := by
  rw [valid] at h
  by_cases h1 : sp < 0 ∨ 6 ≤ sp
  · rw [if_pos h1] at h; cases h
  · rw [if_neg h1] at h
    by_cases h2 : l.length < 1 ∨ 100 < l.length
    · rw [if_pos h2] at h; cases h
    · omega
theorem name_len (k : Nat) : (name k).length ≤ 8 := by
  unfold name; split <;> decide
theorem cat3 (nm s : ByteArray) : nm ++ ⟨#[58]⟩ ++ s = ⟨(nm.data.toList ++ [58] ++ s.data.toList).toArray⟩ := by
  apply ByteArray.ext
  apply Array.ext'
  simp [ByteArray.data_append]

end Go.Proofs.YtbibekojbjonoaaDoor.Ti
