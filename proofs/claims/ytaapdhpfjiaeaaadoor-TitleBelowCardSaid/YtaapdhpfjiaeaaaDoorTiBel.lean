/-
  The titles that the tape makes, and the titles below them: plain facts.
-/
import Derived.Test.YtaapdhpfjiaeaaaDoorTiAnc
import Derived.Test.YtaapdhpfjiaeaaaDoorTiResolve
namespace Go.Proofs.YtaapdhpfjiaeaaaDoor.Ti
open Go.Proofs.YtaapdhpfjiaeaaaDoor.Rf

/-- The names that the tape chooses from. -/
def tnames : List (List UInt8) := [[65], [66], [65, 47, 66], [67], [84], [85, 47, 120], [65, 47, 66, 47, 99], [76, 111, 110, 103, 32, 110, 97, 109, 101], [49], [88]]
theorem tnames_valid : ∀ k, k < 6 → ∀ a ∈ tnames, valid ((k : Nat) : Int) a = true := by
  intro k hk
  have h : ∀ k ∈ List.range 6, ∀ a ∈ tnames, valid ((k : Nat) : Int) a = true := by decide +kernel
  exact h k (List.mem_range.2 hk)
theorem tnames_join : ∀ k, k < 6 → ∀ a ∈ tnames, ∀ b ∈ tnames, valid ((k : Nat) : Int) (a ++ 47 :: b) = true := by
  intro k hk
  have h : ∀ k ∈ List.range 6, ∀ a ∈ tnames, ∀ b ∈ tnames, valid ((k : Nat) : Int) (a ++ 47 :: b) = true := by decide +kernel
  exact h k (List.mem_range.2 hk)
theorem tnames_len : ∀ a ∈ tnames, a.length ≤ 9 := by decide
theorem format_join {sp : Int} {a b : List UInt8} (h1 : valid sp a = true) (h2 : valid sp (a ++ 47 :: b) = true) : format sp a ++ 47 :: b = format sp (a ++ 47 :: b) := by
  unfold format
  rw [if_pos h1, if_pos h2]
  split
  · rfl
  · simp
theorem ancK_mono (l : List UInt8) (j : Nat) : ∀ n, j ≤ n → ∃ r, ancK l n = ancK l j ++ r
  | 0, h => ⟨[], by rw [Nat.le_zero.1 h]; simp⟩
  | n + 1, h => by
    by_cases e : j = n + 1
    · subst e; exact ⟨[], by simp⟩
    · obtain ⟨r, hr⟩ := ancK_mono l j n (by omega)
      rw [ancK, hr, List.append_assoc]; exact ⟨_, rfl⟩
theorem anc_join {sp : Int} {a b : List UInt8} (h1 : valid sp a = true) (h2 : valid sp (a ++ 47 :: b) = true) : (ancestors sp a).length < (ancestors sp (a ++ 47 :: b)).length ∧ (ancestors sp (a ++ 47 :: b))[(ancestors sp a).length]? = some (sp, a) := by
  have e0 : (a ++ 47 :: b)[a.length]? = some 47 := by simp
  have e1 := ancK_yes e0
  have e2 : (a ++ 47 :: b).take a.length = a := by simp
  have e3 := ancK_take (a ++ 47 :: b) a.length a.length (Nat.le_refl _)
  rw [e2] at e3 e1
  rw [← e3] at e1
  obtain ⟨r, hr⟩ := ancK_mono (a ++ 47 :: b) (a.length + 1) (a ++ 47 :: b).length (by simp)
  unfold ancestors
  rw [if_pos h1, if_pos h2, hr, e1]
  simp
end Go.Proofs.YtaapdhpfjiaeaaaDoor.Ti
