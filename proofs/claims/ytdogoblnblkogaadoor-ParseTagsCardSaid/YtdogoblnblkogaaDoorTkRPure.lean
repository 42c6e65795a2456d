/-
  The reference's rules in its own order (specL), and that they are those of mark.
-/
import Derived.Test.YtdogoblnblkogaaDoorTkPure
namespace Go.Proofs.YtdogoblnblkogaaDoor.Tk

/-- The rules 5 to 8 at the beginning of l, as the reference tries them; the second number is the size. -/
def restL (l : List UInt8) : Nat × Nat :=
  if Lib.hasPrefix l [123, 123] then (3, run 123 l) else if Lib.hasPrefix l [125, 125] then (4, run 125 l)
  else if Lib.hasPrefix l [91, 91] then (5, 2) else if Lib.hasPrefix l [93, 93] then (6, 2)
  else if Lib.hasPrefix l [124] then (7, 1) else if Lib.hasPrefix l [61] then (8, 1) else if Lib.hasPrefix l [10] then (2, 1) else (0, 0)
/-- All rules, as the reference tries them. -/
def specL (l : List UInt8) : Nat × Nat :=
  if Lib.hasPrefix l cO then (9, if upTo l cO cE = 0 then l.length else upTo l cO cE)
  else if Lib.hasPrefix l nO ∧ upTo l nO nE ≠ 0 then (10, upTo l nO nE)
  else if (tagFrom l 3 1).2 ≠ 0 then tagFrom l 3 1 else restL l
theorem hp1 (c d : UInt8) (r : List UInt8) : Lib.hasPrefix (c :: r) [d] = (d == c) := by simp [Lib.hasPrefix, List.isPrefixOf]
theorem hp2 (c d : UInt8) (r : List UInt8) : Lib.hasPrefix (c :: r) [d, d] = (d == c && r.head? == some d) := by
  cases r with
  | nil => simp [Lib.hasPrefix, List.isPrefixOf]
  | cons a r => simp only [Lib.hasPrefix, List.isPrefixOf, List.head?_cons, Bool.and_true]; rw [show (some a == some d) = (a == d) from rfl, BEq.comm (a := a)]
theorem hp_head {c d : UInt8} {r q : List UInt8} (h : d ≠ c) : Lib.hasPrefix (c :: r) (d :: q) = false := by
  simp [Lib.hasPrefix, List.isPrefixOf, h]
theorem tO_head {k : Nat} (h1 : 1 ≤ k) (h3 : k ≤ 3) : ∃ q, tO k = 60 :: q := by
  have : k = 1 ∨ k = 2 ∨ k = 3 := by omega
  rcases this with rfl | rfl | rfl <;> exact ⟨_, rfl⟩
theorem tE_head {k : Nat} (h1 : 1 ≤ k) (h3 : k ≤ 3) : ∃ q, tE k = 60 :: q := by
  have : k = 1 ∨ k = 2 ∨ k = 3 := by omega
  rcases this with rfl | rfl | rfl <;> exact ⟨_, rfl⟩
theorem tag_other {c : UInt8} {r : List UInt8} (h : c ≠ 60) : tagFrom (c :: r) 3 1 = (0, 0) := by
  apply tagFrom_none
  intro j a b
  obtain ⟨q, hq⟩ := tO_head a (by omega)
  obtain ⟨q', hq'⟩ := tE_head a (by omega)
  rw [hq, hq']
  exact ⟨hp_head (Ne.symm h), hp_head (Ne.symm h)⟩
theorem rest_angle (r : List UInt8) : restL (60 :: r) = (0, 0) := by
  unfold restL
  simp [hp1, hp2]
theorem spec_other {c : UInt8} {r : List UInt8} (h : c ≠ 60) : specL (c :: r) = restL (c :: r) := by
  unfold specL
  rw [show Lib.hasPrefix (c :: r) cO = false from hp_head (Ne.symm h), show Lib.hasPrefix (c :: r) nO = false from hp_head (Ne.symm h), tag_other h]
  simp
theorem run_two (c : UInt8) (r : List UInt8) : (2 ≤ run c (c :: r)) ↔ r.head? = some c := by
  unfold run
  cases r with
  | nil => simp
  | cons a r =>
    by_cases h : a = c
    · subst h; simp
    · have : ¬ (a == c) = true := by simpa using h
      simp [h]
theorem upTo_ne (l : List UInt8) (h : Lib.hasPrefix l cO = true) : (if upTo l cO cE = 0 then l.length else upTo l cO cE) ≠ 0 := by
  have hl := hp_len h
  have : cO.length = 4 := rfl
  split <;> omega
/-- The reference's rules are those of mark. -/
theorem spec_mark (l : List UInt8) : specL l = if (mark l).2 = 0 then (0, 0) else mark l := by
  cases l with
  | nil => rfl
  | cons c r =>
    rcases byte_cases c with rfl | rfl | rfl | rfl | rfl | rfl | rfl | rfl | ⟨h1, h2, h3, h4, h5, h6, h7, h8⟩
    · rw [m60]
      unfold specL angle
      cases hc : Lib.hasPrefix (60 :: r) cO
      · cases hn : Lib.hasPrefix (60 :: r) nO
        · simp only [Bool.false_eq_true, if_false, false_and, rest_angle]
          by_cases h0 : (tagFrom (60 :: r) 3 1).2 = 0
          · rw [if_neg (by simpa using h0), if_pos h0]
          · rw [if_pos h0, if_neg h0]
        · have ht : tagFrom (60 :: r) 3 1 = (0, 0) := by
            apply tagFrom_none
            intro j a b
            exact ⟨no_of_pre hn fun r => nowiki_no_open r j a (by omega), no_of_pre hn fun r => nowiki_no_close r j a (by omega)⟩
          simp only [Bool.false_eq_true, if_false, if_true, true_and, ht, rest_angle]
          by_cases h0 : upTo (60 :: r) nO nE = 0
          · rw [if_neg (by simpa using h0), if_pos h0]; simp
          · rw [if_pos h0, if_neg h0]
      · have := upTo_ne _ hc
        simp only [if_true]
        rw [if_neg this]
    · rw [spec_other (by decide), m123]; unfold restL braces; rw [hp2]
      have h := run_two 123 r
      by_cases h2 : r.head? = some 123
      · have := h.2 h2; rw [if_neg (show ¬ run 123 (123 :: r) < 2 by omega)]; simp [h2]; omega
      · have h' : run 123 (123 :: r) < 2 := by
          by_cases q : 2 ≤ run 123 (123 :: r)
          · exact absurd (h.1 q) h2
          · omega
        rw [if_pos h']; simp [h2, hp1, hp2]
    · rw [spec_other (by decide), m125]; unfold restL braces; rw [hp2, hp2]
      have h := run_two 125 r
      by_cases h2 : r.head? = some 125
      · have := h.2 h2; rw [if_neg (show ¬ run 125 (125 :: r) < 2 by omega)]; simp [h2]; omega
      · have h' : run 125 (125 :: r) < 2 := by
          by_cases q : 2 ≤ run 125 (125 :: r)
          · exact absurd (h.1 q) h2
          · omega
        rw [if_pos h']; simp [h2, hp1, hp2]
    · rw [spec_other (by decide), m91]; unfold restL
      cases r with
      | nil => rfl
      | cons d r => by_cases h : d = 91 <;> simp [hp1, hp2, pair, h]
    · rw [spec_other (by decide), m93]; unfold restL
      cases r with
      | nil => rfl
      | cons d r => by_cases h : d = 93 <;> simp [hp1, hp2, pair, h]
    · rw [spec_other (by decide), m124]; unfold restL; simp [hp1, hp2]
    · rw [spec_other (by decide), m61]; unfold restL; simp [hp1, hp2]
    · rw [spec_other (by decide), m10]; unfold restL; simp [hp1, hp2]
    · rw [spec_other h1, mo _ h1 h2 h3 h4 h5 h6 h7 h8]; unfold restL
      simp [hp1, hp2, Ne.symm h2, Ne.symm h3, Ne.symm h4, Ne.symm h5, Ne.symm h6, Ne.symm h7, Ne.symm h8]
end Go.Proofs.YtdogoblnblkogaaDoor.Tk
