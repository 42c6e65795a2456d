/-
  The contract of Add of the calendar's reference.
-/
import Derived.Test.YtlkbdnjpcagopaaDoorCaRAdd
import Derived.Deep.RegionWith
namespace Go.Proofs.YtlkbdnjpcagopaaDoor.Ca
open Go.RowKit
set_option linter.unusedVariables false
set_option linter.unusedSimpArgs false

theorem bl0 {w w1 w2 : World} (h : Below w.heap.size w w1) (hb : Below w1.heap.size w1 w2) : Below w.heap.size w w2 := h.trans (hb.mono h.size)
theorem addU_ref {y m d c u k : Int} (hk : Ok y m d) (c1 : 0 ≤ c) (c2 : c < 1440) (h : 1 ≤ u ∧ u ≤ 5) : addU y m d c u k =
    if k < -52596000 ∨ 52596000 < k then ⟨0, 15⟩ else if u = 4 then addM y m d c k else if u = 5 then addM y m d c (12 * k)
    else if 0 ≤ inst y m d c + k * (if u = 1 then 1 else if u = 2 then 60 else 1440) ∧ inst y m d c + k * (if u = 1 then 1 else if u = 2 then 60 else 1440) < 52596000 then
      ⟨inst y m d c + k * (if u = 1 then 1 else if u = 2 then 60 else 1440), 0⟩
    else ⟨0, 15⟩ := by
  have hr := inst_range hk c1 c2
  have a1 := hk.y1; have a2 := hk.y2; have a3 := hk.m1; have a4 := hk.m2
  unfold addU
  by_cases e : k = -52596000 ∨ k = 52596000
  · have M1 : addM y m d c k = ⟨0, 15⟩ := by unfold addM; rw [if_neg (by omega)]
    have M2 : addM y m d c (12 * k) = ⟨0, 15⟩ := by unfold addM; rw [if_neg (by omega)]
    rw [if_pos (by omega), if_neg (by omega), M1, M2]
    have hu : u = 4 ∨ u = 5 ∨ u = 1 ∨ u = 2 ∨ u = 3 := by omega
    generalize inst y m d c = I at *
    rcases hu with rfl | rfl | rfl | rfl | rfl
    · rfl
    · rfl
    all_goals
      simp only [Int.reduceEq, if_true, if_false]
      rw [if_neg (by omega)]
  · by_cases g : k < -52596000 ∨ 52596000 < k
    · rw [if_pos (by omega), if_pos g]
    · rw [if_neg (by omega), if_neg g]
end Go.Proofs.YtlkbdnjpcagopaaDoor.Ca
