/-
  The tables, and the contracts of isLeap, yearLength, monthLength, isInstant, isUnit of package calendar and of days, yearDays, instant of its reference.
-/
import Derived.Test.YtlkbdnjpcagopaaDoorChecked
import Derived.Test.YtlkbdnjpcagopaaDoorCaText
import Derived.WalkKit
import Derived.WalkSpells
import Derived.WalkLawsBesides
import Derived.Outline
import Derived.Deep.QuietTactic
import Derived.BigQuiet
import Derived.Lib.Hide
import Derived.IntWalk
import Derived.Lib.AppendIntMem
namespace Go.Proofs.YtlkbdnjpcagopaaDoor.Ca
open Go.RowKit

theorem ret_int {k : IntKind} {a b : Int} (h : a = b) : Ending.returned (.int k a) = .returned (.int k b) := by rw [h]
theorem ret_bool {a b : Bool} (h : a = b) : Ending.returned (.bool a) = .returned (.bool b) := by rw [h]
theorem ret_str {a b : ByteArray} (h : a = b) : Ending.returned (.string a) = .returned (.string b) := by rw [h]
theorem below_drewN {B : Nat} {a w : World} (h : Below B a w) (n : Nat) : Below B a (w.drewN n) := ⟨h.os, h.tape, h.output, h.size, h.block⟩
theorem bcell {W w1 : World} (hb : Below W.heap.size W w1) : (∀ b o, b < W.heap.size → w1.cell? ⟨b, o, none⟩ = W.cell? ⟨b, o, none⟩) ∧ (∀ b o, b < W.heap.size → w1.frozen? ⟨b, o, none⟩ = W.frozen? ⟨b, o, none⟩) :=
  ⟨fun b o h => hb.cell (p := ⟨b, o, none⟩) h, fun b o h => hb.frozen (p := ⟨b, o, none⟩) h⟩
theorem lt_cell {W : World} {p : Addr} {v : Value} (h : W.cell? p = some v) : p.block < W.heap.size := by
  rcases Nat.lt_or_ge p.block W.heap.size with h1 | h1
  · exact h1
  · unfold World.cell? at h
    rw [Array.getElem?_eq_none h1] at h
    simp at h
/-- What the listed tables hold. -/
structure Tb (w : World) : Prop where
  tab : Lib.TabIs Tryd.prog w "internal/strconv.uint64pow10" .u64 Lib.pow10Tab
  md : ∀ i : Nat, i < 12 → w.cell? ⟨0, i, none⟩ = some (.int .i64 (ml 2001 (i + 1)))
  mn : ∀ i : Nat, i < 12 → w.cell? ⟨1, i, none⟩ = some (.string ⟨(mname (i + 1)).toArray⟩)
  wn : ∀ i : Nat, i < 7 → w.cell? ⟨2, i, none⟩ = some (.string ⟨(wname (i + 1)).toArray⟩)
theorem Tb.below {w w' : World} (h : Tb w) (hb : Below w.heap.size w w') : Tb w' :=
  ⟨Lib.tabBelow_of_tabIs h.tab w' hb, fun i hi => (hb.cell (p := ⟨_, i, none⟩) (lt_cell (h.md i hi))).trans (h.md i hi), fun i hi => (hb.cell (p := ⟨_, i, none⟩) (lt_cell (h.mn i hi))).trans (h.mn i hi), fun i hi => (hb.cell (p := ⟨_, i, none⟩) (lt_cell (h.wn i hi))).trans (h.wn i hi)⟩

theorem leap_any (y : Int) (w : World) (h : 0 ≤ y) : Calls Tryd.prog 51 #[.int .i64 y] w fun e w' => e = .returned (.bool (decide (y % 4 = 0))) ∧ w = w' := by
  go_enter Tryd.func51, Tryd.ntmps51
  go_wp2
  go_ret
  exact ⟨ret_bool rfl, rfl⟩
theorem yearLength_any (y : Int) (w : World) (h : 0 ≤ y) : Calls Tryd.prog 31 #[.int .i64 y] w fun e w' => e = .returned (.int .i64 (yl y)) ∧ w = w' := by
  by_cases hy : y % 4 = 0
  all_goals
    have e : yl y = if y % 4 = 0 then 366 else 365 := rfl
    simp only [hy, if_true, if_false] at e
    have H := Lib.hid e
    clear e
    have HC := Lib.hid (fun w => leap_any y w h)
    simp only [hy, decide_true, decide_false] at HC
    clear hy
    go_enter Tryd.func31, Tryd.ntmps31
    go_wp2_with fail
    refine (HC.out _).mono ?_
    rintro e w' ⟨rfl, rfl⟩
    go_wp2
    go_ret
    exact ⟨ret_int H.out.symm, rfl⟩
theorem ml_plain {y m : Int} (h : ¬ (m = 2 ∧ y % 4 = 0)) : ml y m = ml 2001 m := by
  unfold ml
  by_cases h2 : m = 2
  · have : ¬ y % 4 = 0 := fun e => h ⟨h2, e⟩
    simp [h2, this]
  · simp [h2]
theorem monthLength_any (y m : Int) (w : World) (h : 0 ≤ y) (h1 : 1 ≤ m) (h2 : m ≤ 12) (ht : Tb w) : Calls Tryd.prog 32 #[.int .i64 y, .int .i64 m] w fun e w' => e = .returned (.int .i64 (ml y m)) ∧ w = w' := by
  obtain ⟨k, hk, rfl⟩ : ∃ k : Nat, k < 12 ∧ m = (k : Int) + 1 := ⟨(m - 1).toNat, by omega, by omega⟩
  have hc := ht.md k hk
  have HC := Lib.hid (fun w => leap_any y w h)
  by_cases hf : k = 1
  · subst hf
    by_cases hy : y % 4 = 0
    · have e : ml y ((1 : Nat) + 1) = 29 := by unfold ml; simp [hy]
      have H := Lib.hid e
      simp only [hy, decide_true] at HC
      clear e hy hc ht
      go_enter Tryd.func32, Tryd.ntmps32
      go_wp2_with fail
      refine (HC.out _).mono ?_
      rintro e w' ⟨rfl, rfl⟩
      go_wp2
      go_ret
      exact ⟨ret_int H.out.symm, rfl⟩
    · have e : ml y ((1 : Nat) + 1) = ml 2001 ((1 : Nat) + 1) := ml_plain (fun h => hy h.2)
      have H := Lib.hid e
      simp only [hy, decide_false] at HC
      clear e hy ht
      go_enter Tryd.func32, Tryd.ntmps32
      go_wp2_with fail
      refine (HC.out _).mono ?_
      rintro e w' ⟨rfl, rfl⟩
      go_wp2
      go_ret
      exact ⟨ret_int H.out.symm, rfl⟩
  · have e : ml y (k + 1) = ml 2001 (k + 1) := ml_plain (fun h => hf (by omega))
    have H := Lib.hid e
    have hd : decide ((k : Int) + 1 = 2) = false := by rw [decide_eq_false_iff_not]; omega
    have hd2 : decide ((k : Int) = 1) = false := by rw [decide_eq_false_iff_not]; omega
    have hk' : (k : Int) < 12 := by omega
    clear e ht
    go_enter Tryd.func32, Tryd.ntmps32
    go_wp2_with fail
    go_ret
    exact ⟨ret_int H.out.symm, rfl⟩
theorem isInstant_any (n : Int) (w : World) : Calls Tryd.prog 36 #[.int .i64 n] w fun e w' => e = .returned (.bool (decide (0 ≤ n ∧ n < 52596000))) ∧ w = w' := by
  by_cases h1 : 0 ≤ n
  · go_enter Tryd.func36, Tryd.ntmps36
    go_wp2
    go_ret
    exact ⟨ret_bool (by simp [h1]), rfl⟩
  · go_enter Tryd.func36, Tryd.ntmps36
    go_wp2
    go_ret
    exact ⟨ret_bool (by simp; omega), rfl⟩
theorem instant_any (n : Int) (w : World) : Calls Tryd.prog 38 #[.int .i64 n] w fun e w' => e = .returned (.bool (decide (0 ≤ n ∧ n < 52596000))) ∧ w = w' := by
  by_cases h1 : 0 ≤ n
  · go_enter Tryd.func38, Tryd.ntmps38
    go_wp2
    go_ret
    exact ⟨ret_bool (by simp [h1]), rfl⟩
  · go_enter Tryd.func38, Tryd.ntmps38
    go_wp2
    go_ret
    exact ⟨ret_bool (by simp; omega), rfl⟩
theorem isUnit_any (n : Int) (w : World) : Calls Tryd.prog 39 #[.int .i64 n] w fun e w' => e = .returned (.bool (decide (1 ≤ n ∧ n ≤ 5))) ∧ w = w' := by
  by_cases h1 : 1 ≤ n
  · go_enter Tryd.func39, Tryd.ntmps39
    go_wp2
    go_ret
    exact ⟨ret_bool (by simp [h1]), rfl⟩
  · go_enter Tryd.func39, Tryd.ntmps39
    go_wp2
    go_ret
    exact ⟨ret_bool (by simp; omega), rfl⟩
end Go.Proofs.YtlkbdnjpcagopaaDoor.Ca
