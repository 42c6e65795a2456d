/-
  The contracts of size, inRange, divisor, power and floor of package number and of abs, gcd, Power and below of its reference.
-/
import Derived.Test.YtfocokjihbenmaaDoorChecked
import Derived.Test.YtfocokjihbenmaaDoorNuText
import Derived.WalkKit
import Derived.WalkSpells
import Derived.WalkLawsBesides
import Derived.Outline
import Derived.Deep.QuietTactic
import Derived.BigQuiet
import Derived.Lib.Hide
import Derived.IntWalk
namespace Go.Proofs.YtfocokjihbenmaaDoor.Nu
open Go.RowKit

theorem ret_int {k : IntKind} {a b : Int} (h : a = b) : Ending.returned (.int k a) = .returned (.int k b) := by rw [h]
theorem ret_bool {a b : Bool} (h : a = b) : Ending.returned (.bool a) = .returned (.bool b) := by rw [h]
theorem ret_str {a b : ByteArray} (h : a = b) : Ending.returned (.string a) = .returned (.string b) := by rw [h]
theorem below_drewN {B : Nat} {a w : World} (h : Below B a w) (n : Nat) : Below B a (w.drewN n) := ⟨h.os, h.tape, h.output, h.size, h.block⟩

theorem size_any (i : Int) (w : World) (h1 : -4611686018427387904 ≤ i) (h2 : i ≤ 4611686018427387904) : Calls Tryd.prog 94 #[.int .i64 i] w fun e w' => e = .returned (.int .i64 (i.natAbs : Int)) ∧ w = w' := by
  go_enter Tryd.func94, Tryd.ntmps94
  go_wp2
  all_goals go_ret
  all_goals exact ⟨ret_int (by omega), rfl⟩
theorem inRange_any (i : Int) (w : World) : Calls Tryd.prog 82 #[.int .i64 i] w fun e w' => e = .returned (.bool (inB i)) ∧ w = w' := by
  unfold inB
  by_cases h1 : -1000000000 ≤ i
  · go_enter Tryd.func82, Tryd.ntmps82
    go_wp2
    go_ret
    exact ⟨ret_bool (by simp [h1]), rfl⟩
  · go_enter Tryd.func82, Tryd.ntmps82
    go_wp2
    go_ret
    exact ⟨ret_bool (by simp; omega), rfl⟩
theorem gcd_step {a b : Int} (_h : b ≠ 0) : Int.gcd b (a.tmod b) = Int.gcd a b := by
  rw [Int.gcd_comm a b]
  unfold Int.gcd
  rw [Int.natAbs_tmod, Nat.gcd_comm b.natAbs (a.natAbs % b.natAbs), ← Nat.gcd_rec]
theorem tmod_lt (a : Int) {b : Int} (h : b ≠ 0) : (a.tmod b).natAbs < b.natAbs := by
  rw [Int.natAbs_tmod]; exact Nat.mod_lt _ (by omega)
set_option maxHeartbeats 400000 in
theorem divisor_any (a b : Int) (w : World) (h1 : a.natAbs ≤ 4611686018427387904) (h2 : b.natAbs ≤ 4611686018427387904) :
    Calls Tryd.prog 81 #[.int .i64 a, .int .i64 b] w fun e w' => e = .returned (.int .i64 (gc a b)) ∧ ∃ n, w' = w.drewN n := by
  go_enter Tryd.func81, Tryd.ntmps81
  go_wp2
  go_loopw [0, 1] (fun x y wr => ∃ (p q : Int) (nq : Nat), x = .int .i64 p ∧ y = .int .i64 q ∧ p.natAbs ≤ 4611686018427387904 ∧ q.natAbs ≤ 4611686018427387904 ∧ Hid (Int.gcd p q = Int.gcd a b) ∧ Hid (wr = w.drewN nq)) (fun _ y _ => (intOf y).natAbs)
  case atStart => exact ⟨a, b, 0, rfl, rfl, h1, h2, Lib.hid rfl, Lib.hid rfl⟩
  case round =>
    obtain ⟨p, q, nq, rfl, rfl, h3, h4, HG, HW⟩ := hrel
    by_cases hq : q = 0
    · subst hq
      go_wp2_with fail
      refine (size_any _ _ (by omega) (by omega)).mono ?_
      rintro e w' ⟨rfl, rfl⟩
      go_wp2
      go_ret
      exact ⟨ret_int (by unfold gc; rw [← HG.out]; simp), nq, HW.out⟩
    · have hd : (q != 0) = true := by rw [bne_iff_ne]; exact hq
      have hlt := tmod_lt p hq
      have hs := gcd_step (a := p) hq
      have HS := Lib.hid hs; clear hs
      go_wp2
      go_region
      go_wp2
      go_roundw
      case rel => exact ⟨q, _, nq + 1, rfl, rfl, h4, by omega, Lib.hid (HS.out.trans HG.out), Lib.hid (by first | rfl | (rw [HW.out]; rfl))⟩
      case measure => simp only [intOf]; exact hlt
end Go.Proofs.YtfocokjihbenmaaDoor.Nu
