/-
  The contract of the reference's Count.
-/
import Derived.Test.YtdojbnngdlmbgaaGreatDoorChecked
import Derived.Test.YtdojbnngdlmbgaaGreatDoorTrMem
import Derived.WalkKit
import Derived.WalkSpells
import Derived.WalkLawsBesides
import Derived.Outline
import Derived.Deep.QuietTactic
import Derived.BigQuiet
import Derived.Deep.RegionWith
import Derived.Lib.Hide
import Derived.IntWalk
namespace Go.Proofs.YtdojbnngdlmbgaaGreatDoor.Tr
open Go.RowKit

theorem ret_int {k : IntKind} {a b : Int} (h : a = b) : Ending.returned (.int k a) = .returned (.int k b) := by rw [h]
theorem ret_bool {a b : Bool} (h : a = b) : Ending.returned (.bool a) = .returned (.bool b) := by rw [h]
theorem ret_str {a b : ByteArray} (h : a = b) : Ending.returned (.string a) = .returned (.string b) := by rw [h]
theorem below_drewN {B : Nat} {a w : World} (h : Below B a w) (n : Nat) : Below B a (w.drewN n) := ⟨h.os, h.tape, h.output, h.size, h.block⟩
theorem LRd.drewN {d : Nat} {w : World} {B : Nat} {v : Value} {l : List Nd} (h : LRd d w B v l) (n : Nat) : LRd d (w.drewN n) B v l := h.imp (Nat.le_refl _) fun _ _ => rfl
theorem cntR_take {l : List Nd} {k : Nat} (h : k < l.length) : cntR (l.take (k + 1)) = cntR (l.take k) + cntRN l[k] := by
  rw [List.take_succ_eq_append_getElem h, cntR_append, cntR_cons, cntR_nil]; omega
theorem cntRA_take {l : List Ar} {k : Nat} (h : k < l.length) : cntRA (l.take (k + 1)) = cntRA (l.take k) + cntRG l[k] := by
  rw [List.take_succ_eq_append_getElem h, cntRA_append, cntRA_cons, cntRA_nil]; omega
theorem sz_take (l : List Nd) (k : Nat) : sz (l.take k) ≤ sz l := by
  have : l = l.take k ++ l.drop k := (List.take_append_drop k l).symm
  rw [this, sz_append]; simp only [← this]; omega
theorem szA_take (l : List Ar) (k : Nat) : szA (l.take k) ≤ szA l := by
  have : l = l.take k ++ l.drop k := (List.take_append_drop k l).symm
  rw [this, szA_append]; simp only [← this]; omega
/-- The number that the reference's Count has reached after k nodes: their own count as roots is in 'len'. -/
def cR (l : List Nd) (k : Nat) : Nat := l.length + (cntR (l.take k) - k)
theorem cntR_ge (l : List Nd) : l.length ≤ cntR l := by
  induction l with
  | nil => simp
  | cons n r ih => rw [cntR_cons, cntRN_eq, List.length_cons]; omega
theorem cR_succ {l : List Nd} {k : Nat} (h : k < l.length) : cR l (k + 1) = cR l k + cntR l[k].kids + cntRA l[k].args := by
  have h1 := cntR_ge (l.take k)
  rw [List.length_take_of_le (by omega)] at h1
  unfold cR; rw [cntR_take h, cntRN_eq]; omega
theorem cR_end (l : List Nd) : cR l l.length = cntR l := by
  have h1 := cntR_ge l
  unfold cR; rw [List.take_length]; omega
theorem cR_le (l : List Nd) (k : Nat) : cR l k ≤ 2 * sz l := by
  have h1 := sz_len l; have h2 := cntR_le (l.take k); have h3 := sz_take l k
  unfold cR; omega

end Go.Proofs.YtdojbnngdlmbgaaGreatDoor.Tr
