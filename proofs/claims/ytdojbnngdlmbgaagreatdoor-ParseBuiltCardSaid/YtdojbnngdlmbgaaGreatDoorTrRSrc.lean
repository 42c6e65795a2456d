/-
  The contracts of the reference's Source and args.
-/
import Derived.Test.YtdojbnngdlmbgaaGreatDoorTrWrite2
import Derived.Deep.RegionHeld3
namespace Go.Proofs.YtdojbnngdlmbgaaGreatDoor.Tr
open Go.RowKit

theorem size_of {X : ByteArray} {x : List UInt8} (h : X.data.toList = x) : X.size = x.length := by rw [← h]; rfl
theorem TagText_any (t : Int) (w : World) (c : Bool) (h1 : 1 ≤ t) (h3 : t ≤ 3) : Calls Tryz.prog 120 #[.int .i64 t, .bool c] w fun e w' => ∃ X : ByteArray, e = .returned (.string X) ∧ Hid (X.data.toList = (if c then [60, 47] else [60]) ++ tname t ++ [62]) ∧ Below w.heap.size w w' := by
  have : t = 1 ∨ t = 2 ∨ t = 3 := by omega
  rcases this with rfl | rfl | rfl <;> cases c <;>
  · go_enter Tryz.func120, Tryz.ntmps120
    go_wp2
    go_ret
    exact ⟨_, rfl, Lib.hid rfl, (Below.refl _ _).alloc (Nat.le_refl _) _⟩
end Go.Proofs.YtdojbnngdlmbgaaGreatDoor.Tr
