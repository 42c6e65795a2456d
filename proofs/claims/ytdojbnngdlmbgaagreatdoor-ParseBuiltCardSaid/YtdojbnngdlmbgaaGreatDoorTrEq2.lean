/-
  The contracts of package tree's equalNodes and Equal.
-/
import Derived.Test.YtdojbnngdlmbgaaGreatDoorTrEq
namespace Go.Proofs.YtdojbnngdlmbgaaGreatDoor.Tr
open Go.RowKit

theorem ba_list {a b : ByteArray} (h : a.toList = b.toList) : a = b := by
  rw [ByteArray.toList_eq, ByteArray.toList_eq] at h
  exact ba_ext h rfl

end Go.Proofs.YtdojbnngdlmbgaaGreatDoor.Tr
