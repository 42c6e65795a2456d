/-
  The law's own check, known: the tokens of the chapter's first example.
-/
import Derived.Test.YthcclcoocoikoaaDoorTkSame
namespace Go.Proofs.YthcclcoocoikoaaDoor.Tk
open Go.RowKit

def knownL : List UInt8 := [97, 123, 123, 123, 98, 125, 125, 124, 99]
def knownT : List Tok := [(1, 0, 1), (3, 1, 4), (1, 4, 5), (4, 5, 7), (7, 7, 8), (1, 8, 9)]
theorem known_scan : scanL knownL 0 0 = knownT := by
  have e0 : scanL knownL 0 0 = scanL knownL 0 1 := scan_no (by decide) (by decide)
  have e1 : scanL knownL 0 1 = gap 0 1 ++ (3, 1, 4) :: scanL knownL 4 4 := scan_yes (by decide) (by decide)
  have e4 : scanL knownL 4 4 = scanL knownL 4 5 := scan_no (by decide) (by decide)
  have e5 : scanL knownL 4 5 = gap 4 5 ++ (4, 5, 7) :: scanL knownL 7 7 := scan_yes (by decide) (by decide)
  have e7 : scanL knownL 7 7 = gap 7 7 ++ (7, 7, 8) :: scanL knownL 8 8 := scan_yes (by decide) (by decide)
  have e8 : scanL knownL 8 8 = scanL knownL 8 9 := scan_no (by decide) (by decide)
  have e9 : scanL knownL 8 9 = gap 8 9 := scan_end (by decide)
  rw [e0, e1, e4, e5, e7, e8, e9]
  rfl

set_option maxHeartbeats 1000000 in
theorem known_any (w : World) (ht : Tb w) :
    Calls Tryd.prog 9 #[] w fun e w' => e = .returned (.bool true) ∧ Below w.heap.size w w' := by
  go_enter Tryd.func9, Tryd.ntmps9
  go_wp2_with fail
  refine (Scan_any _ _ ht (by decide)).mono ?_
  rintro e w1 ⟨v1, rfl, ho1, hb1⟩
  have ho1' : Own w1 w.heap.size v1 knownT := by rw [← known_scan]; exact ho1
  have HO := Lib.hid ho1'; have HB := Lib.hid hb1
  clear ho1 ho1' hb1
  go_wp2_with fail
  have hs := HB.out.size
  have r1 : Rd (w1.alloc (.cells (cellsOf knownT).toArray 30)) (w1.heap.size + 1) v1 knownT := ((HO.out.rd).below ((Below.refl _ _).alloc (Nat.le_refl _) _) (Nat.le_refl _)).more (by omega)
  have r2 : Rd (w1.alloc (.cells (cellsOf knownT).toArray 30)) (w1.heap.size + 1) (.slice (some ⟨w1.heap.size, 0, none⟩) 6 6) knownT := by
    have h : Own (w1.alloc (.cells (cellsOf knownT).toArray 30)) w.heap.size (.slice (some ⟨w1.heap.size, 0, none⟩) 6 6) knownT := World.ownsRow_lit _ _ 6 hs (by simp [maxLen]) rfl
    exact h.rd.more (by simp)
  refine (SameTokens_any _ _ knownT knownT _ _ r1 r2).mono ?_
  rintro e w2 ⟨rfl, n, rfl⟩
  clear r1 r2
  go_wp2
  go_ret
  exact ⟨rfl, below_drewN (HB.out.alloc hs _) n⟩
end Go.Proofs.YthcclcoocoikoaaDoor.Tk
