/-
  The law TokenScan, for every text.
-/
import Derived.Test.YthcclcoocoikoaaDoorTkRScan
namespace Go.Proofs.YthcclcoocoikoaaDoor.Tk
open Go.RowKit

set_option maxHeartbeats 1000000 in
theorem scanlaw_any (s : ByteArray) (w : World) (_hs : s.size ≤ maxLen) (ht : Tb w) :
    Calls Tryd.prog 3 #[.string s] w fun e w' => e = .returned (.bool true) ∧ Below w.heap.size w w' := by
  by_cases h : 1500 < s.size
  · have h1 : (1500 : Int) < (s.size : Int) := by omega
    go_enter Tryd.func3, Tryd.ntmps3
    go_wp2_with fail
    refine (known_any _ ht).mono ?_
    rintro e w1 ⟨rfl, hb⟩
    go_wp2
    go_ret
    exact ⟨rfl, hb⟩
  · have h1 : ¬ (1500 : Int) < (s.size : Int) := by omega
    go_enter Tryd.func3, Tryd.ntmps3
    go_wp2_with fail
    refine (Scan_any _ _ ht (by omega)).mono ?_
    rintro e w1 ⟨v1, rfl, ho1, hb1⟩
    have HO1 := Lib.hid ho1; have HB1 := Lib.hid hb1
    clear ho1 hb1
    go_wp2_with fail
    refine (ScanR_any _ _ (by omega)).mono ?_
    rintro e w2 ⟨v2, rfl, ho2, hb2⟩
    have r2 := Lib.hid ho2.rd
    have r1 : Hid (Rd w2 w2.heap.size v1 (scanL s.data.toList 0 0)) := Lib.hid ((HO1.out.rd.below hb2 (Nat.le_refl _)).more hb2.size)
    have HB2 : Hid (Below w.heap.size w w2) := Lib.hid (HB1.out.trans (hb2.mono HB1.out.size))
    clear ho2 hb2 HO1 HB1
    go_wp2_with fail
    refine (SameTokens_any _ _ _ _ _ _ r1.out r2.out).mono ?_
    rintro e w3 ⟨rfl, n, rfl⟩
    rw [decide_eq_true rfl]
    have ht3 : Hid (Tb (w2.drewN n)) := Lib.hid ((ht.below HB2.out).drewN n)
    go_wp2_with fail
    refine (known_any _ ht3.out).mono ?_
    rintro e w4 ⟨rfl, hb⟩
    go_wp2
    go_ret
    exact ⟨rfl, (below_drewN HB2.out n).trans (hb.mono (show w.heap.size ≤ w2.heap.size from HB2.out.size))⟩
end Go.Proofs.YthcclcoocoikoaaDoor.Tk
