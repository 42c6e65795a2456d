/-
  The contract of the reference's Source.
-/
import Derived.Test.YtdojbnngdlmbgaaGreatDoorTrRSrc
namespace Go.Proofs.YtdojbnngdlmbgaaGreatDoor.Tr
open Go.RowKit

theorem ba_ext {X K : ByteArray} {x : List UInt8} (h : X.data.toList = x) (k : K.data.toList = x) : X = K := by
  cases X; cases K; simp only at h k; congr 1; exact Array.ext' (h.trans k.symm)
/-- What stands while a region of Source runs. -/
structure Hs (b : Nat) (t : Int) (vk va : Value) (w : World) (W : World) : Prop where
  k1 : W.cell? ⟨b, 1, none⟩ = some (.int .i64 t)
  k3 : W.cell? ⟨b, 3, none⟩ = some vk
  k4 : W.cell? ⟨b, 4, none⟩ = some va
  bl : Below w.heap.size w W
  lt : b < W.heap.size
theorem Hs.drew {b : Nat} {t : Int} {vk va : Value} {w W : World} (h : Hs b t vk va w W) : Hs b t vk va w W.drew := ⟨h.k1, h.k3, h.k4, h.bl.drew, h.lt⟩
theorem Hs.below {b : Nat} {t : Int} {vk va : Value} {w W W' : World} (h : Hs b t vk va w W) (hb : Below W.heap.size W W') : Hs b t vk va w W' :=
  ⟨(hb.cell h.lt).trans h.k1, (hb.cell h.lt).trans h.k3, (hb.cell h.lt).trans h.k4, h.bl.trans (hb.mono h.bl.size), Nat.lt_of_lt_of_le h.lt hb.size⟩
theorem tag_hs {b : Nat} {t : Int} {vk va : Value} {w W : World} {K : ByteArray} (c : Bool) (h : Hs b t vk va w W) (h1 : 1 ≤ t) (h3 : t ≤ 3) (hK : K.data.toList = (if c then [60, 47] else [60]) ++ tname t ++ [62]) :
    Calls Tryz.prog 120 #[.int .i64 t, .bool c] W fun e w' => e = .returned (.string K) ∧ Hs b t vk va w w' :=
  (TagText_any t W c h1 h3).mono fun e w' ⟨X, he, hX, hb⟩ => ⟨by rw [he, ba_ext hX.out hK], h.below hb⟩
theorem tname_ne {t : Int} (h1 : 1 ≤ t) (h3 : t ≤ 3) : tname t ≠ [] := by
  have : t = 1 ∨ t = 2 ∨ t = 3 := by omega
  rcases this with rfl | rfl | rfl <;> simp [tname]
theorem tname_no {t : Int} (h : ¬ (1 ≤ t ∧ t ≤ 3)) : tname t = [] := by
  unfold tname; rw [if_neg (by omega), if_neg (by omega), if_neg (by omega)]

theorem meas {n k : Nat} (h : k < n) : n - (intOf (.int .i64 ((k : Int) + 1))).toNat < n - (intOf (.int .i64 (k : Int))).toNat := by simp [intOf]; omega
end Go.Proofs.YtdojbnngdlmbgaaGreatDoor.Tr
