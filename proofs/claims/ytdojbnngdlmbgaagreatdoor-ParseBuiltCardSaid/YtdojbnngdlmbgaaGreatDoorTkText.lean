/-
  The contracts of Text, of package token and of the reference, for tokens of any form.
-/
import Derived.Test.YtdojbnngdlmbgaaGreatDoorTkScan
namespace Go.Proofs.YtdojbnngdlmbgaaGreatDoor.Tk
open Go.RowKit

/-- The bytes from f up to t, or none where there are none. -/
def textOf (s : List UInt8) (f t : Int) : List UInt8 := if f < 0 ∨ t < f ∨ (s.length : Int) < t then [] else (s.drop f.toNat).take (t.toNat - f.toNat)
theorem textOf_bad {s : List UInt8} {f t : Int} (h : f < 0 ∨ t < f ∨ (s.length : Int) < t) : textOf s f t = [] := if_pos h
theorem textOf_good {s : List UInt8} {f t : Int} (h : ¬ (f < 0 ∨ t < f ∨ (s.length : Int) < t)) : textOf s f t = (s.drop f.toNat).take (t.toNat - f.toNat) := if_neg h

theorem Text_any (s : ByteArray) (k f t : Int) (w : World) :
    Calls Tryz.prog 31 #[.string s, .agg #[.int .i64 k, .int .i64 f, .int .i64 t]] w fun e w' => e = .returned (.string ⟨(textOf s.data.toList f t).toArray⟩) ∧ Below w.heap.size w w' := by
  have hsl : (s.data.toList.length : Int) = (s.size : Int) := rfl
  have hbel : Below w.heap.size w (w.alloc (.cells #[.int .i64 k, .int .i64 f, .int .i64 t] 72)) := (Below.refl _ _).alloc (Nat.le_refl _) _
  have HB := Lib.hid hbel; clear hbel
  by_cases h1 : f < 0
  · have HT : Hid (textOf s.data.toList f t = []) := Lib.hid (textOf_bad (.inl h1))
    clear hsl
    go_enter Tryz.func31, Tryz.ntmps31
    go_wp2
    go_ret
    exact ⟨ret_str (by rw [HT.out]), HB.out⟩
  · have h1' : decide (f < 0) = false := by simpa using h1
    by_cases h2 : t < f
    · have HT : Hid (textOf s.data.toList f t = []) := Lib.hid (textOf_bad (.inr (.inl h2)))
      clear hsl
      go_enter Tryz.func31, Tryz.ntmps31
      go_wp2
      go_ret
      exact ⟨ret_str (by rw [HT.out]), HB.out⟩
    · have h2' : decide (t < f) = false := by simpa using h2
      by_cases h3 : (s.size : Int) < t
      · have HT : Hid (textOf s.data.toList f t = []) := Lib.hid (textOf_bad (.inr (.inr (by rw [hsl]; exact h3))))
        clear hsl
        go_enter Tryz.func31, Tryz.ntmps31
        go_wp2
        go_ret
        exact ⟨ret_str (by rw [HT.out]), HB.out⟩
      · have h3' : decide ((s.size : Int) < t) = false := by simpa using h3
        have HT : Hid (textOf s.data.toList f t = (s.data.toList.drop f.toNat).take (t.toNat - f.toNat)) := Lib.hid (textOf_good (by rw [hsl]; omega))
        clear hsl
        obtain ⟨a, rfl⟩ : ∃ a : Nat, f = a := ⟨f.toNat, by omega⟩
        obtain ⟨b, rfl⟩ : ∃ b : Nat, t = b := ⟨t.toNat, by omega⟩
        have g1 : a ≤ b := by omega
        have g2 : b ≤ s.size := by omega
        have g3 : (a : Int) ≤ (b : Int) := by omega
        have g4 : (b : Int) ≤ (s.size : Int) := by omega
        go_enter Tryz.func31, Tryz.ntmps31
        go_wp2
        go_ret
        exact ⟨ret_str (by rw [HT.out, Lib.extract_eq]; rfl), HB.out⟩

theorem TextR_any (s : ByteArray) (k f t : Int) (w : World) :
    Calls Tryz.prog 74 #[.string s, .agg #[.int .i64 k, .int .i64 f, .int .i64 t]] w fun e w' => e = .returned (.string ⟨(textOf s.data.toList f t).toArray⟩) ∧ Below w.heap.size w w' := by
  have hsl : (s.data.toList.length : Int) = (s.size : Int) := rfl
  have hbel : Below w.heap.size w (w.alloc (.cells #[.int .i64 k, .int .i64 f, .int .i64 t] 72)) := (Below.refl _ _).alloc (Nat.le_refl _) _
  have HB := Lib.hid hbel; clear hbel
  by_cases h1 : f < 0
  · have HT : Hid (textOf s.data.toList f t = []) := Lib.hid (textOf_bad (.inl h1))
    clear hsl
    go_enter Tryz.func74, Tryz.ntmps74
    go_wp2
    go_ret
    exact ⟨ret_str (by rw [HT.out]), HB.out⟩
  · have h1' : decide (f < 0) = false := by simpa using h1
    by_cases h2 : t < f
    · have HT : Hid (textOf s.data.toList f t = []) := Lib.hid (textOf_bad (.inr (.inl h2)))
      clear hsl
      go_enter Tryz.func74, Tryz.ntmps74
      go_wp2
      go_ret
      exact ⟨ret_str (by rw [HT.out]), HB.out⟩
    · have h2' : decide (t < f) = false := by simpa using h2
      by_cases h3 : (s.size : Int) < t
      · have HT : Hid (textOf s.data.toList f t = []) := Lib.hid (textOf_bad (.inr (.inr (by rw [hsl]; exact h3))))
        clear hsl
        go_enter Tryz.func74, Tryz.ntmps74
        go_wp2
        go_ret
        exact ⟨ret_str (by rw [HT.out]), HB.out⟩
      · have h3' : decide ((s.size : Int) < t) = false := by simpa using h3
        have HT : Hid (textOf s.data.toList f t = (s.data.toList.drop f.toNat).take (t.toNat - f.toNat)) := Lib.hid (textOf_good (by rw [hsl]; omega))
        clear hsl
        obtain ⟨a, rfl⟩ : ∃ a : Nat, f = a := ⟨f.toNat, by omega⟩
        obtain ⟨b, rfl⟩ : ∃ b : Nat, t = b := ⟨t.toNat, by omega⟩
        have g1 : a ≤ b := by omega
        have g2 : b ≤ s.size := by omega
        have g3 : (a : Int) ≤ (b : Int) := by omega
        have g4 : (b : Int) ≤ (s.size : Int) := by omega
        go_enter Tryz.func74, Tryz.ntmps74
        go_wp2
        go_ret
        exact ⟨ret_str (by rw [HT.out, Lib.extract_eq]; rfl), HB.out⟩
end Go.Proofs.YtdojbnngdlmbgaaGreatDoor.Tk
