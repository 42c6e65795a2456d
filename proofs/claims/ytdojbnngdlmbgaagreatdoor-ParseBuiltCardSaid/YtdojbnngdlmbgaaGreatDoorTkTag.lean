/-
  The contract of Tag of package token, for tokens of any form.
-/
import Derived.Test.YtdojbnngdlmbgaaGreatDoorTkText
namespace Go.Proofs.YtdojbnngdlmbgaaGreatDoor.Tk
open Go.RowKit

/-- The tag that a token of kind kd with the text x opens or closes, from the k-th one on. -/
def tagOf (kd : Int) (x : List UInt8) : Nat → Nat → Nat
  | 0, _ => 0
  | n + 1, k => if (kd = 11 ∧ x = tO k) ∨ (kd = 12 ∧ x = tE k) then k else tagOf kd x n (k + 1)
theorem tagOf_yes {kd : Int} {x : List UInt8} {n k : Nat} (h : (kd = 11 ∧ x = tO k) ∨ (kd = 12 ∧ x = tE k)) : tagOf kd x (n + 1) k = k := by rw [tagOf, if_pos h]
theorem tagOf_no {kd : Int} {x : List UInt8} {n k : Nat} (h : ¬ ((kd = 11 ∧ x = tO k) ∨ (kd = 12 ∧ x = tE k))) : tagOf kd x (n + 1) k = tagOf kd x n (k + 1) := by rw [tagOf, if_neg h]
theorem str_is {X : ByteArray} {l : List UInt8} : (X.toList == l) = decide (X.data.toList = l) := by
  rw [Lib.toList_data]
  by_cases h : X.data.toList = l
  · rw [decide_eq_true h, h]; simp
  · rw [decide_eq_false h]; simpa using h

set_option maxHeartbeats 2000000 in
theorem Tag_open (s : ByteArray) (kd f t : Int) (w : World) (ht : Tb w) (hkd : kd = 11) :
    Calls Tryz.prog 32 #[.string s, .agg #[.int .i64 kd, .int .i64 f, .int .i64 t]] w fun e w' => e = .returned (.int .i64 (tagOf kd (textOf s.data.toList f t) 3 1 : Nat)) ∧ Below w.heap.size w w' := by
  subst hkd
  have hbel : Below w.heap.size w (w.alloc (.cells #[.int .i64 11, .int .i64 f, .int .i64 t] 72)) := (Below.refl _ _).alloc (Nat.le_refl _) _
  have HB := Lib.hid hbel; clear hbel
  have i0 := ix0
  have i1 := ix1
  have i2 := ix2
  go_enter Tryz.func32, Tryz.ntmps32
  go_wp2_with fail
  refine (Text_any _ _ _ _ _).mono ?_
  rintro e w1 ⟨rfl, hb1⟩
  generalize hX : (⟨(textOf s.data.toList f t).toArray⟩ : ByteArray) = X
  have HX : Hid (textOf s.data.toList f t = X.data.toList) := Lib.hid (by rw [← hX])
  clear hX
  have hs1 := hb1.size
  simp at hs1
  have hcell : w1.cell? ⟨w.heap.size, 0, none⟩ = some (.int .i64 11) := by rw [hb1.cell (p := ⟨w.heap.size, 0, none⟩) (by simp)]; simp
  have HC := Lib.hid hcell; clear hcell
  obtain ⟨t', fr, htg⟩ := ((ht.below HB.out).below hb1).tg
  have HW : Hid (Below w.heap.size w w1) := Lib.hid (HB.out.trans (hb1.mono (by simp)))
  clear hb1
  go_wp2_with (refine wpList_load_row rfl 121 _ rfl 0 rfl t' tagCells fr _ htg Tryz.underlying121 rfl (by kernel_rfl) ?_)
  clear htg
  go_loopw [14] (fun i wr => ∃ k : Nat, k ≤ 3 ∧ i = .int .i64 k ∧ Hid (Below w1.heap.size w1 wr) ∧ Hid (tagOf 11 (textOf s.data.toList f t) 3 1 = tagOf 11 (textOf s.data.toList f t) (3 - k) (k + 1))) (fun i _ => 3 - (intOf i).toNat)
  case atStart => exact ⟨0, by omega, rfl, Lib.hid (Below.refl _ _), Lib.hid rfl⟩
  case round =>
    obtain ⟨k, hk, rfl, hb, hr⟩ := hrel
    have hz := hb.out.size
    have hcl : ∀ o, (wr.alloc o).cell? ⟨w.heap.size, 0, none⟩ = some (.int .i64 11) := fun o => by rw [World.cell?_alloc_lt wr o ⟨w.heap.size, 0, none⟩ (by show w.heap.size < _; omega), hb.out.cell (p := ⟨w.heap.size, 0, none⟩) (by show w.heap.size < _; omega)]; exact HC.out
    have hcases : k = 0 ∨ k = 1 ∨ k = 2 ∨ k = 3 := by omega
    rcases hcases with rfl | rfl | rfl | rfl
    · by_cases h : textOf s.data.toList f t = tO 1
      · have hd : (X.toList == [60, 110, 111, 105, 110, 99, 108, 117, 100, 101, 62]) = true := by rw [str_is, ← HX.out]; exact decide_eq_true h
        have hd' : X.toList = [60, 110, 111, 105, 110, 99, 108, 117, 100, 101, 62] := by simpa using hd
        have HN : Hid (tagOf 11 (textOf s.data.toList f t) 3 1 = 1) := Lib.hid (hr.out.trans (tagOf_yes (k := 1) (Or.inl ⟨rfl, h⟩)))
        clear h
        go_wp2
        go_ret
        exact ⟨ret_int (by rw [HN.out]; rfl), HW.out.trans ((hb.out.alloc hz _).mono HW.out.size)⟩
      · have hd : (X.toList == [60, 110, 111, 105, 110, 99, 108, 117, 100, 101, 62]) = false := by rw [str_is, ← HX.out]; exact decide_eq_false h
        have hd' : ¬ X.toList = [60, 110, 111, 105, 110, 99, 108, 117, 100, 101, 62] := by simpa using hd
        have HN : Hid (tagOf 11 (textOf s.data.toList f t) 3 1 = tagOf 11 (textOf s.data.toList f t) 2 2) := Lib.hid (hr.out.trans (tagOf_no (k := 1) (fun q => by rcases q with ⟨a, b⟩ | ⟨a, b⟩ <;> first | exact h b | simp at a)))
        clear h
        go_wp2
        go_roundw
        case rel => exact ⟨1, by omega, by first | rfl | go_num, Lib.hid (hb.out.alloc hz _), HN⟩
        case measure => simp [intOf]
    · by_cases h : textOf s.data.toList f t = tO 2
      · have hd : (X.toList == [60, 105, 110, 99, 108, 117, 100, 101, 111, 110, 108, 121, 62]) = true := by rw [str_is, ← HX.out]; exact decide_eq_true h
        have hd' : X.toList = [60, 105, 110, 99, 108, 117, 100, 101, 111, 110, 108, 121, 62] := by simpa using hd
        have HN : Hid (tagOf 11 (textOf s.data.toList f t) 3 1 = 2) := Lib.hid (hr.out.trans (tagOf_yes (k := 2) (Or.inl ⟨rfl, h⟩)))
        clear h
        go_wp2
        go_ret
        exact ⟨ret_int (by rw [HN.out]; rfl), HW.out.trans ((hb.out.alloc hz _).mono HW.out.size)⟩
      · have hd : (X.toList == [60, 105, 110, 99, 108, 117, 100, 101, 111, 110, 108, 121, 62]) = false := by rw [str_is, ← HX.out]; exact decide_eq_false h
        have hd' : ¬ X.toList = [60, 105, 110, 99, 108, 117, 100, 101, 111, 110, 108, 121, 62] := by simpa using hd
        have HN : Hid (tagOf 11 (textOf s.data.toList f t) 3 1 = tagOf 11 (textOf s.data.toList f t) 1 3) := Lib.hid (hr.out.trans (tagOf_no (k := 2) (fun q => by rcases q with ⟨a, b⟩ | ⟨a, b⟩ <;> first | exact h b | simp at a)))
        clear h
        go_wp2
        go_roundw
        case rel => exact ⟨2, by omega, by first | rfl | go_num, Lib.hid (hb.out.alloc hz _), HN⟩
        case measure => simp [intOf]
    · by_cases h : textOf s.data.toList f t = tO 3
      · have hd : (X.toList == [60, 111, 110, 108, 121, 105, 110, 99, 108, 117, 100, 101, 62]) = true := by rw [str_is, ← HX.out]; exact decide_eq_true h
        have hd' : X.toList = [60, 111, 110, 108, 121, 105, 110, 99, 108, 117, 100, 101, 62] := by simpa using hd
        have HN : Hid (tagOf 11 (textOf s.data.toList f t) 3 1 = 3) := Lib.hid (hr.out.trans (tagOf_yes (k := 3) (Or.inl ⟨rfl, h⟩)))
        clear h
        go_wp2
        go_ret
        exact ⟨ret_int (by rw [HN.out]; rfl), HW.out.trans ((hb.out.alloc hz _).mono HW.out.size)⟩
      · have hd : (X.toList == [60, 111, 110, 108, 121, 105, 110, 99, 108, 117, 100, 101, 62]) = false := by rw [str_is, ← HX.out]; exact decide_eq_false h
        have hd' : ¬ X.toList = [60, 111, 110, 108, 121, 105, 110, 99, 108, 117, 100, 101, 62] := by simpa using hd
        have HN : Hid (tagOf 11 (textOf s.data.toList f t) 3 1 = tagOf 11 (textOf s.data.toList f t) 0 4) := Lib.hid (hr.out.trans (tagOf_no (k := 3) (fun q => by rcases q with ⟨a, b⟩ | ⟨a, b⟩ <;> first | exact h b | simp at a)))
        clear h
        go_wp2
        go_roundw
        case rel => exact ⟨3, by omega, by first | rfl | go_num, Lib.hid (hb.out.alloc hz _), HN⟩
        case measure => simp [intOf]
    · go_wp2
      go_ret
      exact ⟨ret_int (by rw [hr.out]; rfl), HW.out.trans (hb.out.mono HW.out.size)⟩

set_option maxHeartbeats 2000000 in
theorem Tag_close (s : ByteArray) (kd f t : Int) (w : World) (ht : Tb w) (hkd : kd = 12) :
    Calls Tryz.prog 32 #[.string s, .agg #[.int .i64 kd, .int .i64 f, .int .i64 t]] w fun e w' => e = .returned (.int .i64 (tagOf kd (textOf s.data.toList f t) 3 1 : Nat)) ∧ Below w.heap.size w w' := by
  subst hkd
  have hbel : Below w.heap.size w (w.alloc (.cells #[.int .i64 12, .int .i64 f, .int .i64 t] 72)) := (Below.refl _ _).alloc (Nat.le_refl _) _
  have HB := Lib.hid hbel; clear hbel
  have i0 := ix0
  have i1 := ix1
  have i2 := ix2
  go_enter Tryz.func32, Tryz.ntmps32
  go_wp2_with fail
  refine (Text_any _ _ _ _ _).mono ?_
  rintro e w1 ⟨rfl, hb1⟩
  generalize hX : (⟨(textOf s.data.toList f t).toArray⟩ : ByteArray) = X
  have HX : Hid (textOf s.data.toList f t = X.data.toList) := Lib.hid (by rw [← hX])
  clear hX
  have hs1 := hb1.size
  simp at hs1
  have hcell : w1.cell? ⟨w.heap.size, 0, none⟩ = some (.int .i64 12) := by rw [hb1.cell (p := ⟨w.heap.size, 0, none⟩) (by simp)]; simp
  have HC := Lib.hid hcell; clear hcell
  obtain ⟨t', fr, htg⟩ := ((ht.below HB.out).below hb1).tg
  have HW : Hid (Below w.heap.size w w1) := Lib.hid (HB.out.trans (hb1.mono (by simp)))
  clear hb1
  go_wp2_with (refine wpList_load_row rfl 121 _ rfl 0 rfl t' tagCells fr _ htg Tryz.underlying121 rfl (by kernel_rfl) ?_)
  clear htg
  go_loopw [14] (fun i wr => ∃ k : Nat, k ≤ 3 ∧ i = .int .i64 k ∧ Hid (Below w1.heap.size w1 wr) ∧ Hid (tagOf 12 (textOf s.data.toList f t) 3 1 = tagOf 12 (textOf s.data.toList f t) (3 - k) (k + 1))) (fun i _ => 3 - (intOf i).toNat)
  case atStart => exact ⟨0, by omega, rfl, Lib.hid (Below.refl _ _), Lib.hid rfl⟩
  case round =>
    obtain ⟨k, hk, rfl, hb, hr⟩ := hrel
    have hz := hb.out.size
    have hcl : ∀ o, (wr.alloc o).cell? ⟨w.heap.size, 0, none⟩ = some (.int .i64 12) := fun o => by rw [World.cell?_alloc_lt wr o ⟨w.heap.size, 0, none⟩ (by show w.heap.size < _; omega), hb.out.cell (p := ⟨w.heap.size, 0, none⟩) (by show w.heap.size < _; omega)]; exact HC.out
    have hcases : k = 0 ∨ k = 1 ∨ k = 2 ∨ k = 3 := by omega
    rcases hcases with rfl | rfl | rfl | rfl
    · by_cases h : textOf s.data.toList f t = tE 1
      · have hd : (X.toList == [60, 47, 110, 111, 105, 110, 99, 108, 117, 100, 101, 62]) = true := by rw [str_is, ← HX.out]; exact decide_eq_true h
        have hd' : X.toList = [60, 47, 110, 111, 105, 110, 99, 108, 117, 100, 101, 62] := by simpa using hd
        have HN : Hid (tagOf 12 (textOf s.data.toList f t) 3 1 = 1) := Lib.hid (hr.out.trans (tagOf_yes (k := 1) (Or.inr ⟨rfl, h⟩)))
        clear h
        go_wp2
        go_ret
        exact ⟨ret_int (by rw [HN.out]; rfl), HW.out.trans ((hb.out.alloc hz _).mono HW.out.size)⟩
      · have hd : (X.toList == [60, 47, 110, 111, 105, 110, 99, 108, 117, 100, 101, 62]) = false := by rw [str_is, ← HX.out]; exact decide_eq_false h
        have hd' : ¬ X.toList = [60, 47, 110, 111, 105, 110, 99, 108, 117, 100, 101, 62] := by simpa using hd
        have HN : Hid (tagOf 12 (textOf s.data.toList f t) 3 1 = tagOf 12 (textOf s.data.toList f t) 2 2) := Lib.hid (hr.out.trans (tagOf_no (k := 1) (fun q => by rcases q with ⟨a, b⟩ | ⟨a, b⟩ <;> first | exact h b | simp at a)))
        clear h
        go_wp2
        go_roundw
        case rel => exact ⟨1, by omega, by first | rfl | go_num, Lib.hid (hb.out.alloc hz _), HN⟩
        case measure => simp [intOf]
    · by_cases h : textOf s.data.toList f t = tE 2
      · have hd : (X.toList == [60, 47, 105, 110, 99, 108, 117, 100, 101, 111, 110, 108, 121, 62]) = true := by rw [str_is, ← HX.out]; exact decide_eq_true h
        have hd' : X.toList = [60, 47, 105, 110, 99, 108, 117, 100, 101, 111, 110, 108, 121, 62] := by simpa using hd
        have HN : Hid (tagOf 12 (textOf s.data.toList f t) 3 1 = 2) := Lib.hid (hr.out.trans (tagOf_yes (k := 2) (Or.inr ⟨rfl, h⟩)))
        clear h
        go_wp2
        go_ret
        exact ⟨ret_int (by rw [HN.out]; rfl), HW.out.trans ((hb.out.alloc hz _).mono HW.out.size)⟩
      · have hd : (X.toList == [60, 47, 105, 110, 99, 108, 117, 100, 101, 111, 110, 108, 121, 62]) = false := by rw [str_is, ← HX.out]; exact decide_eq_false h
        have hd' : ¬ X.toList = [60, 47, 105, 110, 99, 108, 117, 100, 101, 111, 110, 108, 121, 62] := by simpa using hd
        have HN : Hid (tagOf 12 (textOf s.data.toList f t) 3 1 = tagOf 12 (textOf s.data.toList f t) 1 3) := Lib.hid (hr.out.trans (tagOf_no (k := 2) (fun q => by rcases q with ⟨a, b⟩ | ⟨a, b⟩ <;> first | exact h b | simp at a)))
        clear h
        go_wp2
        go_roundw
        case rel => exact ⟨2, by omega, by first | rfl | go_num, Lib.hid (hb.out.alloc hz _), HN⟩
        case measure => simp [intOf]
    · by_cases h : textOf s.data.toList f t = tE 3
      · have hd : (X.toList == [60, 47, 111, 110, 108, 121, 105, 110, 99, 108, 117, 100, 101, 62]) = true := by rw [str_is, ← HX.out]; exact decide_eq_true h
        have hd' : X.toList = [60, 47, 111, 110, 108, 121, 105, 110, 99, 108, 117, 100, 101, 62] := by simpa using hd
        have HN : Hid (tagOf 12 (textOf s.data.toList f t) 3 1 = 3) := Lib.hid (hr.out.trans (tagOf_yes (k := 3) (Or.inr ⟨rfl, h⟩)))
        clear h
        go_wp2
        go_ret
        exact ⟨ret_int (by rw [HN.out]; rfl), HW.out.trans ((hb.out.alloc hz _).mono HW.out.size)⟩
      · have hd : (X.toList == [60, 47, 111, 110, 108, 121, 105, 110, 99, 108, 117, 100, 101, 62]) = false := by rw [str_is, ← HX.out]; exact decide_eq_false h
        have hd' : ¬ X.toList = [60, 47, 111, 110, 108, 121, 105, 110, 99, 108, 117, 100, 101, 62] := by simpa using hd
        have HN : Hid (tagOf 12 (textOf s.data.toList f t) 3 1 = tagOf 12 (textOf s.data.toList f t) 0 4) := Lib.hid (hr.out.trans (tagOf_no (k := 3) (fun q => by rcases q with ⟨a, b⟩ | ⟨a, b⟩ <;> first | exact h b | simp at a)))
        clear h
        go_wp2
        go_roundw
        case rel => exact ⟨3, by omega, by first | rfl | go_num, Lib.hid (hb.out.alloc hz _), HN⟩
        case measure => simp [intOf]
    · go_wp2
      go_ret
      exact ⟨ret_int (by rw [hr.out]; rfl), HW.out.trans (hb.out.mono HW.out.size)⟩

set_option maxHeartbeats 2000000 in
theorem Tag_none (s : ByteArray) (kd f t : Int) (w : World) (ht : Tb w) (hkd : kd ≠ 11 ∧ kd ≠ 12) :
    Calls Tryz.prog 32 #[.string s, .agg #[.int .i64 kd, .int .i64 f, .int .i64 t]] w fun e w' => e = .returned (.int .i64 (tagOf kd (textOf s.data.toList f t) 3 1 : Nat)) ∧ Below w.heap.size w w' := by
  have k1 : (kd == 11) = false := by rw [beq_eq_false_iff_ne]; exact hkd.1
  have k2 : (kd == 12) = false := by rw [beq_eq_false_iff_ne]; exact hkd.2
  have HK := Lib.hid hkd; clear hkd
  have hbel : Below w.heap.size w (w.alloc (.cells #[.int .i64 kd, .int .i64 f, .int .i64 t] 72)) := (Below.refl _ _).alloc (Nat.le_refl _) _
  have HB := Lib.hid hbel; clear hbel
  have i0 := ix0
  have i1 := ix1
  have i2 := ix2
  go_enter Tryz.func32, Tryz.ntmps32
  go_wp2_with fail
  refine (Text_any _ _ _ _ _).mono ?_
  rintro e w1 ⟨rfl, hb1⟩
  generalize hX : (⟨(textOf s.data.toList f t).toArray⟩ : ByteArray) = X
  have HX : Hid (textOf s.data.toList f t = X.data.toList) := Lib.hid (by rw [← hX])
  clear hX
  have hs1 := hb1.size
  simp at hs1
  have hcell : w1.cell? ⟨w.heap.size, 0, none⟩ = some (.int .i64 kd) := by rw [hb1.cell (p := ⟨w.heap.size, 0, none⟩) (by simp)]; simp
  have HC := Lib.hid hcell; clear hcell
  obtain ⟨t', fr, htg⟩ := ((ht.below HB.out).below hb1).tg
  have HW : Hid (Below w.heap.size w w1) := Lib.hid (HB.out.trans (hb1.mono (by simp)))
  clear hb1
  go_wp2_with (refine wpList_load_row rfl 121 _ rfl 0 rfl t' tagCells fr _ htg Tryz.underlying121 rfl (by kernel_rfl) ?_)
  clear htg
  go_loopw [14] (fun i wr => ∃ k : Nat, k ≤ 3 ∧ i = .int .i64 k ∧ Hid (Below w1.heap.size w1 wr) ∧ Hid (tagOf kd (textOf s.data.toList f t) 3 1 = tagOf kd (textOf s.data.toList f t) (3 - k) (k + 1))) (fun i _ => 3 - (intOf i).toNat)
  case atStart => exact ⟨0, by omega, rfl, Lib.hid (Below.refl _ _), Lib.hid rfl⟩
  case round =>
    obtain ⟨k, hk, rfl, hb, hr⟩ := hrel
    have hz := hb.out.size
    have hcl : ∀ o, (wr.alloc o).cell? ⟨w.heap.size, 0, none⟩ = some (.int .i64 kd) := fun o => by rw [World.cell?_alloc_lt wr o ⟨w.heap.size, 0, none⟩ (by show w.heap.size < _; omega), hb.out.cell (p := ⟨w.heap.size, 0, none⟩) (by show w.heap.size < _; omega)]; exact HC.out
    have hcases : k = 0 ∨ k = 1 ∨ k = 2 ∨ k = 3 := by omega
    rcases hcases with rfl | rfl | rfl | rfl
    · have HN : Hid (tagOf kd (textOf s.data.toList f t) 3 1 = tagOf kd (textOf s.data.toList f t) 2 2) := Lib.hid (hr.out.trans (tagOf_no (k := 1) (fun h => h.elim (fun h => HK.out.1 h.1) (fun h => HK.out.2 h.1))))
      go_wp2
      go_roundw
      case rel => exact ⟨1, by omega, by first | rfl | go_num, Lib.hid (hb.out.alloc hz _), HN⟩
      case measure => simp [intOf]
    · have HN : Hid (tagOf kd (textOf s.data.toList f t) 3 1 = tagOf kd (textOf s.data.toList f t) 1 3) := Lib.hid (hr.out.trans (tagOf_no (k := 2) (fun h => h.elim (fun h => HK.out.1 h.1) (fun h => HK.out.2 h.1))))
      go_wp2
      go_roundw
      case rel => exact ⟨2, by omega, by first | rfl | go_num, Lib.hid (hb.out.alloc hz _), HN⟩
      case measure => simp [intOf]
    · have HN : Hid (tagOf kd (textOf s.data.toList f t) 3 1 = tagOf kd (textOf s.data.toList f t) 0 4) := Lib.hid (hr.out.trans (tagOf_no (k := 3) (fun h => h.elim (fun h => HK.out.1 h.1) (fun h => HK.out.2 h.1))))
      go_wp2
      go_roundw
      case rel => exact ⟨3, by omega, by first | rfl | go_num, Lib.hid (hb.out.alloc hz _), HN⟩
      case measure => simp [intOf]
    · go_wp2
      go_ret
      exact ⟨ret_int (by rw [hr.out]; rfl), HW.out.trans (hb.out.mono HW.out.size)⟩

theorem Tag_any (s : ByteArray) (kd f t : Int) (w : World) (ht : Tb w) :
    Calls Tryz.prog 32 #[.string s, .agg #[.int .i64 kd, .int .i64 f, .int .i64 t]] w fun e w' => e = .returned (.int .i64 (tagOf kd (textOf s.data.toList f t) 3 1 : Nat)) ∧ Below w.heap.size w w' := by
  by_cases h1 : kd = 11
  · exact Tag_open s kd f t w ht h1
  · by_cases h2 : kd = 12
    · exact Tag_close s kd f t w ht h2
    · exact Tag_none s kd f t w ht ⟨h1, h2⟩
end Go.Proofs.YtdojbnngdlmbgaaGreatDoor.Tk
