/-
  The contracts of the reference's TagText and Tag.
-/
import Derived.Test.YtdojbnngdlmbgaaDoorTkTag
namespace Go.Proofs.YtdojbnngdlmbgaaDoor.Tk
open Go.RowKit

/-- The text of a tag, opening or closing. -/
def tagL (k : Nat) (c : Bool) : List UInt8 := if c then tE k else tO k
theorem TagText_1false (w : World) : Calls Tryd.prog 67 #[.int .i64 1, .bool false] w fun e w' => e = .returned (.string ⟨#[60, 110, 111, 105, 110, 99, 108, 117, 100, 101, 62]⟩) ∧ Below w.heap.size w w' := by
  go_enter Tryd.func67, Tryd.ntmps67
  go_wp2
  go_ret
  exact ⟨ret_str rfl, (Below.refl _ _).alloc (Nat.le_refl _) _⟩
theorem TagText_1true (w : World) : Calls Tryd.prog 67 #[.int .i64 1, .bool true] w fun e w' => e = .returned (.string ⟨#[60, 47, 110, 111, 105, 110, 99, 108, 117, 100, 101, 62]⟩) ∧ Below w.heap.size w w' := by
  go_enter Tryd.func67, Tryd.ntmps67
  go_wp2
  go_ret
  exact ⟨ret_str rfl, (Below.refl _ _).alloc (Nat.le_refl _) _⟩
theorem TagText_2false (w : World) : Calls Tryd.prog 67 #[.int .i64 2, .bool false] w fun e w' => e = .returned (.string ⟨#[60, 105, 110, 99, 108, 117, 100, 101, 111, 110, 108, 121, 62]⟩) ∧ Below w.heap.size w w' := by
  go_enter Tryd.func67, Tryd.ntmps67
  go_wp2
  go_ret
  exact ⟨ret_str rfl, (Below.refl _ _).alloc (Nat.le_refl _) _⟩
theorem TagText_2true (w : World) : Calls Tryd.prog 67 #[.int .i64 2, .bool true] w fun e w' => e = .returned (.string ⟨#[60, 47, 105, 110, 99, 108, 117, 100, 101, 111, 110, 108, 121, 62]⟩) ∧ Below w.heap.size w w' := by
  go_enter Tryd.func67, Tryd.ntmps67
  go_wp2
  go_ret
  exact ⟨ret_str rfl, (Below.refl _ _).alloc (Nat.le_refl _) _⟩
theorem TagText_3false (w : World) : Calls Tryd.prog 67 #[.int .i64 3, .bool false] w fun e w' => e = .returned (.string ⟨#[60, 111, 110, 108, 121, 105, 110, 99, 108, 117, 100, 101, 62]⟩) ∧ Below w.heap.size w w' := by
  go_enter Tryd.func67, Tryd.ntmps67
  go_wp2
  go_ret
  exact ⟨ret_str rfl, (Below.refl _ _).alloc (Nat.le_refl _) _⟩
theorem TagText_3true (w : World) : Calls Tryd.prog 67 #[.int .i64 3, .bool true] w fun e w' => e = .returned (.string ⟨#[60, 47, 111, 110, 108, 121, 105, 110, 99, 108, 117, 100, 101, 62]⟩) ∧ Below w.heap.size w w' := by
  go_enter Tryd.func67, Tryd.ntmps67
  go_wp2
  go_ret
  exact ⟨ret_str rfl, (Below.refl _ _).alloc (Nat.le_refl _) _⟩
theorem TagText_any (k : Nat) (c : Bool) (w : World) (h1 : 1 ≤ k) (h3 : k ≤ 3) : Calls Tryd.prog 67 #[.int .i64 (k : Int), .bool c] w fun e w' => e = .returned (.string ⟨(tagL k c).toArray⟩) ∧ Below w.heap.size w w' := by
  have : k = 1 ∨ k = 2 ∨ k = 3 := by omega
  rcases this with rfl | rfl | rfl <;> cases c
  · exact TagText_1false w
  · exact TagText_1true w
  · exact TagText_2false w
  · exact TagText_2true w
  · exact TagText_3false w
  · exact TagText_3true w

set_option maxHeartbeats 2000000 in
theorem TagR_open (s : ByteArray) (kd f t : Int) (w : World) (hkd : kd = 11) :
    Calls Tryd.prog 46 #[.string s, .agg #[.int .i64 kd, .int .i64 f, .int .i64 t]] w fun e w' => e = .returned (.int .i64 (tagOf kd (textOf s.data.toList f t) 3 1 : Nat)) ∧ Below w.heap.size w w' := by
  subst hkd
  have hbel : Below w.heap.size w (w.alloc (.cells #[.int .i64 11, .int .i64 f, .int .i64 t] 51)) := (Below.refl _ _).alloc (Nat.le_refl _) _
  have HB := Lib.hid hbel; clear hbel
  generalize hW1 : w.alloc (.cells #[.int .i64 11, .int .i64 f, .int .i64 t] 51) = W1 at HB
  have hcell : W1.cell? ⟨w.heap.size, 0, none⟩ = some (.int .i64 11) ∧ W1.cell? ⟨w.heap.size, 1, none⟩ = some (.int .i64 f) ∧ W1.cell? ⟨w.heap.size, 2, none⟩ = some (.int .i64 t) ∧ w.heap.size < W1.heap.size := by subst hW1; simp
  have HC := Lib.hid hcell; clear hcell
  have HW1 := Lib.hid hW1; clear hW1
  go_enter Tryd.func46, Tryd.ntmps46
  go_wp2
  rw [HW1.out]
  go_loopw [5] (fun i wr => ∃ k : Nat, 1 ≤ k ∧ k ≤ 4 ∧ i = .int .i64 k ∧ Hid (Below W1.heap.size W1 wr) ∧ Hid (tagOf 11 (textOf s.data.toList f t) 3 1 = tagOf 11 (textOf s.data.toList f t) (4 - k) k)) (fun i _ => 4 - (intOf i).toNat)
  case atStart => exact ⟨1, by omega, by omega, rfl, Lib.hid (Below.refl _ _), Lib.hid rfl⟩
  case round =>
    obtain ⟨k, hk1, hk, rfl, hb, hr⟩ := hrel
    have hz := hb.out.size
    have hlt := HC.out.2.2.2
    have x0 : wr.cell? ⟨w.heap.size, 0, none⟩ = some (.int .i64 11) := by rw [hb.out.cell (p := ⟨w.heap.size, 0, none⟩) hlt]; exact HC.out.1
    have x1 : wr.cell? ⟨w.heap.size, 1, none⟩ = some (.int .i64 f) := by rw [hb.out.cell (p := ⟨w.heap.size, 1, none⟩) hlt]; exact HC.out.2.1
    have x2 : wr.cell? ⟨w.heap.size, 2, none⟩ = some (.int .i64 t) := by rw [hb.out.cell (p := ⟨w.heap.size, 2, none⟩) hlt]; exact HC.out.2.2.1
    have hcases : k = 1 ∨ k = 2 ∨ k = 3 ∨ k = 4 := by omega
    rcases hcases with rfl | rfl | rfl | rfl
    · generalize hX : (⟨(textOf s.data.toList f t).toArray⟩ : ByteArray) = X
      have HX : Hid (textOf s.data.toList f t = X.data.toList) := Lib.hid (by rw [← hX])
      have HXX := Lib.hid hX; clear hX
      by_cases h : textOf s.data.toList f t = tO 1
      · have hd : (X.toList == [60, 110, 111, 105, 110, 99, 108, 117, 100, 101, 62]) = true := by rw [str_is, ← HX.out]; exact decide_eq_true h
        have hd' : X.toList = [60, 110, 111, 105, 110, 99, 108, 117, 100, 101, 62] := by simpa using hd
        have HN : Hid (tagOf 11 (textOf s.data.toList f t) 3 1 = 1) := Lib.hid (hr.out.trans (tagOf_yes (k := 1) (Or.inl ⟨rfl, h⟩)))
        clear h
        go_wp2_with fail
        refine (TextR_any _ _ _ _ _).mono ?_
        rintro e w2 ⟨rfl, hb2⟩
        go_wp2_with fail
        refine (TagText_1false _).mono ?_
        rintro e w3 ⟨rfl, hb3⟩
        rw [HXX.out]
        have y0 : w3.cell? ⟨w.heap.size, 0, none⟩ = some (.int .i64 11) := by rw [hb3.cell (p := ⟨w.heap.size, 0, none⟩) (by have := hb2.size; show w.heap.size < _; omega), hb2.cell (p := ⟨w.heap.size, 0, none⟩) (by show w.heap.size < _; omega)]; exact x0
        have HB3 : Hid (Below W1.heap.size W1 w3) := Lib.hid (hb.out.trans ((hb2.mono hz).trans (hb3.mono (Nat.le_trans hz hb2.size))))
        clear hb2 hb3
        go_wp2
        go_ret
        exact ⟨ret_int (by rw [HN.out]; rfl), HB.out.trans (HB3.out.mono HB.out.size)⟩
      · have hd : (X.toList == [60, 110, 111, 105, 110, 99, 108, 117, 100, 101, 62]) = false := by rw [str_is, ← HX.out]; exact decide_eq_false h
        have hd' : ¬ X.toList = [60, 110, 111, 105, 110, 99, 108, 117, 100, 101, 62] := by simpa using hd
        have HN : Hid (tagOf 11 (textOf s.data.toList f t) 3 1 = tagOf 11 (textOf s.data.toList f t) 2 2) := Lib.hid (hr.out.trans (tagOf_no (k := 1) (fun q => by rcases q with ⟨a, b⟩ | ⟨a, b⟩ <;> first | exact h b | simp at a)))
        clear h
        go_wp2_with fail
        refine (TextR_any _ _ _ _ _).mono ?_
        rintro e w2 ⟨rfl, hb2⟩
        go_wp2_with fail
        refine (TagText_1false _).mono ?_
        rintro e w3 ⟨rfl, hb3⟩
        rw [HXX.out]
        have y0 : w3.cell? ⟨w.heap.size, 0, none⟩ = some (.int .i64 11) := by rw [hb3.cell (p := ⟨w.heap.size, 0, none⟩) (by have := hb2.size; show w.heap.size < _; omega), hb2.cell (p := ⟨w.heap.size, 0, none⟩) (by show w.heap.size < _; omega)]; exact x0
        have HB3 : Hid (Below W1.heap.size W1 w3) := Lib.hid (hb.out.trans ((hb2.mono hz).trans (hb3.mono (Nat.le_trans hz hb2.size))))
        clear hb2 hb3
        go_wp2
        go_roundw
        case rel => exact ⟨2, by omega, by omega, by first | rfl | go_num, HB3, HN⟩
        case measure => simp [intOf]
    · generalize hX : (⟨(textOf s.data.toList f t).toArray⟩ : ByteArray) = X
      have HX : Hid (textOf s.data.toList f t = X.data.toList) := Lib.hid (by rw [← hX])
      have HXX := Lib.hid hX; clear hX
      by_cases h : textOf s.data.toList f t = tO 2
      · have hd : (X.toList == [60, 105, 110, 99, 108, 117, 100, 101, 111, 110, 108, 121, 62]) = true := by rw [str_is, ← HX.out]; exact decide_eq_true h
        have hd' : X.toList = [60, 105, 110, 99, 108, 117, 100, 101, 111, 110, 108, 121, 62] := by simpa using hd
        have HN : Hid (tagOf 11 (textOf s.data.toList f t) 3 1 = 2) := Lib.hid (hr.out.trans (tagOf_yes (k := 2) (Or.inl ⟨rfl, h⟩)))
        clear h
        go_wp2_with fail
        refine (TextR_any _ _ _ _ _).mono ?_
        rintro e w2 ⟨rfl, hb2⟩
        go_wp2_with fail
        refine (TagText_2false _).mono ?_
        rintro e w3 ⟨rfl, hb3⟩
        rw [HXX.out]
        have y0 : w3.cell? ⟨w.heap.size, 0, none⟩ = some (.int .i64 11) := by rw [hb3.cell (p := ⟨w.heap.size, 0, none⟩) (by have := hb2.size; show w.heap.size < _; omega), hb2.cell (p := ⟨w.heap.size, 0, none⟩) (by show w.heap.size < _; omega)]; exact x0
        have HB3 : Hid (Below W1.heap.size W1 w3) := Lib.hid (hb.out.trans ((hb2.mono hz).trans (hb3.mono (Nat.le_trans hz hb2.size))))
        clear hb2 hb3
        go_wp2
        go_ret
        exact ⟨ret_int (by rw [HN.out]; rfl), HB.out.trans (HB3.out.mono HB.out.size)⟩
      · have hd : (X.toList == [60, 105, 110, 99, 108, 117, 100, 101, 111, 110, 108, 121, 62]) = false := by rw [str_is, ← HX.out]; exact decide_eq_false h
        have hd' : ¬ X.toList = [60, 105, 110, 99, 108, 117, 100, 101, 111, 110, 108, 121, 62] := by simpa using hd
        have HN : Hid (tagOf 11 (textOf s.data.toList f t) 3 1 = tagOf 11 (textOf s.data.toList f t) 1 3) := Lib.hid (hr.out.trans (tagOf_no (k := 2) (fun q => by rcases q with ⟨a, b⟩ | ⟨a, b⟩ <;> first | exact h b | simp at a)))
        clear h
        go_wp2_with fail
        refine (TextR_any _ _ _ _ _).mono ?_
        rintro e w2 ⟨rfl, hb2⟩
        go_wp2_with fail
        refine (TagText_2false _).mono ?_
        rintro e w3 ⟨rfl, hb3⟩
        rw [HXX.out]
        have y0 : w3.cell? ⟨w.heap.size, 0, none⟩ = some (.int .i64 11) := by rw [hb3.cell (p := ⟨w.heap.size, 0, none⟩) (by have := hb2.size; show w.heap.size < _; omega), hb2.cell (p := ⟨w.heap.size, 0, none⟩) (by show w.heap.size < _; omega)]; exact x0
        have HB3 : Hid (Below W1.heap.size W1 w3) := Lib.hid (hb.out.trans ((hb2.mono hz).trans (hb3.mono (Nat.le_trans hz hb2.size))))
        clear hb2 hb3
        go_wp2
        go_roundw
        case rel => exact ⟨3, by omega, by omega, by first | rfl | go_num, HB3, HN⟩
        case measure => simp [intOf]
    · generalize hX : (⟨(textOf s.data.toList f t).toArray⟩ : ByteArray) = X
      have HX : Hid (textOf s.data.toList f t = X.data.toList) := Lib.hid (by rw [← hX])
      have HXX := Lib.hid hX; clear hX
      by_cases h : textOf s.data.toList f t = tO 3
      · have hd : (X.toList == [60, 111, 110, 108, 121, 105, 110, 99, 108, 117, 100, 101, 62]) = true := by rw [str_is, ← HX.out]; exact decide_eq_true h
        have hd' : X.toList = [60, 111, 110, 108, 121, 105, 110, 99, 108, 117, 100, 101, 62] := by simpa using hd
        have HN : Hid (tagOf 11 (textOf s.data.toList f t) 3 1 = 3) := Lib.hid (hr.out.trans (tagOf_yes (k := 3) (Or.inl ⟨rfl, h⟩)))
        clear h
        go_wp2_with fail
        refine (TextR_any _ _ _ _ _).mono ?_
        rintro e w2 ⟨rfl, hb2⟩
        go_wp2_with fail
        refine (TagText_3false _).mono ?_
        rintro e w3 ⟨rfl, hb3⟩
        rw [HXX.out]
        have y0 : w3.cell? ⟨w.heap.size, 0, none⟩ = some (.int .i64 11) := by rw [hb3.cell (p := ⟨w.heap.size, 0, none⟩) (by have := hb2.size; show w.heap.size < _; omega), hb2.cell (p := ⟨w.heap.size, 0, none⟩) (by show w.heap.size < _; omega)]; exact x0
        have HB3 : Hid (Below W1.heap.size W1 w3) := Lib.hid (hb.out.trans ((hb2.mono hz).trans (hb3.mono (Nat.le_trans hz hb2.size))))
        clear hb2 hb3
        go_wp2
        go_ret
        exact ⟨ret_int (by rw [HN.out]; rfl), HB.out.trans (HB3.out.mono HB.out.size)⟩
      · have hd : (X.toList == [60, 111, 110, 108, 121, 105, 110, 99, 108, 117, 100, 101, 62]) = false := by rw [str_is, ← HX.out]; exact decide_eq_false h
        have hd' : ¬ X.toList = [60, 111, 110, 108, 121, 105, 110, 99, 108, 117, 100, 101, 62] := by simpa using hd
        have HN : Hid (tagOf 11 (textOf s.data.toList f t) 3 1 = tagOf 11 (textOf s.data.toList f t) 0 4) := Lib.hid (hr.out.trans (tagOf_no (k := 3) (fun q => by rcases q with ⟨a, b⟩ | ⟨a, b⟩ <;> first | exact h b | simp at a)))
        clear h
        go_wp2_with fail
        refine (TextR_any _ _ _ _ _).mono ?_
        rintro e w2 ⟨rfl, hb2⟩
        go_wp2_with fail
        refine (TagText_3false _).mono ?_
        rintro e w3 ⟨rfl, hb3⟩
        rw [HXX.out]
        have y0 : w3.cell? ⟨w.heap.size, 0, none⟩ = some (.int .i64 11) := by rw [hb3.cell (p := ⟨w.heap.size, 0, none⟩) (by have := hb2.size; show w.heap.size < _; omega), hb2.cell (p := ⟨w.heap.size, 0, none⟩) (by show w.heap.size < _; omega)]; exact x0
        have HB3 : Hid (Below W1.heap.size W1 w3) := Lib.hid (hb.out.trans ((hb2.mono hz).trans (hb3.mono (Nat.le_trans hz hb2.size))))
        clear hb2 hb3
        go_wp2
        go_roundw
        case rel => exact ⟨4, by omega, by omega, by first | rfl | go_num, HB3, HN⟩
        case measure => simp [intOf]
    · go_wp2
      go_ret
      exact ⟨ret_int (by rw [hr.out]; rfl), HB.out.trans (hb.out.mono HB.out.size)⟩

set_option maxHeartbeats 2000000 in
theorem TagR_close (s : ByteArray) (kd f t : Int) (w : World) (hkd : kd = 12) :
    Calls Tryd.prog 46 #[.string s, .agg #[.int .i64 kd, .int .i64 f, .int .i64 t]] w fun e w' => e = .returned (.int .i64 (tagOf kd (textOf s.data.toList f t) 3 1 : Nat)) ∧ Below w.heap.size w w' := by
  subst hkd
  have hbel : Below w.heap.size w (w.alloc (.cells #[.int .i64 12, .int .i64 f, .int .i64 t] 51)) := (Below.refl _ _).alloc (Nat.le_refl _) _
  have HB := Lib.hid hbel; clear hbel
  generalize hW1 : w.alloc (.cells #[.int .i64 12, .int .i64 f, .int .i64 t] 51) = W1 at HB
  have hcell : W1.cell? ⟨w.heap.size, 0, none⟩ = some (.int .i64 12) ∧ W1.cell? ⟨w.heap.size, 1, none⟩ = some (.int .i64 f) ∧ W1.cell? ⟨w.heap.size, 2, none⟩ = some (.int .i64 t) ∧ w.heap.size < W1.heap.size := by subst hW1; simp
  have HC := Lib.hid hcell; clear hcell
  have HW1 := Lib.hid hW1; clear hW1
  go_enter Tryd.func46, Tryd.ntmps46
  go_wp2
  rw [HW1.out]
  go_loopw [5] (fun i wr => ∃ k : Nat, 1 ≤ k ∧ k ≤ 4 ∧ i = .int .i64 k ∧ Hid (Below W1.heap.size W1 wr) ∧ Hid (tagOf 12 (textOf s.data.toList f t) 3 1 = tagOf 12 (textOf s.data.toList f t) (4 - k) k)) (fun i _ => 4 - (intOf i).toNat)
  case atStart => exact ⟨1, by omega, by omega, rfl, Lib.hid (Below.refl _ _), Lib.hid rfl⟩
  case round =>
    obtain ⟨k, hk1, hk, rfl, hb, hr⟩ := hrel
    have hz := hb.out.size
    have hlt := HC.out.2.2.2
    have x0 : wr.cell? ⟨w.heap.size, 0, none⟩ = some (.int .i64 12) := by rw [hb.out.cell (p := ⟨w.heap.size, 0, none⟩) hlt]; exact HC.out.1
    have x1 : wr.cell? ⟨w.heap.size, 1, none⟩ = some (.int .i64 f) := by rw [hb.out.cell (p := ⟨w.heap.size, 1, none⟩) hlt]; exact HC.out.2.1
    have x2 : wr.cell? ⟨w.heap.size, 2, none⟩ = some (.int .i64 t) := by rw [hb.out.cell (p := ⟨w.heap.size, 2, none⟩) hlt]; exact HC.out.2.2.1
    have hcases : k = 1 ∨ k = 2 ∨ k = 3 ∨ k = 4 := by omega
    rcases hcases with rfl | rfl | rfl | rfl
    · generalize hX : (⟨(textOf s.data.toList f t).toArray⟩ : ByteArray) = X
      have HX : Hid (textOf s.data.toList f t = X.data.toList) := Lib.hid (by rw [← hX])
      have HXX := Lib.hid hX; clear hX
      by_cases h : textOf s.data.toList f t = tE 1
      · have hd : (X.toList == [60, 47, 110, 111, 105, 110, 99, 108, 117, 100, 101, 62]) = true := by rw [str_is, ← HX.out]; exact decide_eq_true h
        have hd' : X.toList = [60, 47, 110, 111, 105, 110, 99, 108, 117, 100, 101, 62] := by simpa using hd
        have HN : Hid (tagOf 12 (textOf s.data.toList f t) 3 1 = 1) := Lib.hid (hr.out.trans (tagOf_yes (k := 1) (Or.inr ⟨rfl, h⟩)))
        clear h
        go_wp2_with fail
        refine (TextR_any _ _ _ _ _).mono ?_
        rintro e w2 ⟨rfl, hb2⟩
        go_wp2_with fail
        refine (TagText_1true _).mono ?_
        rintro e w3 ⟨rfl, hb3⟩
        rw [HXX.out]
        have y0 : w3.cell? ⟨w.heap.size, 0, none⟩ = some (.int .i64 12) := by rw [hb3.cell (p := ⟨w.heap.size, 0, none⟩) (by have := hb2.size; show w.heap.size < _; omega), hb2.cell (p := ⟨w.heap.size, 0, none⟩) (by show w.heap.size < _; omega)]; exact x0
        have HB3 : Hid (Below W1.heap.size W1 w3) := Lib.hid (hb.out.trans ((hb2.mono hz).trans (hb3.mono (Nat.le_trans hz hb2.size))))
        clear hb2 hb3
        go_wp2
        go_ret
        exact ⟨ret_int (by rw [HN.out]; rfl), HB.out.trans (HB3.out.mono HB.out.size)⟩
      · have hd : (X.toList == [60, 47, 110, 111, 105, 110, 99, 108, 117, 100, 101, 62]) = false := by rw [str_is, ← HX.out]; exact decide_eq_false h
        have hd' : ¬ X.toList = [60, 47, 110, 111, 105, 110, 99, 108, 117, 100, 101, 62] := by simpa using hd
        have HN : Hid (tagOf 12 (textOf s.data.toList f t) 3 1 = tagOf 12 (textOf s.data.toList f t) 2 2) := Lib.hid (hr.out.trans (tagOf_no (k := 1) (fun q => by rcases q with ⟨a, b⟩ | ⟨a, b⟩ <;> first | exact h b | simp at a)))
        clear h
        go_wp2_with fail
        refine (TextR_any _ _ _ _ _).mono ?_
        rintro e w2 ⟨rfl, hb2⟩
        go_wp2_with fail
        refine (TagText_1true _).mono ?_
        rintro e w3 ⟨rfl, hb3⟩
        rw [HXX.out]
        have y0 : w3.cell? ⟨w.heap.size, 0, none⟩ = some (.int .i64 12) := by rw [hb3.cell (p := ⟨w.heap.size, 0, none⟩) (by have := hb2.size; show w.heap.size < _; omega), hb2.cell (p := ⟨w.heap.size, 0, none⟩) (by show w.heap.size < _; omega)]; exact x0
        have HB3 : Hid (Below W1.heap.size W1 w3) := Lib.hid (hb.out.trans ((hb2.mono hz).trans (hb3.mono (Nat.le_trans hz hb2.size))))
        clear hb2 hb3
        go_wp2
        go_roundw
        case rel => exact ⟨2, by omega, by omega, by first | rfl | go_num, HB3, HN⟩
        case measure => simp [intOf]
    · generalize hX : (⟨(textOf s.data.toList f t).toArray⟩ : ByteArray) = X
      have HX : Hid (textOf s.data.toList f t = X.data.toList) := Lib.hid (by rw [← hX])
      have HXX := Lib.hid hX; clear hX
      by_cases h : textOf s.data.toList f t = tE 2
      · have hd : (X.toList == [60, 47, 105, 110, 99, 108, 117, 100, 101, 111, 110, 108, 121, 62]) = true := by rw [str_is, ← HX.out]; exact decide_eq_true h
        have hd' : X.toList = [60, 47, 105, 110, 99, 108, 117, 100, 101, 111, 110, 108, 121, 62] := by simpa using hd
        have HN : Hid (tagOf 12 (textOf s.data.toList f t) 3 1 = 2) := Lib.hid (hr.out.trans (tagOf_yes (k := 2) (Or.inr ⟨rfl, h⟩)))
        clear h
        go_wp2_with fail
        refine (TextR_any _ _ _ _ _).mono ?_
        rintro e w2 ⟨rfl, hb2⟩
        go_wp2_with fail
        refine (TagText_2true _).mono ?_
        rintro e w3 ⟨rfl, hb3⟩
        rw [HXX.out]
        have y0 : w3.cell? ⟨w.heap.size, 0, none⟩ = some (.int .i64 12) := by rw [hb3.cell (p := ⟨w.heap.size, 0, none⟩) (by have := hb2.size; show w.heap.size < _; omega), hb2.cell (p := ⟨w.heap.size, 0, none⟩) (by show w.heap.size < _; omega)]; exact x0
        have HB3 : Hid (Below W1.heap.size W1 w3) := Lib.hid (hb.out.trans ((hb2.mono hz).trans (hb3.mono (Nat.le_trans hz hb2.size))))
        clear hb2 hb3
        go_wp2
        go_ret
        exact ⟨ret_int (by rw [HN.out]; rfl), HB.out.trans (HB3.out.mono HB.out.size)⟩
      · have hd : (X.toList == [60, 47, 105, 110, 99, 108, 117, 100, 101, 111, 110, 108, 121, 62]) = false := by rw [str_is, ← HX.out]; exact decide_eq_false h
        have hd' : ¬ X.toList = [60, 47, 105, 110, 99, 108, 117, 100, 101, 111, 110, 108, 121, 62] := by simpa using hd
        have HN : Hid (tagOf 12 (textOf s.data.toList f t) 3 1 = tagOf 12 (textOf s.data.toList f t) 1 3) := Lib.hid (hr.out.trans (tagOf_no (k := 2) (fun q => by rcases q with ⟨a, b⟩ | ⟨a, b⟩ <;> first | exact h b | simp at a)))
        clear h
        go_wp2_with fail
        refine (TextR_any _ _ _ _ _).mono ?_
        rintro e w2 ⟨rfl, hb2⟩
        go_wp2_with fail
        refine (TagText_2true _).mono ?_
        rintro e w3 ⟨rfl, hb3⟩
        rw [HXX.out]
        have y0 : w3.cell? ⟨w.heap.size, 0, none⟩ = some (.int .i64 12) := by rw [hb3.cell (p := ⟨w.heap.size, 0, none⟩) (by have := hb2.size; show w.heap.size < _; omega), hb2.cell (p := ⟨w.heap.size, 0, none⟩) (by show w.heap.size < _; omega)]; exact x0
        have HB3 : Hid (Below W1.heap.size W1 w3) := Lib.hid (hb.out.trans ((hb2.mono hz).trans (hb3.mono (Nat.le_trans hz hb2.size))))
        clear hb2 hb3
        go_wp2
        go_roundw
        case rel => exact ⟨3, by omega, by omega, by first | rfl | go_num, HB3, HN⟩
        case measure => simp [intOf]
    · generalize hX : (⟨(textOf s.data.toList f t).toArray⟩ : ByteArray) = X
      have HX : Hid (textOf s.data.toList f t = X.data.toList) := Lib.hid (by rw [← hX])
      have HXX := Lib.hid hX; clear hX
      by_cases h : textOf s.data.toList f t = tE 3
      · have hd : (X.toList == [60, 47, 111, 110, 108, 121, 105, 110, 99, 108, 117, 100, 101, 62]) = true := by rw [str_is, ← HX.out]; exact decide_eq_true h
        have hd' : X.toList = [60, 47, 111, 110, 108, 121, 105, 110, 99, 108, 117, 100, 101, 62] := by simpa using hd
        have HN : Hid (tagOf 12 (textOf s.data.toList f t) 3 1 = 3) := Lib.hid (hr.out.trans (tagOf_yes (k := 3) (Or.inr ⟨rfl, h⟩)))
        clear h
        go_wp2_with fail
        refine (TextR_any _ _ _ _ _).mono ?_
        rintro e w2 ⟨rfl, hb2⟩
        go_wp2_with fail
        refine (TagText_3true _).mono ?_
        rintro e w3 ⟨rfl, hb3⟩
        rw [HXX.out]
        have y0 : w3.cell? ⟨w.heap.size, 0, none⟩ = some (.int .i64 12) := by rw [hb3.cell (p := ⟨w.heap.size, 0, none⟩) (by have := hb2.size; show w.heap.size < _; omega), hb2.cell (p := ⟨w.heap.size, 0, none⟩) (by show w.heap.size < _; omega)]; exact x0
        have HB3 : Hid (Below W1.heap.size W1 w3) := Lib.hid (hb.out.trans ((hb2.mono hz).trans (hb3.mono (Nat.le_trans hz hb2.size))))
        clear hb2 hb3
        go_wp2
        go_ret
        exact ⟨ret_int (by rw [HN.out]; rfl), HB.out.trans (HB3.out.mono HB.out.size)⟩
      · have hd : (X.toList == [60, 47, 111, 110, 108, 121, 105, 110, 99, 108, 117, 100, 101, 62]) = false := by rw [str_is, ← HX.out]; exact decide_eq_false h
        have hd' : ¬ X.toList = [60, 47, 111, 110, 108, 121, 105, 110, 99, 108, 117, 100, 101, 62] := by simpa using hd
        have HN : Hid (tagOf 12 (textOf s.data.toList f t) 3 1 = tagOf 12 (textOf s.data.toList f t) 0 4) := Lib.hid (hr.out.trans (tagOf_no (k := 3) (fun q => by rcases q with ⟨a, b⟩ | ⟨a, b⟩ <;> first | exact h b | simp at a)))
        clear h
        go_wp2_with fail
        refine (TextR_any _ _ _ _ _).mono ?_
        rintro e w2 ⟨rfl, hb2⟩
        go_wp2_with fail
        refine (TagText_3true _).mono ?_
        rintro e w3 ⟨rfl, hb3⟩
        rw [HXX.out]
        have y0 : w3.cell? ⟨w.heap.size, 0, none⟩ = some (.int .i64 12) := by rw [hb3.cell (p := ⟨w.heap.size, 0, none⟩) (by have := hb2.size; show w.heap.size < _; omega), hb2.cell (p := ⟨w.heap.size, 0, none⟩) (by show w.heap.size < _; omega)]; exact x0
        have HB3 : Hid (Below W1.heap.size W1 w3) := Lib.hid (hb.out.trans ((hb2.mono hz).trans (hb3.mono (Nat.le_trans hz hb2.size))))
        clear hb2 hb3
        go_wp2
        go_roundw
        case rel => exact ⟨4, by omega, by omega, by first | rfl | go_num, HB3, HN⟩
        case measure => simp [intOf]
    · go_wp2
      go_ret
      exact ⟨ret_int (by rw [hr.out]; rfl), HB.out.trans (hb.out.mono HB.out.size)⟩

set_option maxHeartbeats 2000000 in
theorem TagR_none (s : ByteArray) (kd f t : Int) (w : World) (hkd : kd ≠ 11 ∧ kd ≠ 12) :
    Calls Tryd.prog 46 #[.string s, .agg #[.int .i64 kd, .int .i64 f, .int .i64 t]] w fun e w' => e = .returned (.int .i64 (tagOf kd (textOf s.data.toList f t) 3 1 : Nat)) ∧ Below w.heap.size w w' := by
  have k1 : (kd == 11) = false := by rw [beq_eq_false_iff_ne]; exact hkd.1
  have k2 : (kd == 12) = false := by rw [beq_eq_false_iff_ne]; exact hkd.2
  have HK := Lib.hid hkd; clear hkd
  have hbel : Below w.heap.size w (w.alloc (.cells #[.int .i64 kd, .int .i64 f, .int .i64 t] 51)) := (Below.refl _ _).alloc (Nat.le_refl _) _
  have HB := Lib.hid hbel; clear hbel
  generalize hW1 : w.alloc (.cells #[.int .i64 kd, .int .i64 f, .int .i64 t] 51) = W1 at HB
  have hcell : W1.cell? ⟨w.heap.size, 0, none⟩ = some (.int .i64 kd) ∧ W1.cell? ⟨w.heap.size, 1, none⟩ = some (.int .i64 f) ∧ W1.cell? ⟨w.heap.size, 2, none⟩ = some (.int .i64 t) ∧ w.heap.size < W1.heap.size := by subst hW1; simp
  have HC := Lib.hid hcell; clear hcell
  have HW1 := Lib.hid hW1; clear hW1
  go_enter Tryd.func46, Tryd.ntmps46
  go_wp2
  rw [HW1.out]
  go_loopw [5] (fun i wr => ∃ k : Nat, 1 ≤ k ∧ k ≤ 4 ∧ i = .int .i64 k ∧ Hid (Below W1.heap.size W1 wr) ∧ Hid (tagOf kd (textOf s.data.toList f t) 3 1 = tagOf kd (textOf s.data.toList f t) (4 - k) k)) (fun i _ => 4 - (intOf i).toNat)
  case atStart => exact ⟨1, by omega, by omega, rfl, Lib.hid (Below.refl _ _), Lib.hid rfl⟩
  case round =>
    obtain ⟨k, hk1, hk, rfl, hb, hr⟩ := hrel
    have hz := hb.out.size
    have hlt := HC.out.2.2.2
    have x0 : wr.cell? ⟨w.heap.size, 0, none⟩ = some (.int .i64 kd) := by rw [hb.out.cell (p := ⟨w.heap.size, 0, none⟩) hlt]; exact HC.out.1
    have x1 : wr.cell? ⟨w.heap.size, 1, none⟩ = some (.int .i64 f) := by rw [hb.out.cell (p := ⟨w.heap.size, 1, none⟩) hlt]; exact HC.out.2.1
    have x2 : wr.cell? ⟨w.heap.size, 2, none⟩ = some (.int .i64 t) := by rw [hb.out.cell (p := ⟨w.heap.size, 2, none⟩) hlt]; exact HC.out.2.2.1
    have hcases : k = 1 ∨ k = 2 ∨ k = 3 ∨ k = 4 := by omega
    rcases hcases with rfl | rfl | rfl | rfl
    · have HN : Hid (tagOf kd (textOf s.data.toList f t) 3 1 = tagOf kd (textOf s.data.toList f t) 2 2) := Lib.hid (hr.out.trans (tagOf_no (k := 1) (fun h => h.elim (fun h => HK.out.1 h.1) (fun h => HK.out.2 h.1))))
      go_wp2
      go_roundw
      case rel => exact ⟨2, by omega, by omega, by first | rfl | go_num, hb, HN⟩
      case measure => simp [intOf]
    · have HN : Hid (tagOf kd (textOf s.data.toList f t) 3 1 = tagOf kd (textOf s.data.toList f t) 1 3) := Lib.hid (hr.out.trans (tagOf_no (k := 2) (fun h => h.elim (fun h => HK.out.1 h.1) (fun h => HK.out.2 h.1))))
      go_wp2
      go_roundw
      case rel => exact ⟨3, by omega, by omega, by first | rfl | go_num, hb, HN⟩
      case measure => simp [intOf]
    · have HN : Hid (tagOf kd (textOf s.data.toList f t) 3 1 = tagOf kd (textOf s.data.toList f t) 0 4) := Lib.hid (hr.out.trans (tagOf_no (k := 3) (fun h => h.elim (fun h => HK.out.1 h.1) (fun h => HK.out.2 h.1))))
      go_wp2
      go_roundw
      case rel => exact ⟨4, by omega, by omega, by first | rfl | go_num, hb, HN⟩
      case measure => simp [intOf]
    · go_wp2
      go_ret
      exact ⟨ret_int (by rw [hr.out]; rfl), HB.out.trans (hb.out.mono HB.out.size)⟩

theorem TagR_any (s : ByteArray) (kd f t : Int) (w : World) :
    Calls Tryd.prog 46 #[.string s, .agg #[.int .i64 kd, .int .i64 f, .int .i64 t]] w fun e w' => e = .returned (.int .i64 (tagOf kd (textOf s.data.toList f t) 3 1 : Nat)) ∧ Below w.heap.size w w' := by
  by_cases h1 : kd = 11
  · exact TagR_open s kd f t w h1
  · by_cases h2 : kd = 12
    · exact TagR_close s kd f t w h2
    · exact TagR_none s kd f t w ⟨h1, h2⟩
end Go.Proofs.YtdojbnngdlmbgaaDoor.Tk
