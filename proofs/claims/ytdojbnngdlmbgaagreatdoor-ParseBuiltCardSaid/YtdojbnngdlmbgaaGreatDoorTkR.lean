/-
  The contracts of the reference's TagText and Tag.
  The reference's rules in its own order (specL), and that they are those of mark.
  The contracts of the reference's At, Index and run.
  The contract of the reference's special: the rules of specL at an index.
  The reference's special behind its first two rules (a nowiki without an end).
  The reference's special behind its first two rules (no nowiki begins).
  The contract of the reference's Scan: the tokens of scanL too.
-/
import Derived.Test.YtdojbnngdlmbgaaGreatDoorTkTag
import Derived.Test.YtdojbnngdlmbgaaGreatDoorTkPure
namespace Go.Proofs.YtdojbnngdlmbgaaGreatDoor.Tk
open Go.RowKit

/-- The text of a tag, opening or closing. -/
def tagL (k : Nat) (c : Bool) : List UInt8 := if c then tE k else tO k
theorem TagText_1false (w : World) : Calls Tryz.prog 120 #[.int .i64 1, .bool false] w fun e w' => e = .returned (.string ⟨#[60, 110, 111, 105, 110, 99, 108, 117, 100, 101, 62]⟩) ∧ Below w.heap.size w w' := by
  go_enter Tryz.func120, Tryz.ntmps120
  go_wp2
  go_ret
  exact ⟨ret_str rfl, (Below.refl _ _).alloc (Nat.le_refl _) _⟩
theorem TagText_1true (w : World) : Calls Tryz.prog 120 #[.int .i64 1, .bool true] w fun e w' => e = .returned (.string ⟨#[60, 47, 110, 111, 105, 110, 99, 108, 117, 100, 101, 62]⟩) ∧ Below w.heap.size w w' := by
  go_enter Tryz.func120, Tryz.ntmps120
  go_wp2
  go_ret
  exact ⟨ret_str rfl, (Below.refl _ _).alloc (Nat.le_refl _) _⟩
theorem TagText_2false (w : World) : Calls Tryz.prog 120 #[.int .i64 2, .bool false] w fun e w' => e = .returned (.string ⟨#[60, 105, 110, 99, 108, 117, 100, 101, 111, 110, 108, 121, 62]⟩) ∧ Below w.heap.size w w' := by
  go_enter Tryz.func120, Tryz.ntmps120
  go_wp2
  go_ret
  exact ⟨ret_str rfl, (Below.refl _ _).alloc (Nat.le_refl _) _⟩
theorem TagText_2true (w : World) : Calls Tryz.prog 120 #[.int .i64 2, .bool true] w fun e w' => e = .returned (.string ⟨#[60, 47, 105, 110, 99, 108, 117, 100, 101, 111, 110, 108, 121, 62]⟩) ∧ Below w.heap.size w w' := by
  go_enter Tryz.func120, Tryz.ntmps120
  go_wp2
  go_ret
  exact ⟨ret_str rfl, (Below.refl _ _).alloc (Nat.le_refl _) _⟩
theorem TagText_3false (w : World) : Calls Tryz.prog 120 #[.int .i64 3, .bool false] w fun e w' => e = .returned (.string ⟨#[60, 111, 110, 108, 121, 105, 110, 99, 108, 117, 100, 101, 62]⟩) ∧ Below w.heap.size w w' := by
  go_enter Tryz.func120, Tryz.ntmps120
  go_wp2
  go_ret
  exact ⟨ret_str rfl, (Below.refl _ _).alloc (Nat.le_refl _) _⟩
theorem TagText_3true (w : World) : Calls Tryz.prog 120 #[.int .i64 3, .bool true] w fun e w' => e = .returned (.string ⟨#[60, 47, 111, 110, 108, 121, 105, 110, 99, 108, 117, 100, 101, 62]⟩) ∧ Below w.heap.size w w' := by
  go_enter Tryz.func120, Tryz.ntmps120
  go_wp2
  go_ret
  exact ⟨ret_str rfl, (Below.refl _ _).alloc (Nat.le_refl _) _⟩
theorem TagText_any (k : Nat) (c : Bool) (w : World) (h1 : 1 ≤ k) (h3 : k ≤ 3) : Calls Tryz.prog 120 #[.int .i64 (k : Int), .bool c] w fun e w' => e = .returned (.string ⟨(tagL k c).toArray⟩) ∧ Below w.heap.size w w' := by
  have : k = 1 ∨ k = 2 ∨ k = 3 := by omega
  rcases this with rfl | rfl | rfl <;> cases c
  · exact TagText_1false w
  · exact TagText_1true w
  · exact TagText_2false w
  · exact TagText_2true w
  · exact TagText_3false w
  · exact TagText_3true w

set_option maxHeartbeats 2000000 in
theorem TagR_open (s : ByteArray) (kd f t : Int) (w : World) (hkd : kd = 11) :
    Calls Tryz.prog 77 #[.string s, .agg #[.int .i64 kd, .int .i64 f, .int .i64 t]] w fun e w' => e = .returned (.int .i64 (tagOf kd (textOf s.data.toList f t) 3 1 : Nat)) ∧ Below w.heap.size w w' := by
  subst hkd
  have hbel : Below w.heap.size w (w.alloc (.cells #[.int .i64 11, .int .i64 f, .int .i64 t] 72)) := (Below.refl _ _).alloc (Nat.le_refl _) _
  have HB := Lib.hid hbel; clear hbel
  generalize hW1 : w.alloc (.cells #[.int .i64 11, .int .i64 f, .int .i64 t] 72) = W1 at HB
  have hcell : W1.cell? ⟨w.heap.size, 0, none⟩ = some (.int .i64 11) ∧ W1.cell? ⟨w.heap.size, 1, none⟩ = some (.int .i64 f) ∧ W1.cell? ⟨w.heap.size, 2, none⟩ = some (.int .i64 t) ∧ w.heap.size < W1.heap.size := by subst hW1; simp
  have HC := Lib.hid hcell; clear hcell
  have HW1 := Lib.hid hW1; clear hW1
  go_enter Tryz.func77, Tryz.ntmps77
  go_wp2
  rw [HW1.out]
  go_loopw [5] (fun i wr => ∃ k : Nat, 1 ≤ k ∧ k ≤ 4 ∧ i = .int .i64 k ∧ Hid (Below W1.heap.size W1 wr) ∧ Hid (tagOf 11 (textOf s.data.toList f t) 3 1 = tagOf 11 (textOf s.data.toList f t) (4 - k) k)) (fun i _ => 4 - (intOf i).toNat)
  case atStart => exact ⟨1, by omega, by omega, rfl, Lib.hid (Below.refl _ _), Lib.hid rfl⟩
  case round =>
    obtain ⟨k, hk1, hk, rfl, hb, hr⟩ := hrel
    have hz := hb.out.size
    have hlt := HC.out.2.2.2
    have x0 : wr.cell? ⟨w.heap.size, 0, none⟩ = some (.int .i64 11) := by rw [hb.out.cell (p := ⟨w.heap.size, 0, none⟩) hlt]; exact HC.out.1
    have x1 : wr.cell? ⟨w.heap.size, 1, none⟩ = some (.int .i64 f) := by rw [hb.out.cell (p := ⟨w.heap.size, 1, none⟩) hlt]; exact HC.out.2.1
    have x2 : wr.cell? ⟨w.heap.size, 2, none⟩ = some (.int .i64 t) := by rw [hb.out.cell (p := ⟨w.heap.size, 2, none⟩) hlt]; exact HC.out.2.2.1
    have hcases : k = 1 ∨ k = 2 ∨ k = 3 ∨ k = 4 := by omega
    rcases hcases with rfl | rfl | rfl | rfl
    · generalize hX : (⟨(textOf s.data.toList f t).toArray⟩ : ByteArray) = X
      have HX : Hid (textOf s.data.toList f t = X.data.toList) := Lib.hid (by rw [← hX])
      have HXX := Lib.hid hX; clear hX
      by_cases h : textOf s.data.toList f t = tO 1
      · have hd : (X.toList == [60, 110, 111, 105, 110, 99, 108, 117, 100, 101, 62]) = true := by rw [str_is, ← HX.out]; exact decide_eq_true h
        have hd' : X.toList = [60, 110, 111, 105, 110, 99, 108, 117, 100, 101, 62] := by simpa using hd
        have HN : Hid (tagOf 11 (textOf s.data.toList f t) 3 1 = 1) := Lib.hid (hr.out.trans (tagOf_yes (k := 1) (Or.inl ⟨rfl, h⟩)))
        clear h
        go_wp2_with fail
        refine (TextR_any _ _ _ _ _).mono ?_
        rintro e w2 ⟨rfl, hb2⟩
        go_wp2_with fail
        refine (TagText_1false _).mono ?_
        rintro e w3 ⟨rfl, hb3⟩
        rw [HXX.out]
        have y0 : w3.cell? ⟨w.heap.size, 0, none⟩ = some (.int .i64 11) := by rw [hb3.cell (p := ⟨w.heap.size, 0, none⟩) (by have := hb2.size; show w.heap.size < _; omega), hb2.cell (p := ⟨w.heap.size, 0, none⟩) (by show w.heap.size < _; omega)]; exact x0
        have HB3 : Hid (Below W1.heap.size W1 w3) := Lib.hid (hb.out.trans ((hb2.mono hz).trans (hb3.mono (Nat.le_trans hz hb2.size))))
        clear hb2 hb3
        go_wp2
        go_ret
        exact ⟨ret_int (by rw [HN.out]; rfl), HB.out.trans (HB3.out.mono HB.out.size)⟩
      · have hd : (X.toList == [60, 110, 111, 105, 110, 99, 108, 117, 100, 101, 62]) = false := by rw [str_is, ← HX.out]; exact decide_eq_false h
        have hd' : ¬ X.toList = [60, 110, 111, 105, 110, 99, 108, 117, 100, 101, 62] := by simpa using hd
        have HN : Hid (tagOf 11 (textOf s.data.toList f t) 3 1 = tagOf 11 (textOf s.data.toList f t) 2 2) := Lib.hid (hr.out.trans (tagOf_no (k := 1) (fun q => by rcases q with ⟨a, b⟩ | ⟨a, b⟩ <;> first | exact h b | simp at a)))
        clear h
        go_wp2_with fail
        refine (TextR_any _ _ _ _ _).mono ?_
        rintro e w2 ⟨rfl, hb2⟩
        go_wp2_with fail
        refine (TagText_1false _).mono ?_
        rintro e w3 ⟨rfl, hb3⟩
        rw [HXX.out]
        have y0 : w3.cell? ⟨w.heap.size, 0, none⟩ = some (.int .i64 11) := by rw [hb3.cell (p := ⟨w.heap.size, 0, none⟩) (by have := hb2.size; show w.heap.size < _; omega), hb2.cell (p := ⟨w.heap.size, 0, none⟩) (by show w.heap.size < _; omega)]; exact x0
        have HB3 : Hid (Below W1.heap.size W1 w3) := Lib.hid (hb.out.trans ((hb2.mono hz).trans (hb3.mono (Nat.le_trans hz hb2.size))))
        clear hb2 hb3
        go_wp2
        go_roundw
        case rel => exact ⟨2, by omega, by omega, by first | rfl | go_num, HB3, HN⟩
        case measure => simp [intOf]
    · generalize hX : (⟨(textOf s.data.toList f t).toArray⟩ : ByteArray) = X
      have HX : Hid (textOf s.data.toList f t = X.data.toList) := Lib.hid (by rw [← hX])
      have HXX := Lib.hid hX; clear hX
      by_cases h : textOf s.data.toList f t = tO 2
      · have hd : (X.toList == [60, 105, 110, 99, 108, 117, 100, 101, 111, 110, 108, 121, 62]) = true := by rw [str_is, ← HX.out]; exact decide_eq_true h
        have hd' : X.toList = [60, 105, 110, 99, 108, 117, 100, 101, 111, 110, 108, 121, 62] := by simpa using hd
        have HN : Hid (tagOf 11 (textOf s.data.toList f t) 3 1 = 2) := Lib.hid (hr.out.trans (tagOf_yes (k := 2) (Or.inl ⟨rfl, h⟩)))
        clear h
        go_wp2_with fail
        refine (TextR_any _ _ _ _ _).mono ?_
        rintro e w2 ⟨rfl, hb2⟩
        go_wp2_with fail
        refine (TagText_2false _).mono ?_
        rintro e w3 ⟨rfl, hb3⟩
        rw [HXX.out]
        have y0 : w3.cell? ⟨w.heap.size, 0, none⟩ = some (.int .i64 11) := by rw [hb3.cell (p := ⟨w.heap.size, 0, none⟩) (by have := hb2.size; show w.heap.size < _; omega), hb2.cell (p := ⟨w.heap.size, 0, none⟩) (by show w.heap.size < _; omega)]; exact x0
        have HB3 : Hid (Below W1.heap.size W1 w3) := Lib.hid (hb.out.trans ((hb2.mono hz).trans (hb3.mono (Nat.le_trans hz hb2.size))))
        clear hb2 hb3
        go_wp2
        go_ret
        exact ⟨ret_int (by rw [HN.out]; rfl), HB.out.trans (HB3.out.mono HB.out.size)⟩
      · have hd : (X.toList == [60, 105, 110, 99, 108, 117, 100, 101, 111, 110, 108, 121, 62]) = false := by rw [str_is, ← HX.out]; exact decide_eq_false h
        have hd' : ¬ X.toList = [60, 105, 110, 99, 108, 117, 100, 101, 111, 110, 108, 121, 62] := by simpa using hd
        have HN : Hid (tagOf 11 (textOf s.data.toList f t) 3 1 = tagOf 11 (textOf s.data.toList f t) 1 3) := Lib.hid (hr.out.trans (tagOf_no (k := 2) (fun q => by rcases q with ⟨a, b⟩ | ⟨a, b⟩ <;> first | exact h b | simp at a)))
        clear h
        go_wp2_with fail
        refine (TextR_any _ _ _ _ _).mono ?_
        rintro e w2 ⟨rfl, hb2⟩
        go_wp2_with fail
        refine (TagText_2false _).mono ?_
        rintro e w3 ⟨rfl, hb3⟩
        rw [HXX.out]
        have y0 : w3.cell? ⟨w.heap.size, 0, none⟩ = some (.int .i64 11) := by rw [hb3.cell (p := ⟨w.heap.size, 0, none⟩) (by have := hb2.size; show w.heap.size < _; omega), hb2.cell (p := ⟨w.heap.size, 0, none⟩) (by show w.heap.size < _; omega)]; exact x0
        have HB3 : Hid (Below W1.heap.size W1 w3) := Lib.hid (hb.out.trans ((hb2.mono hz).trans (hb3.mono (Nat.le_trans hz hb2.size))))
        clear hb2 hb3
        go_wp2
        go_roundw
        case rel => exact ⟨3, by omega, by omega, by first | rfl | go_num, HB3, HN⟩
        case measure => simp [intOf]
    · generalize hX : (⟨(textOf s.data.toList f t).toArray⟩ : ByteArray) = X
      have HX : Hid (textOf s.data.toList f t = X.data.toList) := Lib.hid (by rw [← hX])
      have HXX := Lib.hid hX; clear hX
      by_cases h : textOf s.data.toList f t = tO 3
      · have hd : (X.toList == [60, 111, 110, 108, 121, 105, 110, 99, 108, 117, 100, 101, 62]) = true := by rw [str_is, ← HX.out]; exact decide_eq_true h
        have hd' : X.toList = [60, 111, 110, 108, 121, 105, 110, 99, 108, 117, 100, 101, 62] := by simpa using hd
        have HN : Hid (tagOf 11 (textOf s.data.toList f t) 3 1 = 3) := Lib.hid (hr.out.trans (tagOf_yes (k := 3) (Or.inl ⟨rfl, h⟩)))
        clear h
        go_wp2_with fail
        refine (TextR_any _ _ _ _ _).mono ?_
        rintro e w2 ⟨rfl, hb2⟩
        go_wp2_with fail
        refine (TagText_3false _).mono ?_
        rintro e w3 ⟨rfl, hb3⟩
        rw [HXX.out]
        have y0 : w3.cell? ⟨w.heap.size, 0, none⟩ = some (.int .i64 11) := by rw [hb3.cell (p := ⟨w.heap.size, 0, none⟩) (by have := hb2.size; show w.heap.size < _; omega), hb2.cell (p := ⟨w.heap.size, 0, none⟩) (by show w.heap.size < _; omega)]; exact x0
        have HB3 : Hid (Below W1.heap.size W1 w3) := Lib.hid (hb.out.trans ((hb2.mono hz).trans (hb3.mono (Nat.le_trans hz hb2.size))))
        clear hb2 hb3
        go_wp2
        go_ret
        exact ⟨ret_int (by rw [HN.out]; rfl), HB.out.trans (HB3.out.mono HB.out.size)⟩
      · have hd : (X.toList == [60, 111, 110, 108, 121, 105, 110, 99, 108, 117, 100, 101, 62]) = false := by rw [str_is, ← HX.out]; exact decide_eq_false h
        have hd' : ¬ X.toList = [60, 111, 110, 108, 121, 105, 110, 99, 108, 117, 100, 101, 62] := by simpa using hd
        have HN : Hid (tagOf 11 (textOf s.data.toList f t) 3 1 = tagOf 11 (textOf s.data.toList f t) 0 4) := Lib.hid (hr.out.trans (tagOf_no (k := 3) (fun q => by rcases q with ⟨a, b⟩ | ⟨a, b⟩ <;> first | exact h b | simp at a)))
        clear h
        go_wp2_with fail
        refine (TextR_any _ _ _ _ _).mono ?_
        rintro e w2 ⟨rfl, hb2⟩
        go_wp2_with fail
        refine (TagText_3false _).mono ?_
        rintro e w3 ⟨rfl, hb3⟩
        rw [HXX.out]
        have y0 : w3.cell? ⟨w.heap.size, 0, none⟩ = some (.int .i64 11) := by rw [hb3.cell (p := ⟨w.heap.size, 0, none⟩) (by have := hb2.size; show w.heap.size < _; omega), hb2.cell (p := ⟨w.heap.size, 0, none⟩) (by show w.heap.size < _; omega)]; exact x0
        have HB3 : Hid (Below W1.heap.size W1 w3) := Lib.hid (hb.out.trans ((hb2.mono hz).trans (hb3.mono (Nat.le_trans hz hb2.size))))
        clear hb2 hb3
        go_wp2
        go_roundw
        case rel => exact ⟨4, by omega, by omega, by first | rfl | go_num, HB3, HN⟩
        case measure => simp [intOf]
    · go_wp2
      go_ret
      exact ⟨ret_int (by rw [hr.out]; rfl), HB.out.trans (hb.out.mono HB.out.size)⟩

set_option maxHeartbeats 2000000 in
theorem TagR_close (s : ByteArray) (kd f t : Int) (w : World) (hkd : kd = 12) :
    Calls Tryz.prog 77 #[.string s, .agg #[.int .i64 kd, .int .i64 f, .int .i64 t]] w fun e w' => e = .returned (.int .i64 (tagOf kd (textOf s.data.toList f t) 3 1 : Nat)) ∧ Below w.heap.size w w' := by
  subst hkd
  have hbel : Below w.heap.size w (w.alloc (.cells #[.int .i64 12, .int .i64 f, .int .i64 t] 72)) := (Below.refl _ _).alloc (Nat.le_refl _) _
  have HB := Lib.hid hbel; clear hbel
  generalize hW1 : w.alloc (.cells #[.int .i64 12, .int .i64 f, .int .i64 t] 72) = W1 at HB
  have hcell : W1.cell? ⟨w.heap.size, 0, none⟩ = some (.int .i64 12) ∧ W1.cell? ⟨w.heap.size, 1, none⟩ = some (.int .i64 f) ∧ W1.cell? ⟨w.heap.size, 2, none⟩ = some (.int .i64 t) ∧ w.heap.size < W1.heap.size := by subst hW1; simp
  have HC := Lib.hid hcell; clear hcell
  have HW1 := Lib.hid hW1; clear hW1
  go_enter Tryz.func77, Tryz.ntmps77
  go_wp2
  rw [HW1.out]
  go_loopw [5] (fun i wr => ∃ k : Nat, 1 ≤ k ∧ k ≤ 4 ∧ i = .int .i64 k ∧ Hid (Below W1.heap.size W1 wr) ∧ Hid (tagOf 12 (textOf s.data.toList f t) 3 1 = tagOf 12 (textOf s.data.toList f t) (4 - k) k)) (fun i _ => 4 - (intOf i).toNat)
  case atStart => exact ⟨1, by omega, by omega, rfl, Lib.hid (Below.refl _ _), Lib.hid rfl⟩
  case round =>
    obtain ⟨k, hk1, hk, rfl, hb, hr⟩ := hrel
    have hz := hb.out.size
    have hlt := HC.out.2.2.2
    have x0 : wr.cell? ⟨w.heap.size, 0, none⟩ = some (.int .i64 12) := by rw [hb.out.cell (p := ⟨w.heap.size, 0, none⟩) hlt]; exact HC.out.1
    have x1 : wr.cell? ⟨w.heap.size, 1, none⟩ = some (.int .i64 f) := by rw [hb.out.cell (p := ⟨w.heap.size, 1, none⟩) hlt]; exact HC.out.2.1
    have x2 : wr.cell? ⟨w.heap.size, 2, none⟩ = some (.int .i64 t) := by rw [hb.out.cell (p := ⟨w.heap.size, 2, none⟩) hlt]; exact HC.out.2.2.1
    have hcases : k = 1 ∨ k = 2 ∨ k = 3 ∨ k = 4 := by omega
    rcases hcases with rfl | rfl | rfl | rfl
    · generalize hX : (⟨(textOf s.data.toList f t).toArray⟩ : ByteArray) = X
      have HX : Hid (textOf s.data.toList f t = X.data.toList) := Lib.hid (by rw [← hX])
      have HXX := Lib.hid hX; clear hX
      by_cases h : textOf s.data.toList f t = tE 1
      · have hd : (X.toList == [60, 47, 110, 111, 105, 110, 99, 108, 117, 100, 101, 62]) = true := by rw [str_is, ← HX.out]; exact decide_eq_true h
        have hd' : X.toList = [60, 47, 110, 111, 105, 110, 99, 108, 117, 100, 101, 62] := by simpa using hd
        have HN : Hid (tagOf 12 (textOf s.data.toList f t) 3 1 = 1) := Lib.hid (hr.out.trans (tagOf_yes (k := 1) (Or.inr ⟨rfl, h⟩)))
        clear h
        go_wp2_with fail
        refine (TextR_any _ _ _ _ _).mono ?_
        rintro e w2 ⟨rfl, hb2⟩
        go_wp2_with fail
        refine (TagText_1true _).mono ?_
        rintro e w3 ⟨rfl, hb3⟩
        rw [HXX.out]
        have y0 : w3.cell? ⟨w.heap.size, 0, none⟩ = some (.int .i64 12) := by rw [hb3.cell (p := ⟨w.heap.size, 0, none⟩) (by have := hb2.size; show w.heap.size < _; omega), hb2.cell (p := ⟨w.heap.size, 0, none⟩) (by show w.heap.size < _; omega)]; exact x0
        have HB3 : Hid (Below W1.heap.size W1 w3) := Lib.hid (hb.out.trans ((hb2.mono hz).trans (hb3.mono (Nat.le_trans hz hb2.size))))
        clear hb2 hb3
        go_wp2
        go_ret
        exact ⟨ret_int (by rw [HN.out]; rfl), HB.out.trans (HB3.out.mono HB.out.size)⟩
      · have hd : (X.toList == [60, 47, 110, 111, 105, 110, 99, 108, 117, 100, 101, 62]) = false := by rw [str_is, ← HX.out]; exact decide_eq_false h
        have hd' : ¬ X.toList = [60, 47, 110, 111, 105, 110, 99, 108, 117, 100, 101, 62] := by simpa using hd
        have HN : Hid (tagOf 12 (textOf s.data.toList f t) 3 1 = tagOf 12 (textOf s.data.toList f t) 2 2) := Lib.hid (hr.out.trans (tagOf_no (k := 1) (fun q => by rcases q with ⟨a, b⟩ | ⟨a, b⟩ <;> first | exact h b | simp at a)))
        clear h
        go_wp2_with fail
        refine (TextR_any _ _ _ _ _).mono ?_
        rintro e w2 ⟨rfl, hb2⟩
        go_wp2_with fail
        refine (TagText_1true _).mono ?_
        rintro e w3 ⟨rfl, hb3⟩
        rw [HXX.out]
        have y0 : w3.cell? ⟨w.heap.size, 0, none⟩ = some (.int .i64 12) := by rw [hb3.cell (p := ⟨w.heap.size, 0, none⟩) (by have := hb2.size; show w.heap.size < _; omega), hb2.cell (p := ⟨w.heap.size, 0, none⟩) (by show w.heap.size < _; omega)]; exact x0
        have HB3 : Hid (Below W1.heap.size W1 w3) := Lib.hid (hb.out.trans ((hb2.mono hz).trans (hb3.mono (Nat.le_trans hz hb2.size))))
        clear hb2 hb3
        go_wp2
        go_roundw
        case rel => exact ⟨2, by omega, by omega, by first | rfl | go_num, HB3, HN⟩
        case measure => simp [intOf]
    · generalize hX : (⟨(textOf s.data.toList f t).toArray⟩ : ByteArray) = X
      have HX : Hid (textOf s.data.toList f t = X.data.toList) := Lib.hid (by rw [← hX])
      have HXX := Lib.hid hX; clear hX
      by_cases h : textOf s.data.toList f t = tE 2
      · have hd : (X.toList == [60, 47, 105, 110, 99, 108, 117, 100, 101, 111, 110, 108, 121, 62]) = true := by rw [str_is, ← HX.out]; exact decide_eq_true h
        have hd' : X.toList = [60, 47, 105, 110, 99, 108, 117, 100, 101, 111, 110, 108, 121, 62] := by simpa using hd
        have HN : Hid (tagOf 12 (textOf s.data.toList f t) 3 1 = 2) := Lib.hid (hr.out.trans (tagOf_yes (k := 2) (Or.inr ⟨rfl, h⟩)))
        clear h
        go_wp2_with fail
        refine (TextR_any _ _ _ _ _).mono ?_
        rintro e w2 ⟨rfl, hb2⟩
        go_wp2_with fail
        refine (TagText_2true _).mono ?_
        rintro e w3 ⟨rfl, hb3⟩
        rw [HXX.out]
        have y0 : w3.cell? ⟨w.heap.size, 0, none⟩ = some (.int .i64 12) := by rw [hb3.cell (p := ⟨w.heap.size, 0, none⟩) (by have := hb2.size; show w.heap.size < _; omega), hb2.cell (p := ⟨w.heap.size, 0, none⟩) (by show w.heap.size < _; omega)]; exact x0
        have HB3 : Hid (Below W1.heap.size W1 w3) := Lib.hid (hb.out.trans ((hb2.mono hz).trans (hb3.mono (Nat.le_trans hz hb2.size))))
        clear hb2 hb3
        go_wp2
        go_ret
        exact ⟨ret_int (by rw [HN.out]; rfl), HB.out.trans (HB3.out.mono HB.out.size)⟩
      · have hd : (X.toList == [60, 47, 105, 110, 99, 108, 117, 100, 101, 111, 110, 108, 121, 62]) = false := by rw [str_is, ← HX.out]; exact decide_eq_false h
        have hd' : ¬ X.toList = [60, 47, 105, 110, 99, 108, 117, 100, 101, 111, 110, 108, 121, 62] := by simpa using hd
        have HN : Hid (tagOf 12 (textOf s.data.toList f t) 3 1 = tagOf 12 (textOf s.data.toList f t) 1 3) := Lib.hid (hr.out.trans (tagOf_no (k := 2) (fun q => by rcases q with ⟨a, b⟩ | ⟨a, b⟩ <;> first | exact h b | simp at a)))
        clear h
        go_wp2_with fail
        refine (TextR_any _ _ _ _ _).mono ?_
        rintro e w2 ⟨rfl, hb2⟩
        go_wp2_with fail
        refine (TagText_2true _).mono ?_
        rintro e w3 ⟨rfl, hb3⟩
        rw [HXX.out]
        have y0 : w3.cell? ⟨w.heap.size, 0, none⟩ = some (.int .i64 12) := by rw [hb3.cell (p := ⟨w.heap.size, 0, none⟩) (by have := hb2.size; show w.heap.size < _; omega), hb2.cell (p := ⟨w.heap.size, 0, none⟩) (by show w.heap.size < _; omega)]; exact x0
        have HB3 : Hid (Below W1.heap.size W1 w3) := Lib.hid (hb.out.trans ((hb2.mono hz).trans (hb3.mono (Nat.le_trans hz hb2.size))))
        clear hb2 hb3
        go_wp2
        go_roundw
        case rel => exact ⟨3, by omega, by omega, by first | rfl | go_num, HB3, HN⟩
        case measure => simp [intOf]
    · generalize hX : (⟨(textOf s.data.toList f t).toArray⟩ : ByteArray) = X
      have HX : Hid (textOf s.data.toList f t = X.data.toList) := Lib.hid (by rw [← hX])
      have HXX := Lib.hid hX; clear hX
      by_cases h : textOf s.data.toList f t = tE 3
      · have hd : (X.toList == [60, 47, 111, 110, 108, 121, 105, 110, 99, 108, 117, 100, 101, 62]) = true := by rw [str_is, ← HX.out]; exact decide_eq_true h
        have hd' : X.toList = [60, 47, 111, 110, 108, 121, 105, 110, 99, 108, 117, 100, 101, 62] := by simpa using hd
        have HN : Hid (tagOf 12 (textOf s.data.toList f t) 3 1 = 3) := Lib.hid (hr.out.trans (tagOf_yes (k := 3) (Or.inr ⟨rfl, h⟩)))
        clear h
        go_wp2_with fail
        refine (TextR_any _ _ _ _ _).mono ?_
        rintro e w2 ⟨rfl, hb2⟩
        go_wp2_with fail
        refine (TagText_3true _).mono ?_
        rintro e w3 ⟨rfl, hb3⟩
        rw [HXX.out]
        have y0 : w3.cell? ⟨w.heap.size, 0, none⟩ = some (.int .i64 12) := by rw [hb3.cell (p := ⟨w.heap.size, 0, none⟩) (by have := hb2.size; show w.heap.size < _; omega), hb2.cell (p := ⟨w.heap.size, 0, none⟩) (by show w.heap.size < _; omega)]; exact x0
        have HB3 : Hid (Below W1.heap.size W1 w3) := Lib.hid (hb.out.trans ((hb2.mono hz).trans (hb3.mono (Nat.le_trans hz hb2.size))))
        clear hb2 hb3
        go_wp2
        go_ret
        exact ⟨ret_int (by rw [HN.out]; rfl), HB.out.trans (HB3.out.mono HB.out.size)⟩
      · have hd : (X.toList == [60, 47, 111, 110, 108, 121, 105, 110, 99, 108, 117, 100, 101, 62]) = false := by rw [str_is, ← HX.out]; exact decide_eq_false h
        have hd' : ¬ X.toList = [60, 47, 111, 110, 108, 121, 105, 110, 99, 108, 117, 100, 101, 62] := by simpa using hd
        have HN : Hid (tagOf 12 (textOf s.data.toList f t) 3 1 = tagOf 12 (textOf s.data.toList f t) 0 4) := Lib.hid (hr.out.trans (tagOf_no (k := 3) (fun q => by rcases q with ⟨a, b⟩ | ⟨a, b⟩ <;> first | exact h b | simp at a)))
        clear h
        go_wp2_with fail
        refine (TextR_any _ _ _ _ _).mono ?_
        rintro e w2 ⟨rfl, hb2⟩
        go_wp2_with fail
        refine (TagText_3true _).mono ?_
        rintro e w3 ⟨rfl, hb3⟩
        rw [HXX.out]
        have y0 : w3.cell? ⟨w.heap.size, 0, none⟩ = some (.int .i64 12) := by rw [hb3.cell (p := ⟨w.heap.size, 0, none⟩) (by have := hb2.size; show w.heap.size < _; omega), hb2.cell (p := ⟨w.heap.size, 0, none⟩) (by show w.heap.size < _; omega)]; exact x0
        have HB3 : Hid (Below W1.heap.size W1 w3) := Lib.hid (hb.out.trans ((hb2.mono hz).trans (hb3.mono (Nat.le_trans hz hb2.size))))
        clear hb2 hb3
        go_wp2
        go_roundw
        case rel => exact ⟨4, by omega, by omega, by first | rfl | go_num, HB3, HN⟩
        case measure => simp [intOf]
    · go_wp2
      go_ret
      exact ⟨ret_int (by rw [hr.out]; rfl), HB.out.trans (hb.out.mono HB.out.size)⟩

set_option maxHeartbeats 2000000 in
theorem TagR_none (s : ByteArray) (kd f t : Int) (w : World) (hkd : kd ≠ 11 ∧ kd ≠ 12) :
    Calls Tryz.prog 77 #[.string s, .agg #[.int .i64 kd, .int .i64 f, .int .i64 t]] w fun e w' => e = .returned (.int .i64 (tagOf kd (textOf s.data.toList f t) 3 1 : Nat)) ∧ Below w.heap.size w w' := by
  have k1 : (kd == 11) = false := by rw [beq_eq_false_iff_ne]; exact hkd.1
  have k2 : (kd == 12) = false := by rw [beq_eq_false_iff_ne]; exact hkd.2
  have HK := Lib.hid hkd; clear hkd
  have hbel : Below w.heap.size w (w.alloc (.cells #[.int .i64 kd, .int .i64 f, .int .i64 t] 72)) := (Below.refl _ _).alloc (Nat.le_refl _) _
  have HB := Lib.hid hbel; clear hbel
  generalize hW1 : w.alloc (.cells #[.int .i64 kd, .int .i64 f, .int .i64 t] 72) = W1 at HB
  have hcell : W1.cell? ⟨w.heap.size, 0, none⟩ = some (.int .i64 kd) ∧ W1.cell? ⟨w.heap.size, 1, none⟩ = some (.int .i64 f) ∧ W1.cell? ⟨w.heap.size, 2, none⟩ = some (.int .i64 t) ∧ w.heap.size < W1.heap.size := by subst hW1; simp
  have HC := Lib.hid hcell; clear hcell
  have HW1 := Lib.hid hW1; clear hW1
  go_enter Tryz.func77, Tryz.ntmps77
  go_wp2
  rw [HW1.out]
  go_loopw [5] (fun i wr => ∃ k : Nat, 1 ≤ k ∧ k ≤ 4 ∧ i = .int .i64 k ∧ Hid (Below W1.heap.size W1 wr) ∧ Hid (tagOf kd (textOf s.data.toList f t) 3 1 = tagOf kd (textOf s.data.toList f t) (4 - k) k)) (fun i _ => 4 - (intOf i).toNat)
  case atStart => exact ⟨1, by omega, by omega, rfl, Lib.hid (Below.refl _ _), Lib.hid rfl⟩
  case round =>
    obtain ⟨k, hk1, hk, rfl, hb, hr⟩ := hrel
    have hz := hb.out.size
    have hlt := HC.out.2.2.2
    have x0 : wr.cell? ⟨w.heap.size, 0, none⟩ = some (.int .i64 kd) := by rw [hb.out.cell (p := ⟨w.heap.size, 0, none⟩) hlt]; exact HC.out.1
    have x1 : wr.cell? ⟨w.heap.size, 1, none⟩ = some (.int .i64 f) := by rw [hb.out.cell (p := ⟨w.heap.size, 1, none⟩) hlt]; exact HC.out.2.1
    have x2 : wr.cell? ⟨w.heap.size, 2, none⟩ = some (.int .i64 t) := by rw [hb.out.cell (p := ⟨w.heap.size, 2, none⟩) hlt]; exact HC.out.2.2.1
    have hcases : k = 1 ∨ k = 2 ∨ k = 3 ∨ k = 4 := by omega
    rcases hcases with rfl | rfl | rfl | rfl
    · have HN : Hid (tagOf kd (textOf s.data.toList f t) 3 1 = tagOf kd (textOf s.data.toList f t) 2 2) := Lib.hid (hr.out.trans (tagOf_no (k := 1) (fun h => h.elim (fun h => HK.out.1 h.1) (fun h => HK.out.2 h.1))))
      go_wp2
      go_roundw
      case rel => exact ⟨2, by omega, by omega, by first | rfl | go_num, hb, HN⟩
      case measure => simp [intOf]
    · have HN : Hid (tagOf kd (textOf s.data.toList f t) 3 1 = tagOf kd (textOf s.data.toList f t) 1 3) := Lib.hid (hr.out.trans (tagOf_no (k := 2) (fun h => h.elim (fun h => HK.out.1 h.1) (fun h => HK.out.2 h.1))))
      go_wp2
      go_roundw
      case rel => exact ⟨3, by omega, by omega, by first | rfl | go_num, hb, HN⟩
      case measure => simp [intOf]
    · have HN : Hid (tagOf kd (textOf s.data.toList f t) 3 1 = tagOf kd (textOf s.data.toList f t) 0 4) := Lib.hid (hr.out.trans (tagOf_no (k := 3) (fun h => h.elim (fun h => HK.out.1 h.1) (fun h => HK.out.2 h.1))))
      go_wp2
      go_roundw
      case rel => exact ⟨4, by omega, by omega, by first | rfl | go_num, hb, HN⟩
      case measure => simp [intOf]
    · go_wp2
      go_ret
      exact ⟨ret_int (by rw [hr.out]; rfl), HB.out.trans (hb.out.mono HB.out.size)⟩

theorem TagR_any (s : ByteArray) (kd f t : Int) (w : World) :
    Calls Tryz.prog 77 #[.string s, .agg #[.int .i64 kd, .int .i64 f, .int .i64 t]] w fun e w' => e = .returned (.int .i64 (tagOf kd (textOf s.data.toList f t) 3 1 : Nat)) ∧ Below w.heap.size w w' := by
  by_cases h1 : kd = 11
  · exact TagR_open s kd f t w h1
  · by_cases h2 : kd = 12
    · exact TagR_close s kd f t w h2
    · exact TagR_none s kd f t w ⟨h1, h2⟩
end Go.Proofs.YtdojbnngdlmbgaaGreatDoor.Tk

namespace Go.Proofs.YtdojbnngdlmbgaaGreatDoor.Tk

/-- The rules 5 to 8 at the beginning of l, as the reference tries them; the second number is the size. -/
def restL (l : List UInt8) : Nat × Nat :=
  if Lib.hasPrefix l [123, 123] then (3, run 123 l) else if Lib.hasPrefix l [125, 125] then (4, run 125 l)
  else if Lib.hasPrefix l [91, 91] then (5, 2) else if Lib.hasPrefix l [93, 93] then (6, 2)
  else if Lib.hasPrefix l [124] then (7, 1) else if Lib.hasPrefix l [61] then (8, 1) else if Lib.hasPrefix l [10] then (2, 1) else (0, 0)
/-- All rules, as the reference tries them. -/
def specL (l : List UInt8) : Nat × Nat :=
  if Lib.hasPrefix l cO then (9, if upTo l cO cE = 0 then l.length else upTo l cO cE)
  else if Lib.hasPrefix l nO ∧ upTo l nO nE ≠ 0 then (10, upTo l nO nE)
  else if (tagFrom l 3 1).2 ≠ 0 then tagFrom l 3 1 else restL l
theorem hp1 (c d : UInt8) (r : List UInt8) : Lib.hasPrefix (c :: r) [d] = (d == c) := by simp [Lib.hasPrefix, List.isPrefixOf]
theorem hp2 (c d : UInt8) (r : List UInt8) : Lib.hasPrefix (c :: r) [d, d] = (d == c && r.head? == some d) := by
  cases r with
  | nil => simp [Lib.hasPrefix, List.isPrefixOf]
  | cons a r => simp only [Lib.hasPrefix, List.isPrefixOf, List.head?_cons, Bool.and_true]; rw [show (some a == some d) = (a == d) from rfl, BEq.comm (a := a)]
theorem hp_head {c d : UInt8} {r q : List UInt8} (h : d ≠ c) : Lib.hasPrefix (c :: r) (d :: q) = false := by
  simp [Lib.hasPrefix, List.isPrefixOf, h]
theorem tO_head {k : Nat} (h1 : 1 ≤ k) (h3 : k ≤ 3) : ∃ q, tO k = 60 :: q := by
  have : k = 1 ∨ k = 2 ∨ k = 3 := by omega
  rcases this with rfl | rfl | rfl <;> exact ⟨_, rfl⟩
theorem tE_head {k : Nat} (h1 : 1 ≤ k) (h3 : k ≤ 3) : ∃ q, tE k = 60 :: q := by
  have : k = 1 ∨ k = 2 ∨ k = 3 := by omega
  rcases this with rfl | rfl | rfl <;> exact ⟨_, rfl⟩
theorem tag_other {c : UInt8} {r : List UInt8} (h : c ≠ 60) : tagFrom (c :: r) 3 1 = (0, 0) := by
  apply tagFrom_none
  intro j a b
  obtain ⟨q, hq⟩ := tO_head a (by omega)
  obtain ⟨q', hq'⟩ := tE_head a (by omega)
  rw [hq, hq']
  exact ⟨hp_head (Ne.symm h), hp_head (Ne.symm h)⟩
theorem rest_angle (r : List UInt8) : restL (60 :: r) = (0, 0) := by
  unfold restL
  simp [hp1, hp2]
theorem spec_other {c : UInt8} {r : List UInt8} (h : c ≠ 60) : specL (c :: r) = restL (c :: r) := by
  unfold specL
  rw [show Lib.hasPrefix (c :: r) cO = false from hp_head (Ne.symm h), show Lib.hasPrefix (c :: r) nO = false from hp_head (Ne.symm h), tag_other h]
  simp
theorem run_two (c : UInt8) (r : List UInt8) : (2 ≤ run c (c :: r)) ↔ r.head? = some c := by
  unfold run
  cases r with
  | nil => simp
  | cons a r =>
    by_cases h : a = c
    · subst h; simp
    · have : ¬ (a == c) = true := by simpa using h
      simp [h]
theorem upTo_ne (l : List UInt8) (h : Lib.hasPrefix l cO = true) : (if upTo l cO cE = 0 then l.length else upTo l cO cE) ≠ 0 := by
  have hl := hp_len h
  have : cO.length = 4 := rfl
  split <;> omega
/-- The reference's rules are those of mark. -/
theorem spec_mark (l : List UInt8) : specL l = if (mark l).2 = 0 then (0, 0) else mark l := by
  cases l with
  | nil => rfl
  | cons c r =>
    rcases byte_cases c with rfl | rfl | rfl | rfl | rfl | rfl | rfl | rfl | ⟨h1, h2, h3, h4, h5, h6, h7, h8⟩
    · rw [m60]
      unfold specL angle
      cases hc : Lib.hasPrefix (60 :: r) cO
      · cases hn : Lib.hasPrefix (60 :: r) nO
        · simp only [Bool.false_eq_true, if_false, false_and, rest_angle]
          by_cases h0 : (tagFrom (60 :: r) 3 1).2 = 0
          · rw [if_neg (by simpa using h0), if_pos h0]
          · rw [if_pos h0, if_neg h0]
        · have ht : tagFrom (60 :: r) 3 1 = (0, 0) := by
            apply tagFrom_none
            intro j a b
            exact ⟨no_of_pre hn fun r => nowiki_no_open r j a (by omega), no_of_pre hn fun r => nowiki_no_close r j a (by omega)⟩
          simp only [Bool.false_eq_true, if_false, if_true, true_and, ht, rest_angle]
          by_cases h0 : upTo (60 :: r) nO nE = 0
          · rw [if_neg (by simpa using h0), if_pos h0]; simp
          · rw [if_pos h0, if_neg h0]
      · have := upTo_ne _ hc
        simp only [if_true]
        rw [if_neg this]
    · rw [spec_other (by decide), m123]; unfold restL braces; rw [hp2]
      have h := run_two 123 r
      by_cases h2 : r.head? = some 123
      · have := h.2 h2; rw [if_neg (show ¬ run 123 (123 :: r) < 2 by omega)]; simp [h2]; omega
      · have h' : run 123 (123 :: r) < 2 := by
          by_cases q : 2 ≤ run 123 (123 :: r)
          · exact absurd (h.1 q) h2
          · omega
        rw [if_pos h']; simp [h2, hp1, hp2]
    · rw [spec_other (by decide), m125]; unfold restL braces; rw [hp2, hp2]
      have h := run_two 125 r
      by_cases h2 : r.head? = some 125
      · have := h.2 h2; rw [if_neg (show ¬ run 125 (125 :: r) < 2 by omega)]; simp [h2]; omega
      · have h' : run 125 (125 :: r) < 2 := by
          by_cases q : 2 ≤ run 125 (125 :: r)
          · exact absurd (h.1 q) h2
          · omega
        rw [if_pos h']; simp [h2, hp1, hp2]
    · rw [spec_other (by decide), m91]; unfold restL
      cases r with
      | nil => rfl
      | cons d r => by_cases h : d = 91 <;> simp [hp1, hp2, pair, h]
    · rw [spec_other (by decide), m93]; unfold restL
      cases r with
      | nil => rfl
      | cons d r => by_cases h : d = 93 <;> simp [hp1, hp2, pair, h]
    · rw [spec_other (by decide), m124]; unfold restL; simp [hp1, hp2]
    · rw [spec_other (by decide), m61]; unfold restL; simp [hp1, hp2]
    · rw [spec_other (by decide), m10]; unfold restL; simp [hp1, hp2]
    · rw [spec_other h1, mo _ h1 h2 h3 h4 h5 h6 h7 h8]; unfold restL
      simp [hp1, hp2, Ne.symm h2, Ne.symm h3, Ne.symm h4, Ne.symm h5, Ne.symm h6, Ne.symm h7, Ne.symm h8]
end Go.Proofs.YtdojbnngdlmbgaaGreatDoor.Tk

namespace Go.Proofs.YtdojbnngdlmbgaaGreatDoor.Tk
open Go.RowKit

theorem At_any (s t : ByteArray) (i : Nat) (w : World) (hi : i ≤ s.size) (hs : s.size ≤ 65536) :
    Calls Tryz.prog 118 #[.string s, .int .i64 (i : Int), .string t] w fun e w' => e = .returned (.bool (Lib.hasPrefix (s.data.toList.drop i) t.data.toList)) ∧ w = w' := by
  have h1 : (i : Int) ≤ (s.size : Int) := by omega
  by_cases h2 : i + t.size ≤ s.size
  · have h3 : (t.size : Int) ≤ (s.size : Int) - (i : Int) := by omega
    have h4 : i + t.size ≤ s.size := h2
    have h5 : (i : Int) + (t.size : Int) ≤ (s.size : Int) := by omega
    have h6 : t.size ≤ s.size - i := by omega
    have HO : Hid (Lib.hasPrefix (s.data.toList.drop i) t.data.toList = ((s.extract i (i + t.size)).toList == t.toList)) := Lib.hid (Lib.occ_of_piece s t i h2)
    go_enter Tryz.func118, Tryz.ntmps118
    go_wp2
    go_ret
    exact ⟨ret_bool (by rw [HO.out]), rfl⟩
  · have h3 : decide ((t.size : Int) ≤ (s.size : Int) - (i : Int)) = false := by simp; omega
    have h3' : ¬ (t.size : Int) ≤ (s.size : Int) - (i : Int) := by omega
    have HO : Hid (Lib.hasPrefix (s.data.toList.drop i) t.data.toList = false) := Lib.hid (by
      cases e : Lib.hasPrefix (s.data.toList.drop i) t.data.toList
      · rfl
      · have := hp_len e
        rw [List.length_drop] at this
        have a1 : s.data.toList.length = s.size := rfl
        have a2 : t.data.toList.length = t.size := rfl
        have a3 : t.data.toList.length = 0 ∨ i + t.size ≤ s.size := by omega
        omega)
    go_enter Tryz.func118, Tryz.ntmps118
    go_wp2
    go_ret
    exact ⟨ret_bool (by rw [HO.out]), rfl⟩

/-- The first index from f on at which t stands in s, or -1. -/
def indexFrom (s t : List UInt8) (f : Nat) : Int := if Lib.index (s.drop f) t = -1 then -1 else Lib.index (s.drop f) t + f
theorem indexFrom_zero (s t : List UInt8) : indexFrom s t 0 = Lib.index s t := by
  unfold indexFrom
  rw [List.drop_zero]
  split
  · exact (by assumption : Lib.index s t = -1).symm
  · omega
theorem indexFrom_hit {s t : List UInt8} {f i : Nat} (hf : f ≤ i) (hi : i ≤ s.length) (h : Lib.occAt s t i = true) (hn : ∀ j, f ≤ j → j < i → Lib.occAt s t j = false) : indexFrom s t f = i := by
  have e : Lib.index (s.drop f) t = ((i - f : Nat) : Int) := by
    apply Lib.index_first
    · simp; omega
    · unfold Lib.occAt at h ⊢; rw [List.drop_drop, show f + (i - f) = i from by omega]; exact h
    · intro j hj
      have := hn (f + j) (by omega) (by omega)
      unfold Lib.occAt at this ⊢; rw [List.drop_drop]; exact this
  unfold indexFrom
  rw [e, if_neg (by omega)]
  omega
theorem indexFrom_none {s t : List UInt8} {f : Nat} (hn : ∀ j, f ≤ j → j ≤ s.length → Lib.occAt s t j = false) (hf : f ≤ s.length) : indexFrom s t f = -1 := by
  unfold indexFrom
  rcases Lib.index_spec (s.drop f) t with ⟨h, _⟩ | ⟨i, _, hi, ho, _⟩
  · rw [if_pos h]
  · have := hn (f + i) (by omega) (by simp at hi; omega)
    unfold Lib.occAt at ho this
    rw [List.drop_drop] at ho
    rw [ho] at this; cases this

set_option maxHeartbeats 400000 in
theorem Index_any (s t : ByteArray) (f : Nat) (w : World) (hf : f ≤ s.size) (hs : s.size < 4294967281) (ht : t.size < 4294967281) :
    Calls Tryz.prog 119 #[.string s, .string t, .int .i64 (f : Int)] w fun e w' => e = .returned (.int .i64 (indexFrom s.data.toList t.data.toList f)) ∧ w = w' := by
  go_enter Tryz.func119, Tryz.ntmps119
  go_wp2
  go_loop [7] (fun i => ∃ k : Nat, f ≤ k ∧ k ≤ s.size + 1 ∧ i = .int .i64 k ∧ Hid (∀ j, f ≤ j → j < k → Lib.occAt s.data.toList t.data.toList j = false)) (fun i => s.size + 1 - (intOf i).toNat)
  case atStart => exact ⟨f, by omega, by omega, rfl, Lib.hid fun j h1 h2 => by omega⟩
  case round =>
    obtain ⟨k, hk1, hk2, rfl, hr⟩ := hrel
    by_cases hlt : k + t.size ≤ s.size
    · have e1 : (k : Int) + (t.size : Int) ≤ (s.size : Int) := by omega
      cases ho : Lib.occAt s.data.toList t.data.toList k
      · have hd : ((s.extract k (k + t.size)).toList == t.toList) = false := by rw [← Lib.occ_of_piece s t k hlt]; exact ho
        have HO := Lib.hid ho; clear ho
        go_wp2
        go_round
        case rel => exact ⟨k + 1, by omega, by omega, by go_num, Lib.hid fun j h1 h2 => by
          by_cases hj : j = k
          · subst hj; exact HO.out
          · exact hr.out j h1 (by omega)⟩
        case measure => simp [intOf]; omega
      · have hd : ((s.extract k (k + t.size)).toList == t.toList) = true := by rw [← Lib.occ_of_piece s t k hlt]; exact ho
        have HF := Lib.hid (indexFrom_hit hk1 (by show k ≤ s.size; omega) ho hr.out)
        clear ho
        go_wp2
        go_ret
        exact ⟨ret_int (by rw [HF.out]), rfl⟩
    · have e1 : ¬ (k : Int) + (t.size : Int) ≤ (s.size : Int) := by omega
      have HF := Lib.hid (indexFrom_none (s := s.data.toList) (t := t.data.toList) (f := f) (fun j h1 h2 => by
        by_cases hj : j < k
        · exact hr.out j h1 hj
        · cases ho : Lib.occAt s.data.toList t.data.toList j
          · rfl
          · rcases Lib.occAt_room ho with h' | h'
            · have a1 : s.data.toList.length = s.size := rfl
              have a2 : t.data.toList.length = t.size := rfl
              omega
            · have a2 : t.size = 0 := by have : t.data.toList.length = t.size := rfl; rw [h'] at this; simpa using this.symm
              have a1 : s.data.toList.length = s.size := rfl
              omega) (by show f ≤ s.size; omega))
      go_wp2
      go_ret
      exact ⟨ret_int (by rw [HF.out]), rfl⟩

theorem run_step {c : UInt8} {l : List UInt8} {k : Nat} (h : k < l.length) (he : l[k] = c) : run c (l.drop k) = 1 + run c (l.drop (k + 1)) := by
  rw [List.drop_eq_getElem_cons h]; unfold run
  rw [List.takeWhile_cons_of_pos (by simpa using he), List.length_cons]; omega
theorem run_stop {c : UInt8} {l : List UInt8} {k : Nat} (h : k < l.length) (he : l[k] ≠ c) : run c (l.drop k) = 0 := by
  rw [List.drop_eq_getElem_cons h]; unfold run
  rw [List.takeWhile_cons_of_neg (by simpa using he)]; rfl
set_option maxHeartbeats 400000 in
theorem run_any (s : ByteArray) (i : Nat) (c : UInt8) (w : World) (hi : i ≤ s.size) (hs : s.size ≤ 65536) :
    Calls Tryz.prog 121 #[.string s, .int .i64 (i : Int), .int .u8 (c.toNat : Int)] w fun e w' => e = .returned (.int .i64 (i + run c (s.data.toList.drop i) : Nat)) ∧ w = w' := by
  go_enter Tryz.func121, Tryz.ntmps121
  go_wp2
  go_loop [1] (fun x => ∃ k : Nat, i ≤ k ∧ k ≤ s.size ∧ x = .int .i64 k ∧ Hid (i + run c (s.data.toList.drop i) = k + run c (s.data.toList.drop k))) (fun x => s.size - (intOf x).toNat)
  case atStart => exact ⟨i, by omega, by omega, rfl, Lib.hid rfl⟩
  case round =>
    obtain ⟨k, hk1, hk2, rfl, hr⟩ := hrel
    by_cases hlt : k < s.size
    · have hlt' : (k : Int) < (s.size : Int) := by omega
      by_cases he : s[k] = c
      · have hd : ((s[k].toNat : Int) == (c.toNat : Int)) = true := by rw [he]; simp
        have HN : Hid (i + run c (s.data.toList.drop i) = (k + 1) + run c (s.data.toList.drop (k + 1))) := Lib.hid (by rw [hr.out, run_step (show k < s.data.toList.length from hlt) he]; omega)
        have HE := Lib.hid he; clear he
        go_wp2
        go_round
        case rel => exact ⟨k + 1, by omega, by omega, by go_num, HN⟩
        case measure => simp [intOf]; omega
      · have hd : ((s[k].toNat : Int) == (c.toNat : Int)) = false := by
          rw [beq_eq_false_iff_ne]; intro e; exact he (UInt8.toNat_inj.1 (by omega))
        have HN : Hid (i + run c (s.data.toList.drop i) = k) := Lib.hid (by rw [hr.out, run_stop (show k < s.data.toList.length from hlt) he]; rfl)
        go_wp2
        go_ret
        exact ⟨ret_int (by have := HN.out; omega), rfl⟩
    · have hlt' : decide ((k : Int) < (s.size : Int)) = false := by simp; omega
      have hlt'' : ¬ (k : Int) < (s.size : Int) := by omega
      have HN : Hid (i + run c (s.data.toList.drop i) = k) := Lib.hid (by rw [hr.out, List.drop_of_length_le (show s.data.toList.length ≤ k by show s.size ≤ k; omega)]; rfl)
      go_wp2
      go_ret
      exact ⟨ret_int (by have := HN.out; omega), rfl⟩
end Go.Proofs.YtdojbnngdlmbgaaGreatDoor.Tk

namespace Go.Proofs.YtdojbnngdlmbgaaGreatDoor.Tk
open Go.RowKit

/-- The kind and the end of a token of kind and size x that begins at i; nothing where there is none. -/
def ends (i : Nat) (x : Nat × Nat) : Nat × Nat := if x.2 = 0 then (0, 0) else (x.1, i + x.2)
theorem ends_of {i a b : Nat} (h : b ≠ 0) : ends i (a, b) = (a, i + b) := if_neg h
theorem upTo_from {l o n : List UInt8} {i : Nat} : indexFrom l n (i + o.length) = if upTo (l.drop i) o n = 0 ∧ n ≠ [] then -1 else indexFrom l n (i + o.length) := by
  split
  · rename_i h
    unfold indexFrom
    obtain ⟨h1, h2⟩ := h
    unfold upTo at h1
    rw [List.drop_drop] at h1
    by_cases e : Lib.index (l.drop (i + o.length)) n = -1
    · rw [if_pos e]
    · rw [if_neg e] at h1
      have : n.length ≠ 0 := by simpa using h2
      omega
  · rfl
theorem upTo_hit {l o n : List UInt8} {i : Nat} (h : upTo (l.drop i) o n ≠ 0) : indexFrom l n (i + o.length) + n.length = ((i + upTo (l.drop i) o n : Nat) : Int) ∧ 0 ≤ indexFrom l n (i + o.length) := by
  have e : ¬ Lib.index ((l.drop i).drop o.length) n = -1 := fun e => h (by unfold upTo; rw [if_pos e])
  have g := Lib.index_ge ((l.drop i).drop o.length) n
  have hu : upTo (l.drop i) o n = o.length + (Lib.index ((l.drop i).drop o.length) n).toNat + n.length := by unfold upTo; rw [if_neg e]
  unfold indexFrom
  rw [List.drop_drop] at e g hu
  rw [if_neg e, hu]
  omega
theorem upTo_miss {l o n : List UInt8} {i : Nat} (hn : n ≠ []) (h : upTo (l.drop i) o n = 0) : indexFrom l n (i + o.length) = -1 := by
  rw [upTo_from, if_pos ⟨h, hn⟩]

theorem special_comment (s : ByteArray) (i : Nat) (w : World) (hi : i < s.size) (hs : s.size ≤ 8192) (h1 : Lib.hasPrefix (s.data.toList.drop i) [60, 33, 45, 45] = true) :
    Calls Tryz.prog 73 #[.string s, .int .i64 (i : Int)] w fun e w' => e = .returned (two (ends i (specL (s.data.toList.drop i)))) ∧ Below w.heap.size w w' := by
  have hl := hp_len h1
  rw [List.length_drop] at hl
  have hsl : s.data.toList.length = s.size := rfl
  rw [hsl] at hl
  simp at hl
  have e4 : Hid (indexFrom s.data.toList cE (i + 4) = indexFrom s.data.toList cE (i + cO.length)) := Lib.hid rfl
  by_cases h0 : upTo (s.data.toList.drop i) cO cE = 0
  · have HS : Hid (ends i (specL (s.data.toList.drop i)) = (9, s.size)) := Lib.hid (by
      unfold specL; rw [show Lib.hasPrefix (s.data.toList.drop i) cO = true from h1, h0]; simp only [if_true]
      rw [List.length_drop, hsl, ends_of (by omega)]; simp; omega)
    have HI : Hid (indexFrom s.data.toList [45, 45, 62] (i + 4) = -1) := Lib.hid (e4.out.trans (upTo_miss (by decide) h0))
    clear h0 hsl
    go_enter Tryz.func73, Tryz.ntmps73
    go_wp2_with fail
    refine (At_any _ _ i _ (by omega) (by omega)).mono ?_
    rintro e w' ⟨rfl, rfl⟩
    go_wp2_with fail
    refine (Index_any _ _ (i + 4) _ (by omega) (by omega) (by decide)).mono ?_
    rintro e w' ⟨rfl, rfl⟩
    rw [HI.out]
    go_wp2
    go_ret2
    exact ⟨by rw [HS.out]; rfl, Below.refl _ _⟩
  · have hu := upTo_hit (o := cO) h0
    have HS : Hid (ends i (specL (s.data.toList.drop i)) = (9, i + upTo (s.data.toList.drop i) cO cE)) := Lib.hid (by
      unfold specL; rw [show Lib.hasPrefix (s.data.toList.drop i) cO = true from h1]; simp only [if_true]
      rw [if_neg h0, ends_of h0])
    obtain ⟨j, hj⟩ : ∃ j : Nat, indexFrom s.data.toList cE (i + cO.length) = j := ⟨(indexFrom s.data.toList cE (i + cO.length)).toNat, by omega⟩
    rw [hj] at hu
    have hup := upTo_le (e := cE) (hp_len (q := cO) h1)
    rw [List.length_drop, hsl] at hup
    have hlt : j < 65536 := by have := hu.1; have : cE.length = 3 := rfl; omega
    have HI : Hid (indexFrom s.data.toList [45, 45, 62] (i + 4) = j) := Lib.hid (e4.out.trans hj)
    have HU : Hid ((j : Int) + 3 = ((i + upTo (s.data.toList.drop i) cO cE : Nat) : Int)) := Lib.hid hu.1
    have hj0 : (0 : Int) ≤ (j : Int) := by omega
    clear h0 hsl hu hj hup
    go_enter Tryz.func73, Tryz.ntmps73
    go_wp2_with fail
    refine (At_any _ _ i _ (by omega) (by omega)).mono ?_
    rintro e w' ⟨rfl, rfl⟩
    go_wp2_with fail
    refine (Index_any _ _ (i + 4) _ (by omega) (by omega) (by decide)).mono ?_
    rintro e w' ⟨rfl, rfl⟩
    rw [HI.out]
    go_wp2
    go_ret2
    exact ⟨by rw [HS.out, two_eq (9, i + upTo (s.data.toList.drop i) cO cE) 9 _ rfl HU.out.symm]; rfl, Below.refl _ _⟩

theorem special_nowiki (s : ByteArray) (i : Nat) (w : World) (hi : i < s.size) (hs : s.size ≤ 8192) (h1 : Lib.hasPrefix (s.data.toList.drop i) [60, 33, 45, 45] = false) (h2 : Lib.hasPrefix (s.data.toList.drop i) [60, 110, 111, 119, 105, 107, 105, 62] = true) (h0 : upTo (s.data.toList.drop i) nO nE ≠ 0) :
    Calls Tryz.prog 73 #[.string s, .int .i64 (i : Int)] w fun e w' => e = .returned (two (ends i (specL (s.data.toList.drop i)))) ∧ Below w.heap.size w w' := by
  have hl := hp_len h2
  rw [List.length_drop] at hl
  have hsl : s.data.toList.length = s.size := rfl
  rw [hsl] at hl
  simp at hl
  have e4 : Hid (indexFrom s.data.toList nE (i + 8) = indexFrom s.data.toList nE (i + nO.length)) := Lib.hid rfl
  have hu := upTo_hit (o := nO) h0
  have HS : Hid (ends i (specL (s.data.toList.drop i)) = (10, i + upTo (s.data.toList.drop i) nO nE)) := Lib.hid (by
    unfold specL; rw [show Lib.hasPrefix (s.data.toList.drop i) cO = false from h1, show Lib.hasPrefix (s.data.toList.drop i) nO = true from h2]
    simp only [Bool.false_eq_true, if_false, true_and]
    rw [if_pos h0, ends_of h0])
  obtain ⟨j, hj⟩ : ∃ j : Nat, indexFrom s.data.toList nE (i + nO.length) = j := ⟨(indexFrom s.data.toList nE (i + nO.length)).toNat, by omega⟩
  rw [hj] at hu
  have hup := upTo_le (e := nE) (hp_len (q := nO) h2)
  rw [List.length_drop, hsl] at hup
  have hlt : j < 65536 := by have := hu.1; have : nE.length = 9 := rfl; omega
  have HI : Hid (indexFrom s.data.toList [60, 47, 110, 111, 119, 105, 107, 105, 62] (i + 8) = j) := Lib.hid (e4.out.trans hj)
  have HU : Hid ((j : Int) + 9 = ((i + upTo (s.data.toList.drop i) nO nE : Nat) : Int)) := Lib.hid hu.1
  have hj0 : (0 : Int) ≤ (j : Int) := by omega
  clear h0 hsl hu hj hup
  go_enter Tryz.func73, Tryz.ntmps73
  go_wp2_with fail
  refine (At_any _ _ i _ (by omega) (by omega)).mono ?_
  rintro e w' ⟨rfl, rfl⟩
  go_wp2_with fail
  refine (At_any _ _ i _ (by omega) (by omega)).mono ?_
  rintro e w' ⟨rfl, rfl⟩
  go_wp2_with fail
  refine (Index_any _ _ (i + 8) _ (by omega) (by omega) (by decide)).mono ?_
  rintro e w' ⟨rfl, rfl⟩
  rw [HI.out]
  go_wp2
  go_ret2
  exact ⟨by rw [HS.out, two_eq (10, i + upTo (s.data.toList.drop i) nO nE) 10 _ rfl HU.out.symm]; rfl, Below.refl _ _⟩

theorem run_ge {c : UInt8} {l : List UInt8} (h : Lib.hasPrefix l [c, c] = true) : 2 ≤ run c l := by
  obtain ⟨r, rfl⟩ := hp_app h
  unfold run; simp
/-- What is left behind the rules 1 and 2. -/
theorem spec_tag {l : List UInt8} {i : Nat} (h1 : Lib.hasPrefix l cO = false) (h2 : ¬ (Lib.hasPrefix l nO = true ∧ upTo l nO nE ≠ 0)) : ∀ a b : Nat, b ≠ 0 → tagFrom l 3 1 = (a, b) → ends i (specL l) = (a, i + b) := by
  intro a b hb h
  unfold specL
  rw [h1, if_neg (by simp), if_neg h2, h, if_pos hb, ends_of hb]
theorem spec_rest {l : List UInt8} {i : Nat} (h1 : Lib.hasPrefix l cO = false) (h2 : ¬ (Lib.hasPrefix l nO = true ∧ upTo l nO nE ≠ 0)) : tagFrom l 3 1 = (0, 0) → ends i (specL l) = ends i (restL l) := by
  intro h
  unfold specL
  rw [h1, if_neg (by simp), if_neg h2, h, if_neg (by simp)]
end Go.Proofs.YtdojbnngdlmbgaaGreatDoor.Tk

namespace Go.Proofs.YtdojbnngdlmbgaaGreatDoor.Tk
open Go.RowKit

set_option maxRecDepth 100000 in
set_option maxHeartbeats 4000000 in
theorem special_open (s : ByteArray) (i : Nat) (w : World) (hi : i < s.size) (hs : s.size ≤ 8192) (h1 : Lib.hasPrefix (s.data.toList.drop i) [60, 33, 45, 45] = false) (h2 : Lib.hasPrefix (s.data.toList.drop i) [60, 110, 111, 119, 105, 107, 105, 62] = true) (h0 : upTo (s.data.toList.drop i) nO nE = 0) :
    Calls Tryz.prog 73 #[.string s, .int .i64 (i : Int)] w fun e w' => e = .returned (two (ends i (specL (s.data.toList.drop i)))) ∧ Below w.heap.size w w' := by
  have hl := hp_len h2
  rw [List.length_drop] at hl
  have hsl' : s.data.toList.length = s.size := rfl
  rw [hsl'] at hl
  simp at hl
  clear hsl'
  have HI : Hid (indexFrom s.data.toList [60, 47, 110, 111, 119, 105, 107, 105, 62] (i + 8) = -1) := Lib.hid (upTo_miss (o := nO) (n := nE) (by decide) h0)
  have hsl : Hid (s.data.toList.length = s.size) := Lib.hid rfl
  have hno : ¬ (Lib.hasPrefix (s.data.toList.drop i) nO = true ∧ upTo (s.data.toList.drop i) nO nE ≠ 0) := fun h => h.2 h0
  have HT := Lib.hid (spec_tag (i := i) h1 hno)
  have HE := Lib.hid (spec_rest (i := i) h1 hno)
  clear hno
  clear h0
  go_enter Tryz.func73, Tryz.ntmps73
  go_wp2_with fail
  refine (At_any _ _ i _ (by omega) (by omega)).mono ?_
  rintro e w' ⟨rfl, rfl⟩
  go_wp2_with fail
  refine (At_any _ _ i _ (by omega) (by omega)).mono ?_
  rintro e w' ⟨rfl, rfl⟩
  go_wp2_with fail
  refine (Index_any _ _ (i + 8) _ (by omega) (by omega) (by decide)).mono ?_
  rintro e w' ⟨rfl, rfl⟩
  rw [HI.out]
  go_wp2
  go_loopw [8] (fun x wr => ∃ k : Nat, 1 ≤ k ∧ k ≤ 4 ∧ x = .int .i64 k ∧ Hid (Below w.heap.size w wr) ∧ Hid (tagFrom (s.data.toList.drop i) 3 1 = tagFrom (s.data.toList.drop i) (4 - k) k)) (fun x _ => 4 - (intOf x).toNat)
  case atStart => exact ⟨1, by omega, by omega, rfl, Lib.hid (Below.refl _ _), Lib.hid rfl⟩
  case round =>
    obtain ⟨k, hk1, hk, rfl, hb, hr⟩ := hrel
    have hz := hb.out.size
    have hcases : k = 1 ∨ k = 2 ∨ k = 3 ∨ k = 4 := by omega
    rcases hcases with rfl | rfl | rfl | rfl
    · cases ha : Lib.hasPrefix (s.data.toList.drop i) [60, 110, 111, 105, 110, 99, 108, 117, 100, 101, 62]
      · cases hc : Lib.hasPrefix (s.data.toList.drop i) [60, 47, 110, 111, 105, 110, 99, 108, 117, 100, 101, 62]
        · have HN : Hid (tagFrom (s.data.toList.drop i) 3 1 = tagFrom (s.data.toList.drop i) 2 2) := Lib.hid (hr.out.trans (tag_step (k := 1) ha hc))
          go_wp2_with fail
          refine (TagText_1false _).mono ?_
          rintro e w1 ⟨rfl, hb1⟩
          have B1 : Hid (Below w.heap.size w w1) := Lib.hid (hb.out.trans (hb1.mono hb.out.size))
          clear hb1
          go_wp2_with fail
          refine (At_any _ _ i _ (by omega) (by omega)).mono ?_
          rintro e w' ⟨rfl, rfl⟩
          go_wp2_with fail
          refine (TagText_1true _).mono ?_
          rintro e w2 ⟨rfl, hb2⟩
          have B2 : Hid (Below w.heap.size w w2) := Lib.hid (B1.out.trans (hb2.mono B1.out.size))
          clear hb2
          go_wp2_with fail
          refine (At_any _ _ i _ (by omega) (by omega)).mono ?_
          rintro e w' ⟨rfl, rfl⟩
          go_wp2
          go_roundw
          case rel => exact ⟨2, by omega, by omega, by first | rfl | go_num, B2, HN⟩
          case measure => simp [intOf]
        · have HN : Hid (ends i (specL (s.data.toList.drop i)) = (12, i + 12)) := Lib.hid (HT.out 12 12 (by omega) (hr.out.trans (tag_close (k := 1) ha hc)))
          have hp := hp_len hc
          rw [List.length_drop, hsl.out] at hp
          simp at hp
          go_wp2_with fail
          refine (TagText_1false _).mono ?_
          rintro e w1 ⟨rfl, hb1⟩
          have B1 : Hid (Below w.heap.size w w1) := Lib.hid (hb.out.trans (hb1.mono hb.out.size))
          clear hb1
          go_wp2_with fail
          refine (At_any _ _ i _ (by omega) (by omega)).mono ?_
          rintro e w' ⟨rfl, rfl⟩
          go_wp2_with fail
          refine (TagText_1true _).mono ?_
          rintro e w2 ⟨rfl, hb2⟩
          have B2 : Hid (Below w.heap.size w w2) := Lib.hid (B1.out.trans (hb2.mono B1.out.size))
          clear hb2
          go_wp2_with fail
          refine (At_any _ _ i _ (by omega) (by omega)).mono ?_
          rintro e w' ⟨rfl, rfl⟩
          go_wp2
          go_ret2
          exact ⟨by rw [HN.out]; rfl, B2.out⟩
      · have HN : Hid (ends i (specL (s.data.toList.drop i)) = (11, i + 11)) := Lib.hid (HT.out 11 11 (by omega) (hr.out.trans (tag_open (k := 1) ha)))
        have hp := hp_len ha
        rw [List.length_drop, hsl.out] at hp
        simp at hp
        go_wp2_with fail
        refine (TagText_1false _).mono ?_
        rintro e w1 ⟨rfl, hb1⟩
        have B1 : Hid (Below w.heap.size w w1) := Lib.hid (hb.out.trans (hb1.mono hb.out.size))
        clear hb1
        go_wp2_with fail
        refine (At_any _ _ i _ (by omega) (by omega)).mono ?_
        rintro e w' ⟨rfl, rfl⟩
        go_wp2
        go_ret2
        exact ⟨by rw [HN.out]; rfl, B1.out⟩
    · cases ha : Lib.hasPrefix (s.data.toList.drop i) [60, 105, 110, 99, 108, 117, 100, 101, 111, 110, 108, 121, 62]
      · cases hc : Lib.hasPrefix (s.data.toList.drop i) [60, 47, 105, 110, 99, 108, 117, 100, 101, 111, 110, 108, 121, 62]
        · have HN : Hid (tagFrom (s.data.toList.drop i) 3 1 = tagFrom (s.data.toList.drop i) 1 3) := Lib.hid (hr.out.trans (tag_step (k := 2) ha hc))
          go_wp2_with fail
          refine (TagText_2false _).mono ?_
          rintro e w1 ⟨rfl, hb1⟩
          have B1 : Hid (Below w.heap.size w w1) := Lib.hid (hb.out.trans (hb1.mono hb.out.size))
          clear hb1
          go_wp2_with fail
          refine (At_any _ _ i _ (by omega) (by omega)).mono ?_
          rintro e w' ⟨rfl, rfl⟩
          go_wp2_with fail
          refine (TagText_2true _).mono ?_
          rintro e w2 ⟨rfl, hb2⟩
          have B2 : Hid (Below w.heap.size w w2) := Lib.hid (B1.out.trans (hb2.mono B1.out.size))
          clear hb2
          go_wp2_with fail
          refine (At_any _ _ i _ (by omega) (by omega)).mono ?_
          rintro e w' ⟨rfl, rfl⟩
          go_wp2
          go_roundw
          case rel => exact ⟨3, by omega, by omega, by first | rfl | go_num, B2, HN⟩
          case measure => simp [intOf]
        · have HN : Hid (ends i (specL (s.data.toList.drop i)) = (12, i + 14)) := Lib.hid (HT.out 12 14 (by omega) (hr.out.trans (tag_close (k := 2) ha hc)))
          have hp := hp_len hc
          rw [List.length_drop, hsl.out] at hp
          simp at hp
          go_wp2_with fail
          refine (TagText_2false _).mono ?_
          rintro e w1 ⟨rfl, hb1⟩
          have B1 : Hid (Below w.heap.size w w1) := Lib.hid (hb.out.trans (hb1.mono hb.out.size))
          clear hb1
          go_wp2_with fail
          refine (At_any _ _ i _ (by omega) (by omega)).mono ?_
          rintro e w' ⟨rfl, rfl⟩
          go_wp2_with fail
          refine (TagText_2true _).mono ?_
          rintro e w2 ⟨rfl, hb2⟩
          have B2 : Hid (Below w.heap.size w w2) := Lib.hid (B1.out.trans (hb2.mono B1.out.size))
          clear hb2
          go_wp2_with fail
          refine (At_any _ _ i _ (by omega) (by omega)).mono ?_
          rintro e w' ⟨rfl, rfl⟩
          go_wp2
          go_ret2
          exact ⟨by rw [HN.out]; rfl, B2.out⟩
      · have HN : Hid (ends i (specL (s.data.toList.drop i)) = (11, i + 13)) := Lib.hid (HT.out 11 13 (by omega) (hr.out.trans (tag_open (k := 2) ha)))
        have hp := hp_len ha
        rw [List.length_drop, hsl.out] at hp
        simp at hp
        go_wp2_with fail
        refine (TagText_2false _).mono ?_
        rintro e w1 ⟨rfl, hb1⟩
        have B1 : Hid (Below w.heap.size w w1) := Lib.hid (hb.out.trans (hb1.mono hb.out.size))
        clear hb1
        go_wp2_with fail
        refine (At_any _ _ i _ (by omega) (by omega)).mono ?_
        rintro e w' ⟨rfl, rfl⟩
        go_wp2
        go_ret2
        exact ⟨by rw [HN.out]; rfl, B1.out⟩
    · cases ha : Lib.hasPrefix (s.data.toList.drop i) [60, 111, 110, 108, 121, 105, 110, 99, 108, 117, 100, 101, 62]
      · cases hc : Lib.hasPrefix (s.data.toList.drop i) [60, 47, 111, 110, 108, 121, 105, 110, 99, 108, 117, 100, 101, 62]
        · have HN : Hid (tagFrom (s.data.toList.drop i) 3 1 = tagFrom (s.data.toList.drop i) 0 4) := Lib.hid (hr.out.trans (tag_step (k := 3) ha hc))
          go_wp2_with fail
          refine (TagText_3false _).mono ?_
          rintro e w1 ⟨rfl, hb1⟩
          have B1 : Hid (Below w.heap.size w w1) := Lib.hid (hb.out.trans (hb1.mono hb.out.size))
          clear hb1
          go_wp2_with fail
          refine (At_any _ _ i _ (by omega) (by omega)).mono ?_
          rintro e w' ⟨rfl, rfl⟩
          go_wp2_with fail
          refine (TagText_3true _).mono ?_
          rintro e w2 ⟨rfl, hb2⟩
          have B2 : Hid (Below w.heap.size w w2) := Lib.hid (B1.out.trans (hb2.mono B1.out.size))
          clear hb2
          go_wp2_with fail
          refine (At_any _ _ i _ (by omega) (by omega)).mono ?_
          rintro e w' ⟨rfl, rfl⟩
          go_wp2
          go_roundw
          case rel => exact ⟨4, by omega, by omega, by first | rfl | go_num, B2, HN⟩
          case measure => simp [intOf]
        · have HN : Hid (ends i (specL (s.data.toList.drop i)) = (12, i + 14)) := Lib.hid (HT.out 12 14 (by omega) (hr.out.trans (tag_close (k := 3) ha hc)))
          have hp := hp_len hc
          rw [List.length_drop, hsl.out] at hp
          simp at hp
          go_wp2_with fail
          refine (TagText_3false _).mono ?_
          rintro e w1 ⟨rfl, hb1⟩
          have B1 : Hid (Below w.heap.size w w1) := Lib.hid (hb.out.trans (hb1.mono hb.out.size))
          clear hb1
          go_wp2_with fail
          refine (At_any _ _ i _ (by omega) (by omega)).mono ?_
          rintro e w' ⟨rfl, rfl⟩
          go_wp2_with fail
          refine (TagText_3true _).mono ?_
          rintro e w2 ⟨rfl, hb2⟩
          have B2 : Hid (Below w.heap.size w w2) := Lib.hid (B1.out.trans (hb2.mono B1.out.size))
          clear hb2
          go_wp2_with fail
          refine (At_any _ _ i _ (by omega) (by omega)).mono ?_
          rintro e w' ⟨rfl, rfl⟩
          go_wp2
          go_ret2
          exact ⟨by rw [HN.out]; rfl, B2.out⟩
      · have HN : Hid (ends i (specL (s.data.toList.drop i)) = (11, i + 13)) := Lib.hid (HT.out 11 13 (by omega) (hr.out.trans (tag_open (k := 3) ha)))
        have hp := hp_len ha
        rw [List.length_drop, hsl.out] at hp
        simp at hp
        go_wp2_with fail
        refine (TagText_3false _).mono ?_
        rintro e w1 ⟨rfl, hb1⟩
        have B1 : Hid (Below w.heap.size w w1) := Lib.hid (hb.out.trans (hb1.mono hb.out.size))
        clear hb1
        go_wp2_with fail
        refine (At_any _ _ i _ (by omega) (by omega)).mono ?_
        rintro e w' ⟨rfl, rfl⟩
        go_wp2
        go_ret2
        exact ⟨by rw [HN.out]; rfl, B1.out⟩
    · have HR : Hid (ends i (specL (s.data.toList.drop i)) = ends i (restL (s.data.toList.drop i))) := Lib.hid (HE.out (hr.out.trans rfl))
      have hrl := run_le 123 (s.data.toList.drop i)
      have hrm := run_le 125 (s.data.toList.drop i)
      rw [List.length_drop, hsl.out] at hrl hrm
      cases g0 : Lib.hasPrefix (s.data.toList.drop i) [123, 123]
      rotate_left
      · have hge : 2 ≤ run 123 (s.data.toList.drop i) := run_ge (c := 123) g0
        have HN : Hid (ends i (specL (s.data.toList.drop i)) = (3, i + run 123 (s.data.toList.drop i))) := Lib.hid (HR.out.trans (by unfold restL; rw [g0]; simp only [if_true]; exact ends_of (by omega)))
        clear hge
        go_wp2_with fail
        refine (At_any _ _ i _ (by omega) (by omega)).mono ?_
        rintro e w' ⟨rfl, rfl⟩
        go_wp2_with fail
        refine (run_any _ i 123 _ (by omega) (by omega)).mono ?_
        rintro e w' ⟨rfl, rfl⟩
        go_wp2
        go_ret2
        exact ⟨by rw [HN.out]; rfl, hb.out⟩
      cases g1 : Lib.hasPrefix (s.data.toList.drop i) [125, 125]
      rotate_left
      · have hge : 2 ≤ run 125 (s.data.toList.drop i) := run_ge (c := 125) g1
        have HN : Hid (ends i (specL (s.data.toList.drop i)) = (4, i + run 125 (s.data.toList.drop i))) := Lib.hid (HR.out.trans (by unfold restL; rw [g0, g1]; simp only [Bool.false_eq_true, if_false, if_true]; exact ends_of (by omega)))
        clear hge
        go_wp2_with fail
        refine (At_any _ _ i _ (by omega) (by omega)).mono ?_
        rintro e w' ⟨rfl, rfl⟩
        go_wp2_with fail
        refine (At_any _ _ i _ (by omega) (by omega)).mono ?_
        rintro e w' ⟨rfl, rfl⟩
        go_wp2_with fail
        refine (run_any _ i 125 _ (by omega) (by omega)).mono ?_
        rintro e w' ⟨rfl, rfl⟩
        go_wp2
        go_ret2
        exact ⟨by rw [HN.out]; rfl, hb.out⟩
      cases g2 : Lib.hasPrefix (s.data.toList.drop i) [91, 91]
      rotate_left
      · have HN : Hid (ends i (specL (s.data.toList.drop i)) = (5, i + 2)) := Lib.hid (HR.out.trans (by unfold restL; rw [g0, g1, g2]; rfl))
        go_wp2_with fail
        refine (At_any _ _ i _ (by omega) (by omega)).mono ?_
        rintro e w' ⟨rfl, rfl⟩
        go_wp2_with fail
        refine (At_any _ _ i _ (by omega) (by omega)).mono ?_
        rintro e w' ⟨rfl, rfl⟩
        go_wp2_with fail
        refine (At_any _ _ i _ (by omega) (by omega)).mono ?_
        rintro e w' ⟨rfl, rfl⟩
        go_wp2
        go_ret2
        exact ⟨by rw [HN.out]; rfl, hb.out⟩
      cases g3 : Lib.hasPrefix (s.data.toList.drop i) [93, 93]
      rotate_left
      · have HN : Hid (ends i (specL (s.data.toList.drop i)) = (6, i + 2)) := Lib.hid (HR.out.trans (by unfold restL; rw [g0, g1, g2, g3]; rfl))
        go_wp2_with fail
        refine (At_any _ _ i _ (by omega) (by omega)).mono ?_
        rintro e w' ⟨rfl, rfl⟩
        go_wp2_with fail
        refine (At_any _ _ i _ (by omega) (by omega)).mono ?_
        rintro e w' ⟨rfl, rfl⟩
        go_wp2_with fail
        refine (At_any _ _ i _ (by omega) (by omega)).mono ?_
        rintro e w' ⟨rfl, rfl⟩
        go_wp2_with fail
        refine (At_any _ _ i _ (by omega) (by omega)).mono ?_
        rintro e w' ⟨rfl, rfl⟩
        go_wp2
        go_ret2
        exact ⟨by rw [HN.out]; rfl, hb.out⟩
      cases g4 : Lib.hasPrefix (s.data.toList.drop i) [124]
      rotate_left
      · have HN : Hid (ends i (specL (s.data.toList.drop i)) = (7, i + 1)) := Lib.hid (HR.out.trans (by unfold restL; rw [g0, g1, g2, g3, g4]; rfl))
        go_wp2_with fail
        refine (At_any _ _ i _ (by omega) (by omega)).mono ?_
        rintro e w' ⟨rfl, rfl⟩
        go_wp2_with fail
        refine (At_any _ _ i _ (by omega) (by omega)).mono ?_
        rintro e w' ⟨rfl, rfl⟩
        go_wp2_with fail
        refine (At_any _ _ i _ (by omega) (by omega)).mono ?_
        rintro e w' ⟨rfl, rfl⟩
        go_wp2_with fail
        refine (At_any _ _ i _ (by omega) (by omega)).mono ?_
        rintro e w' ⟨rfl, rfl⟩
        go_wp2_with fail
        refine (At_any _ _ i _ (by omega) (by omega)).mono ?_
        rintro e w' ⟨rfl, rfl⟩
        go_wp2
        go_ret2
        exact ⟨by rw [HN.out]; rfl, hb.out⟩
      cases g5 : Lib.hasPrefix (s.data.toList.drop i) [61]
      rotate_left
      · have HN : Hid (ends i (specL (s.data.toList.drop i)) = (8, i + 1)) := Lib.hid (HR.out.trans (by unfold restL; rw [g0, g1, g2, g3, g4, g5]; rfl))
        go_wp2_with fail
        refine (At_any _ _ i _ (by omega) (by omega)).mono ?_
        rintro e w' ⟨rfl, rfl⟩
        go_wp2_with fail
        refine (At_any _ _ i _ (by omega) (by omega)).mono ?_
        rintro e w' ⟨rfl, rfl⟩
        go_wp2_with fail
        refine (At_any _ _ i _ (by omega) (by omega)).mono ?_
        rintro e w' ⟨rfl, rfl⟩
        go_wp2_with fail
        refine (At_any _ _ i _ (by omega) (by omega)).mono ?_
        rintro e w' ⟨rfl, rfl⟩
        go_wp2_with fail
        refine (At_any _ _ i _ (by omega) (by omega)).mono ?_
        rintro e w' ⟨rfl, rfl⟩
        go_wp2_with fail
        refine (At_any _ _ i _ (by omega) (by omega)).mono ?_
        rintro e w' ⟨rfl, rfl⟩
        go_wp2
        go_ret2
        exact ⟨by rw [HN.out]; rfl, hb.out⟩
      cases g6 : Lib.hasPrefix (s.data.toList.drop i) [10]
      rotate_left
      · have HN : Hid (ends i (specL (s.data.toList.drop i)) = (2, i + 1)) := Lib.hid (HR.out.trans (by unfold restL; rw [g0, g1, g2, g3, g4, g5, g6]; rfl))
        go_wp2_with fail
        refine (At_any _ _ i _ (by omega) (by omega)).mono ?_
        rintro e w' ⟨rfl, rfl⟩
        go_wp2_with fail
        refine (At_any _ _ i _ (by omega) (by omega)).mono ?_
        rintro e w' ⟨rfl, rfl⟩
        go_wp2_with fail
        refine (At_any _ _ i _ (by omega) (by omega)).mono ?_
        rintro e w' ⟨rfl, rfl⟩
        go_wp2_with fail
        refine (At_any _ _ i _ (by omega) (by omega)).mono ?_
        rintro e w' ⟨rfl, rfl⟩
        go_wp2_with fail
        refine (At_any _ _ i _ (by omega) (by omega)).mono ?_
        rintro e w' ⟨rfl, rfl⟩
        go_wp2_with fail
        refine (At_any _ _ i _ (by omega) (by omega)).mono ?_
        rintro e w' ⟨rfl, rfl⟩
        go_wp2_with fail
        refine (At_any _ _ i _ (by omega) (by omega)).mono ?_
        rintro e w' ⟨rfl, rfl⟩
        go_wp2
        go_ret2
        exact ⟨by rw [HN.out]; rfl, hb.out⟩
      have HN : Hid (ends i (specL (s.data.toList.drop i)) = (0, 0)) := Lib.hid (HR.out.trans (by unfold restL; rw [g0, g1, g2, g3, g4, g5, g6]; rfl))
      go_wp2_with fail
      refine (At_any _ _ i _ (by omega) (by omega)).mono ?_
      rintro e w' ⟨rfl, rfl⟩
      go_wp2_with fail
      refine (At_any _ _ i _ (by omega) (by omega)).mono ?_
      rintro e w' ⟨rfl, rfl⟩
      go_wp2_with fail
      refine (At_any _ _ i _ (by omega) (by omega)).mono ?_
      rintro e w' ⟨rfl, rfl⟩
      go_wp2_with fail
      refine (At_any _ _ i _ (by omega) (by omega)).mono ?_
      rintro e w' ⟨rfl, rfl⟩
      go_wp2_with fail
      refine (At_any _ _ i _ (by omega) (by omega)).mono ?_
      rintro e w' ⟨rfl, rfl⟩
      go_wp2_with fail
      refine (At_any _ _ i _ (by omega) (by omega)).mono ?_
      rintro e w' ⟨rfl, rfl⟩
      go_wp2_with fail
      refine (At_any _ _ i _ (by omega) (by omega)).mono ?_
      rintro e w' ⟨rfl, rfl⟩
      go_wp2
      go_ret2
      exact ⟨by rw [HN.out]; rfl, hb.out⟩
end Go.Proofs.YtdojbnngdlmbgaaGreatDoor.Tk

namespace Go.Proofs.YtdojbnngdlmbgaaGreatDoor.Tk
open Go.RowKit

set_option maxRecDepth 100000 in
set_option maxHeartbeats 4000000 in
theorem special_plain (s : ByteArray) (i : Nat) (w : World) (hi : i < s.size) (hs : s.size ≤ 8192) (h1 : Lib.hasPrefix (s.data.toList.drop i) [60, 33, 45, 45] = false) (h2 : Lib.hasPrefix (s.data.toList.drop i) [60, 110, 111, 119, 105, 107, 105, 62] = false) :
    Calls Tryz.prog 73 #[.string s, .int .i64 (i : Int)] w fun e w' => e = .returned (two (ends i (specL (s.data.toList.drop i)))) ∧ Below w.heap.size w w' := by
  have hsl : Hid (s.data.toList.length = s.size) := Lib.hid rfl
  have hno : ¬ (Lib.hasPrefix (s.data.toList.drop i) nO = true ∧ upTo (s.data.toList.drop i) nO nE ≠ 0) := by rw [show Lib.hasPrefix (s.data.toList.drop i) nO = false from h2]; simp
  have HT := Lib.hid (spec_tag (i := i) h1 hno)
  have HE := Lib.hid (spec_rest (i := i) h1 hno)
  clear hno
  go_enter Tryz.func73, Tryz.ntmps73
  go_wp2_with fail
  refine (At_any _ _ i _ (by omega) (by omega)).mono ?_
  rintro e w' ⟨rfl, rfl⟩
  go_wp2_with fail
  refine (At_any _ _ i _ (by omega) (by omega)).mono ?_
  rintro e w' ⟨rfl, rfl⟩
  go_wp2
  go_loopw [8] (fun x wr => ∃ k : Nat, 1 ≤ k ∧ k ≤ 4 ∧ x = .int .i64 k ∧ Hid (Below w.heap.size w wr) ∧ Hid (tagFrom (s.data.toList.drop i) 3 1 = tagFrom (s.data.toList.drop i) (4 - k) k)) (fun x _ => 4 - (intOf x).toNat)
  case atStart => exact ⟨1, by omega, by omega, rfl, Lib.hid (Below.refl _ _), Lib.hid rfl⟩
  case round =>
    obtain ⟨k, hk1, hk, rfl, hb, hr⟩ := hrel
    have hz := hb.out.size
    have hcases : k = 1 ∨ k = 2 ∨ k = 3 ∨ k = 4 := by omega
    rcases hcases with rfl | rfl | rfl | rfl
    · cases ha : Lib.hasPrefix (s.data.toList.drop i) [60, 110, 111, 105, 110, 99, 108, 117, 100, 101, 62]
      · cases hc : Lib.hasPrefix (s.data.toList.drop i) [60, 47, 110, 111, 105, 110, 99, 108, 117, 100, 101, 62]
        · have HN : Hid (tagFrom (s.data.toList.drop i) 3 1 = tagFrom (s.data.toList.drop i) 2 2) := Lib.hid (hr.out.trans (tag_step (k := 1) ha hc))
          go_wp2_with fail
          refine (TagText_1false _).mono ?_
          rintro e w1 ⟨rfl, hb1⟩
          have B1 : Hid (Below w.heap.size w w1) := Lib.hid (hb.out.trans (hb1.mono hb.out.size))
          clear hb1
          go_wp2_with fail
          refine (At_any _ _ i _ (by omega) (by omega)).mono ?_
          rintro e w' ⟨rfl, rfl⟩
          go_wp2_with fail
          refine (TagText_1true _).mono ?_
          rintro e w2 ⟨rfl, hb2⟩
          have B2 : Hid (Below w.heap.size w w2) := Lib.hid (B1.out.trans (hb2.mono B1.out.size))
          clear hb2
          go_wp2_with fail
          refine (At_any _ _ i _ (by omega) (by omega)).mono ?_
          rintro e w' ⟨rfl, rfl⟩
          go_wp2
          go_roundw
          case rel => exact ⟨2, by omega, by omega, by first | rfl | go_num, B2, HN⟩
          case measure => simp [intOf]
        · have HN : Hid (ends i (specL (s.data.toList.drop i)) = (12, i + 12)) := Lib.hid (HT.out 12 12 (by omega) (hr.out.trans (tag_close (k := 1) ha hc)))
          have hp := hp_len hc
          rw [List.length_drop, hsl.out] at hp
          simp at hp
          go_wp2_with fail
          refine (TagText_1false _).mono ?_
          rintro e w1 ⟨rfl, hb1⟩
          have B1 : Hid (Below w.heap.size w w1) := Lib.hid (hb.out.trans (hb1.mono hb.out.size))
          clear hb1
          go_wp2_with fail
          refine (At_any _ _ i _ (by omega) (by omega)).mono ?_
          rintro e w' ⟨rfl, rfl⟩
          go_wp2_with fail
          refine (TagText_1true _).mono ?_
          rintro e w2 ⟨rfl, hb2⟩
          have B2 : Hid (Below w.heap.size w w2) := Lib.hid (B1.out.trans (hb2.mono B1.out.size))
          clear hb2
          go_wp2_with fail
          refine (At_any _ _ i _ (by omega) (by omega)).mono ?_
          rintro e w' ⟨rfl, rfl⟩
          go_wp2
          go_ret2
          exact ⟨by rw [HN.out]; rfl, B2.out⟩
      · have HN : Hid (ends i (specL (s.data.toList.drop i)) = (11, i + 11)) := Lib.hid (HT.out 11 11 (by omega) (hr.out.trans (tag_open (k := 1) ha)))
        have hp := hp_len ha
        rw [List.length_drop, hsl.out] at hp
        simp at hp
        go_wp2_with fail
        refine (TagText_1false _).mono ?_
        rintro e w1 ⟨rfl, hb1⟩
        have B1 : Hid (Below w.heap.size w w1) := Lib.hid (hb.out.trans (hb1.mono hb.out.size))
        clear hb1
        go_wp2_with fail
        refine (At_any _ _ i _ (by omega) (by omega)).mono ?_
        rintro e w' ⟨rfl, rfl⟩
        go_wp2
        go_ret2
        exact ⟨by rw [HN.out]; rfl, B1.out⟩
    · cases ha : Lib.hasPrefix (s.data.toList.drop i) [60, 105, 110, 99, 108, 117, 100, 101, 111, 110, 108, 121, 62]
      · cases hc : Lib.hasPrefix (s.data.toList.drop i) [60, 47, 105, 110, 99, 108, 117, 100, 101, 111, 110, 108, 121, 62]
        · have HN : Hid (tagFrom (s.data.toList.drop i) 3 1 = tagFrom (s.data.toList.drop i) 1 3) := Lib.hid (hr.out.trans (tag_step (k := 2) ha hc))
          go_wp2_with fail
          refine (TagText_2false _).mono ?_
          rintro e w1 ⟨rfl, hb1⟩
          have B1 : Hid (Below w.heap.size w w1) := Lib.hid (hb.out.trans (hb1.mono hb.out.size))
          clear hb1
          go_wp2_with fail
          refine (At_any _ _ i _ (by omega) (by omega)).mono ?_
          rintro e w' ⟨rfl, rfl⟩
          go_wp2_with fail
          refine (TagText_2true _).mono ?_
          rintro e w2 ⟨rfl, hb2⟩
          have B2 : Hid (Below w.heap.size w w2) := Lib.hid (B1.out.trans (hb2.mono B1.out.size))
          clear hb2
          go_wp2_with fail
          refine (At_any _ _ i _ (by omega) (by omega)).mono ?_
          rintro e w' ⟨rfl, rfl⟩
          go_wp2
          go_roundw
          case rel => exact ⟨3, by omega, by omega, by first | rfl | go_num, B2, HN⟩
          case measure => simp [intOf]
        · have HN : Hid (ends i (specL (s.data.toList.drop i)) = (12, i + 14)) := Lib.hid (HT.out 12 14 (by omega) (hr.out.trans (tag_close (k := 2) ha hc)))
          have hp := hp_len hc
          rw [List.length_drop, hsl.out] at hp
          simp at hp
          go_wp2_with fail
          refine (TagText_2false _).mono ?_
          rintro e w1 ⟨rfl, hb1⟩
          have B1 : Hid (Below w.heap.size w w1) := Lib.hid (hb.out.trans (hb1.mono hb.out.size))
          clear hb1
          go_wp2_with fail
          refine (At_any _ _ i _ (by omega) (by omega)).mono ?_
          rintro e w' ⟨rfl, rfl⟩
          go_wp2_with fail
          refine (TagText_2true _).mono ?_
          rintro e w2 ⟨rfl, hb2⟩
          have B2 : Hid (Below w.heap.size w w2) := Lib.hid (B1.out.trans (hb2.mono B1.out.size))
          clear hb2
          go_wp2_with fail
          refine (At_any _ _ i _ (by omega) (by omega)).mono ?_
          rintro e w' ⟨rfl, rfl⟩
          go_wp2
          go_ret2
          exact ⟨by rw [HN.out]; rfl, B2.out⟩
      · have HN : Hid (ends i (specL (s.data.toList.drop i)) = (11, i + 13)) := Lib.hid (HT.out 11 13 (by omega) (hr.out.trans (tag_open (k := 2) ha)))
        have hp := hp_len ha
        rw [List.length_drop, hsl.out] at hp
        simp at hp
        go_wp2_with fail
        refine (TagText_2false _).mono ?_
        rintro e w1 ⟨rfl, hb1⟩
        have B1 : Hid (Below w.heap.size w w1) := Lib.hid (hb.out.trans (hb1.mono hb.out.size))
        clear hb1
        go_wp2_with fail
        refine (At_any _ _ i _ (by omega) (by omega)).mono ?_
        rintro e w' ⟨rfl, rfl⟩
        go_wp2
        go_ret2
        exact ⟨by rw [HN.out]; rfl, B1.out⟩
    · cases ha : Lib.hasPrefix (s.data.toList.drop i) [60, 111, 110, 108, 121, 105, 110, 99, 108, 117, 100, 101, 62]
      · cases hc : Lib.hasPrefix (s.data.toList.drop i) [60, 47, 111, 110, 108, 121, 105, 110, 99, 108, 117, 100, 101, 62]
        · have HN : Hid (tagFrom (s.data.toList.drop i) 3 1 = tagFrom (s.data.toList.drop i) 0 4) := Lib.hid (hr.out.trans (tag_step (k := 3) ha hc))
          go_wp2_with fail
          refine (TagText_3false _).mono ?_
          rintro e w1 ⟨rfl, hb1⟩
          have B1 : Hid (Below w.heap.size w w1) := Lib.hid (hb.out.trans (hb1.mono hb.out.size))
          clear hb1
          go_wp2_with fail
          refine (At_any _ _ i _ (by omega) (by omega)).mono ?_
          rintro e w' ⟨rfl, rfl⟩
          go_wp2_with fail
          refine (TagText_3true _).mono ?_
          rintro e w2 ⟨rfl, hb2⟩
          have B2 : Hid (Below w.heap.size w w2) := Lib.hid (B1.out.trans (hb2.mono B1.out.size))
          clear hb2
          go_wp2_with fail
          refine (At_any _ _ i _ (by omega) (by omega)).mono ?_
          rintro e w' ⟨rfl, rfl⟩
          go_wp2
          go_roundw
          case rel => exact ⟨4, by omega, by omega, by first | rfl | go_num, B2, HN⟩
          case measure => simp [intOf]
        · have HN : Hid (ends i (specL (s.data.toList.drop i)) = (12, i + 14)) := Lib.hid (HT.out 12 14 (by omega) (hr.out.trans (tag_close (k := 3) ha hc)))
          have hp := hp_len hc
          rw [List.length_drop, hsl.out] at hp
          simp at hp
          go_wp2_with fail
          refine (TagText_3false _).mono ?_
          rintro e w1 ⟨rfl, hb1⟩
          have B1 : Hid (Below w.heap.size w w1) := Lib.hid (hb.out.trans (hb1.mono hb.out.size))
          clear hb1
          go_wp2_with fail
          refine (At_any _ _ i _ (by omega) (by omega)).mono ?_
          rintro e w' ⟨rfl, rfl⟩
          go_wp2_with fail
          refine (TagText_3true _).mono ?_
          rintro e w2 ⟨rfl, hb2⟩
          have B2 : Hid (Below w.heap.size w w2) := Lib.hid (B1.out.trans (hb2.mono B1.out.size))
          clear hb2
          go_wp2_with fail
          refine (At_any _ _ i _ (by omega) (by omega)).mono ?_
          rintro e w' ⟨rfl, rfl⟩
          go_wp2
          go_ret2
          exact ⟨by rw [HN.out]; rfl, B2.out⟩
      · have HN : Hid (ends i (specL (s.data.toList.drop i)) = (11, i + 13)) := Lib.hid (HT.out 11 13 (by omega) (hr.out.trans (tag_open (k := 3) ha)))
        have hp := hp_len ha
        rw [List.length_drop, hsl.out] at hp
        simp at hp
        go_wp2_with fail
        refine (TagText_3false _).mono ?_
        rintro e w1 ⟨rfl, hb1⟩
        have B1 : Hid (Below w.heap.size w w1) := Lib.hid (hb.out.trans (hb1.mono hb.out.size))
        clear hb1
        go_wp2_with fail
        refine (At_any _ _ i _ (by omega) (by omega)).mono ?_
        rintro e w' ⟨rfl, rfl⟩
        go_wp2
        go_ret2
        exact ⟨by rw [HN.out]; rfl, B1.out⟩
    · have HR : Hid (ends i (specL (s.data.toList.drop i)) = ends i (restL (s.data.toList.drop i))) := Lib.hid (HE.out (hr.out.trans rfl))
      have hrl := run_le 123 (s.data.toList.drop i)
      have hrm := run_le 125 (s.data.toList.drop i)
      rw [List.length_drop, hsl.out] at hrl hrm
      cases g0 : Lib.hasPrefix (s.data.toList.drop i) [123, 123]
      rotate_left
      · have hge : 2 ≤ run 123 (s.data.toList.drop i) := run_ge (c := 123) g0
        have HN : Hid (ends i (specL (s.data.toList.drop i)) = (3, i + run 123 (s.data.toList.drop i))) := Lib.hid (HR.out.trans (by unfold restL; rw [g0]; simp only [if_true]; exact ends_of (by omega)))
        clear hge
        go_wp2_with fail
        refine (At_any _ _ i _ (by omega) (by omega)).mono ?_
        rintro e w' ⟨rfl, rfl⟩
        go_wp2_with fail
        refine (run_any _ i 123 _ (by omega) (by omega)).mono ?_
        rintro e w' ⟨rfl, rfl⟩
        go_wp2
        go_ret2
        exact ⟨by rw [HN.out]; rfl, hb.out⟩
      cases g1 : Lib.hasPrefix (s.data.toList.drop i) [125, 125]
      rotate_left
      · have hge : 2 ≤ run 125 (s.data.toList.drop i) := run_ge (c := 125) g1
        have HN : Hid (ends i (specL (s.data.toList.drop i)) = (4, i + run 125 (s.data.toList.drop i))) := Lib.hid (HR.out.trans (by unfold restL; rw [g0, g1]; simp only [Bool.false_eq_true, if_false, if_true]; exact ends_of (by omega)))
        clear hge
        go_wp2_with fail
        refine (At_any _ _ i _ (by omega) (by omega)).mono ?_
        rintro e w' ⟨rfl, rfl⟩
        go_wp2_with fail
        refine (At_any _ _ i _ (by omega) (by omega)).mono ?_
        rintro e w' ⟨rfl, rfl⟩
        go_wp2_with fail
        refine (run_any _ i 125 _ (by omega) (by omega)).mono ?_
        rintro e w' ⟨rfl, rfl⟩
        go_wp2
        go_ret2
        exact ⟨by rw [HN.out]; rfl, hb.out⟩
      cases g2 : Lib.hasPrefix (s.data.toList.drop i) [91, 91]
      rotate_left
      · have HN : Hid (ends i (specL (s.data.toList.drop i)) = (5, i + 2)) := Lib.hid (HR.out.trans (by unfold restL; rw [g0, g1, g2]; rfl))
        go_wp2_with fail
        refine (At_any _ _ i _ (by omega) (by omega)).mono ?_
        rintro e w' ⟨rfl, rfl⟩
        go_wp2_with fail
        refine (At_any _ _ i _ (by omega) (by omega)).mono ?_
        rintro e w' ⟨rfl, rfl⟩
        go_wp2_with fail
        refine (At_any _ _ i _ (by omega) (by omega)).mono ?_
        rintro e w' ⟨rfl, rfl⟩
        go_wp2
        go_ret2
        exact ⟨by rw [HN.out]; rfl, hb.out⟩
      cases g3 : Lib.hasPrefix (s.data.toList.drop i) [93, 93]
      rotate_left
      · have HN : Hid (ends i (specL (s.data.toList.drop i)) = (6, i + 2)) := Lib.hid (HR.out.trans (by unfold restL; rw [g0, g1, g2, g3]; rfl))
        go_wp2_with fail
        refine (At_any _ _ i _ (by omega) (by omega)).mono ?_
        rintro e w' ⟨rfl, rfl⟩
        go_wp2_with fail
        refine (At_any _ _ i _ (by omega) (by omega)).mono ?_
        rintro e w' ⟨rfl, rfl⟩
        go_wp2_with fail
        refine (At_any _ _ i _ (by omega) (by omega)).mono ?_
        rintro e w' ⟨rfl, rfl⟩
        go_wp2_with fail
        refine (At_any _ _ i _ (by omega) (by omega)).mono ?_
        rintro e w' ⟨rfl, rfl⟩
        go_wp2
        go_ret2
        exact ⟨by rw [HN.out]; rfl, hb.out⟩
      cases g4 : Lib.hasPrefix (s.data.toList.drop i) [124]
      rotate_left
      · have HN : Hid (ends i (specL (s.data.toList.drop i)) = (7, i + 1)) := Lib.hid (HR.out.trans (by unfold restL; rw [g0, g1, g2, g3, g4]; rfl))
        go_wp2_with fail
        refine (At_any _ _ i _ (by omega) (by omega)).mono ?_
        rintro e w' ⟨rfl, rfl⟩
        go_wp2_with fail
        refine (At_any _ _ i _ (by omega) (by omega)).mono ?_
        rintro e w' ⟨rfl, rfl⟩
        go_wp2_with fail
        refine (At_any _ _ i _ (by omega) (by omega)).mono ?_
        rintro e w' ⟨rfl, rfl⟩
        go_wp2_with fail
        refine (At_any _ _ i _ (by omega) (by omega)).mono ?_
        rintro e w' ⟨rfl, rfl⟩
        go_wp2_with fail
        refine (At_any _ _ i _ (by omega) (by omega)).mono ?_
        rintro e w' ⟨rfl, rfl⟩
        go_wp2
        go_ret2
        exact ⟨by rw [HN.out]; rfl, hb.out⟩
      cases g5 : Lib.hasPrefix (s.data.toList.drop i) [61]
      rotate_left
      · have HN : Hid (ends i (specL (s.data.toList.drop i)) = (8, i + 1)) := Lib.hid (HR.out.trans (by unfold restL; rw [g0, g1, g2, g3, g4, g5]; rfl))
        go_wp2_with fail
        refine (At_any _ _ i _ (by omega) (by omega)).mono ?_
        rintro e w' ⟨rfl, rfl⟩
        go_wp2_with fail
        refine (At_any _ _ i _ (by omega) (by omega)).mono ?_
        rintro e w' ⟨rfl, rfl⟩
        go_wp2_with fail
        refine (At_any _ _ i _ (by omega) (by omega)).mono ?_
        rintro e w' ⟨rfl, rfl⟩
        go_wp2_with fail
        refine (At_any _ _ i _ (by omega) (by omega)).mono ?_
        rintro e w' ⟨rfl, rfl⟩
        go_wp2_with fail
        refine (At_any _ _ i _ (by omega) (by omega)).mono ?_
        rintro e w' ⟨rfl, rfl⟩
        go_wp2_with fail
        refine (At_any _ _ i _ (by omega) (by omega)).mono ?_
        rintro e w' ⟨rfl, rfl⟩
        go_wp2
        go_ret2
        exact ⟨by rw [HN.out]; rfl, hb.out⟩
      cases g6 : Lib.hasPrefix (s.data.toList.drop i) [10]
      rotate_left
      · have HN : Hid (ends i (specL (s.data.toList.drop i)) = (2, i + 1)) := Lib.hid (HR.out.trans (by unfold restL; rw [g0, g1, g2, g3, g4, g5, g6]; rfl))
        go_wp2_with fail
        refine (At_any _ _ i _ (by omega) (by omega)).mono ?_
        rintro e w' ⟨rfl, rfl⟩
        go_wp2_with fail
        refine (At_any _ _ i _ (by omega) (by omega)).mono ?_
        rintro e w' ⟨rfl, rfl⟩
        go_wp2_with fail
        refine (At_any _ _ i _ (by omega) (by omega)).mono ?_
        rintro e w' ⟨rfl, rfl⟩
        go_wp2_with fail
        refine (At_any _ _ i _ (by omega) (by omega)).mono ?_
        rintro e w' ⟨rfl, rfl⟩
        go_wp2_with fail
        refine (At_any _ _ i _ (by omega) (by omega)).mono ?_
        rintro e w' ⟨rfl, rfl⟩
        go_wp2_with fail
        refine (At_any _ _ i _ (by omega) (by omega)).mono ?_
        rintro e w' ⟨rfl, rfl⟩
        go_wp2_with fail
        refine (At_any _ _ i _ (by omega) (by omega)).mono ?_
        rintro e w' ⟨rfl, rfl⟩
        go_wp2
        go_ret2
        exact ⟨by rw [HN.out]; rfl, hb.out⟩
      have HN : Hid (ends i (specL (s.data.toList.drop i)) = (0, 0)) := Lib.hid (HR.out.trans (by unfold restL; rw [g0, g1, g2, g3, g4, g5, g6]; rfl))
      go_wp2_with fail
      refine (At_any _ _ i _ (by omega) (by omega)).mono ?_
      rintro e w' ⟨rfl, rfl⟩
      go_wp2_with fail
      refine (At_any _ _ i _ (by omega) (by omega)).mono ?_
      rintro e w' ⟨rfl, rfl⟩
      go_wp2_with fail
      refine (At_any _ _ i _ (by omega) (by omega)).mono ?_
      rintro e w' ⟨rfl, rfl⟩
      go_wp2_with fail
      refine (At_any _ _ i _ (by omega) (by omega)).mono ?_
      rintro e w' ⟨rfl, rfl⟩
      go_wp2_with fail
      refine (At_any _ _ i _ (by omega) (by omega)).mono ?_
      rintro e w' ⟨rfl, rfl⟩
      go_wp2_with fail
      refine (At_any _ _ i _ (by omega) (by omega)).mono ?_
      rintro e w' ⟨rfl, rfl⟩
      go_wp2_with fail
      refine (At_any _ _ i _ (by omega) (by omega)).mono ?_
      rintro e w' ⟨rfl, rfl⟩
      go_wp2
      go_ret2
      exact ⟨by rw [HN.out]; rfl, hb.out⟩
end Go.Proofs.YtdojbnngdlmbgaaGreatDoor.Tk

namespace Go.Proofs.YtdojbnngdlmbgaaGreatDoor.Tk
open Go.RowKit

theorem special_any (s : ByteArray) (i : Nat) (w : World) (hi : i < s.size) (hs : s.size ≤ 8192) :
    Calls Tryz.prog 73 #[.string s, .int .i64 (i : Int)] w fun e w' => e = .returned (two (ends i (specL (s.data.toList.drop i)))) ∧ Below w.heap.size w w' := by
  cases h1 : Lib.hasPrefix (s.data.toList.drop i) [60, 33, 45, 45]
  · cases h2 : Lib.hasPrefix (s.data.toList.drop i) [60, 110, 111, 119, 105, 107, 105, 62]
    · exact special_plain s i w hi hs h1 h2
    · by_cases h0 : upTo (s.data.toList.drop i) nO nE = 0
      · exact special_open s i w hi hs h1 h2 h0
      · exact special_nowiki s i w hi hs h1 h2 h0
  · exact special_comment s i w hi hs h1
theorem ends_mark (i : Nat) (l : List UInt8) : ends i (specL l) = if (mark l).2 = 0 then (0, 0) else ((mark l).1, i + (mark l).2) := by
  rw [spec_mark]
  split
  · rfl
  · rename_i h; unfold ends; rw [if_neg h]

set_option maxHeartbeats 2000000 in
theorem ScanR_any (s : ByteArray) (w : World) (hs : s.size ≤ 8192) :
    Calls Tryz.prog 36 #[.string s] w (Scanned w (scanL s.data.toList 0 0)) := by
  obtain ⟨i0, hi0, hz0, hz1, hz2⟩ := info_parts token_info
  have h1 : ¬ (8192 : Int) < (s.size : Int) := by omega
  have hsl : s.data.toList.length = s.size := rfl
  have HSL := Lib.hid hsl; clear hsl
  go_enter Tryz.func36, Tryz.ntmps36
  go_wp2
  go_loopw [4, 5, 6] (fun tk tx at_ wr => ∃ (l : List Tok) (a k : Nat), tx = .int .i64 a ∧ at_ = .int .i64 k ∧ a ≤ k ∧ k ≤ s.size ∧ l.length ≤ a ∧ Hid (Own wr w.heap.size tk l) ∧ Hid (Below w.heap.size w wr) ∧ Hid (l ++ scanL s.data.toList a k = scanL s.data.toList 0 0)) (fun _ _ at_ _ => s.size - (intOf at_).toNat)
  case atStart => exact ⟨[], 0, 0, rfl, rfl, by omega, by omega, by simp, Lib.hid (World.ownsRow_nil _ _ _ _), Lib.hid (Below.refl _ _), Lib.hid rfl⟩
  case round =>
    obtain ⟨l, a, k, rfl, rfl, hak, hk, hl, ho, hb, hr⟩ := hrel
    by_cases hlt : k < s.size
    · have hml := mark_le (s.data.toList.drop k)
      rw [List.length_drop, HSL.out] at hml
      have hmk : (mark (s.data.toList.drop k)).2 ≠ 0 → (mark (s.data.toList.drop k)).1 ≠ 0 := fun h => by have := mark_kind h; omega
      have hem := ends_mark k (s.data.toList.drop k)
      obtain ⟨kd, sz, hM⟩ : ∃ kd sz, mark (s.data.toList.drop k) = (kd, sz) := ⟨_, _, rfl⟩
      rw [hM] at hml hmk hem
      simp only at hml hmk hem
      have HM := Lib.hid hM; clear hM
      by_cases h0 : sz = 0
      · have HN : Hid (scanL s.data.toList a k = scanL s.data.toList a (k + 1)) := Lib.hid (scan_no (by rw [HSL.out]; exact hlt) (by rw [HM.out]; exact h0))
        have HE : Hid (ends k (specL (s.data.toList.drop k)) = (0, 0)) := Lib.hid (by rw [hem, if_pos h0])
        clear hem hmk h0
        go_wp2_with fail
        refine (special_any _ k _ (by omega) (by omega)).mono ?_
        rintro e w' ⟨rfl, hb1⟩
        rw [HE.out]
        unfold two
        go_wp2
        go_roundw
        case rel => exact ⟨l, a, k + 1, rfl, by go_num, by omega, by omega, hl, Lib.hid (Own.below ho.out hb1 (Nat.le_refl _)), Lib.hid (hb.out.trans (hb1.mono hb.out.size)), Lib.hid (by rw [← HN.out]; exact hr.out)⟩
        case measure => simp [intOf]; omega
      · have HN : Hid (scanL s.data.toList a k = gap a k ++ (kd, k, k + sz) :: scanL s.data.toList (k + sz) (k + sz)) := Lib.hid (by
          have := scan_yes (s := s.data.toList) (text := a) (i := k) (by rw [HSL.out]; exact hlt) (by rw [HM.out]; exact h0)
          rw [HM.out] at this; exact this)
        have HE : Hid (ends k (specL (s.data.toList.drop k)) = (kd, k + sz)) := Lib.hid (by rw [hem, if_neg h0])
        have hkd := hmk h0
        clear hem hmk
        have hz : ((kd : Int) == 0) = false := by rw [beq_eq_false_iff_ne]; omega
        by_cases hlt2 : a < k
        · have hgl : gap a k = [(1, a, k)] := by unfold gap; rw [if_neg (by omega)]
          rw [hgl] at HN
          clear hgl
          have hd1 : (a : Int) < (k : Int) := by omega
          go_wp2_with fail
          refine (special_any _ k _ (by omega) (by omega)).mono ?_
          rintro e w1 ⟨rfl, hb1⟩
          rw [HE.out]
          unfold two
          have ho1 : Hid (Own w1 w.heap.size u4 l) := Lib.hid (Own.below ho.out hb1 (Nat.le_refl _))
          have hb2 : Hid (Below w.heap.size w w1) := Lib.hid (hb.out.trans (hb1.mono hb.out.size))
          have hs1 : w.heap.size ≤ w1.heap.size := hb2.out.size
          clear hb1 ho hb
          go_wp2_with (first
            | (at_builtin; refine wpList_append_own _ rfl (.tmp 29) (.tmp 33) _ rfl w.heap.size 72 i0 _ 3 24 Tryz.underlying63 hi0 hz0 hz1 hz2 rfl (by omega) u4 l.length (cellsOf l) rfl (World.ownsRow.alloc ho1.out _) ⟨w1.heap.size, 0, none⟩ 1 1 [.int .i64 1, .int .i64 (a : Int), .int .i64 (k : Int)] rfl rfl (cells3 _ _ _ _ _) (by simp [Value.oneCell']) (by simp only [maxLen]; omega) (by omega) (by simp; omega) ?_; intro v2 w2 ho2 hg2 _
               have ho2' : Hid (Own w2 w.heap.size v2 (l ++ [(1, a, k)])) := Lib.hid (own_snoc (x := (1, a, k)) ho2)
               have hb4 : Hid (Below w.heap.size w w2) := Lib.hid (hb2.out.trans (((Below.refl _ _).alloc hs1 _).trans (below_own (World.ownsRow.alloc ho1.out _) hg2 (by simp; omega))))
               have hsz : w.heap.size ≤ w2.heap.size := hb4.out.size
               clear ho2 hg2 ho1 hb2)
            | (at_builtin; refine wpList_append_own _ rfl (.tmp 35) (.tmp 40) _ rfl w.heap.size 72 i0 _ 3 24 Tryz.underlying63 hi0 hz0 hz1 hz2 rfl (by omega) v2 (l ++ [(1, a, k)]).length (cellsOf (l ++ [(1, a, k)])) rfl (World.ownsRow.alloc ho2'.out _) ⟨w2.heap.size, 0, none⟩ 1 1 [.int .i64 (kd : Int), .int .i64 (k : Int), .int .i64 ((k : Int) + (sz : Int))] rfl rfl (cells3 _ _ _ _ _) (by simp [Value.oneCell']) (by simp only [maxLen, List.length_append, List.length_singleton]; omega) (by simp only [List.length_append, List.length_singleton]; omega) (by simp; omega) ?_; intro v3 w3 ho3 hg3 _))
          go_roundw
          case rel => exact ⟨(l ++ [(1, a, k)]) ++ [(kd, k, k + sz)], k + sz, k + sz, by go_num, by go_num, by omega, by omega, by simp only [List.length_append, List.length_singleton]; omega,
            Lib.hid (own_snoc (x := (kd, k, k + sz)) ho3), Lib.hid (hb4.out.trans (((Below.refl _ _).alloc hsz _).trans (below_own (World.ownsRow.alloc ho2'.out _) hg3 (by simp; omega)))), Lib.hid (by rw [← hr.out, HN.out]; simp)⟩
          case measure => simp [intOf]; omega
        · obtain rfl : a = k := by omega
          have hgl : gap a a = [] := by unfold gap; rw [if_pos rfl]
          rw [hgl, List.nil_append] at HN
          clear hgl
          go_wp2_with fail
          refine (special_any _ a _ (by omega) (by omega)).mono ?_
          rintro e w1 ⟨rfl, hb1⟩
          rw [HE.out]
          unfold two
          have ho1 : Hid (Own w1 w.heap.size u4 l) := Lib.hid (Own.below ho.out hb1 (Nat.le_refl _))
          have hb2 : Hid (Below w.heap.size w w1) := Lib.hid (hb.out.trans (hb1.mono hb.out.size))
          have hs1 : w.heap.size ≤ w1.heap.size := hb2.out.size
          clear hb1 ho hb
          go_wp2_with (at_builtin; refine wpList_append_own _ rfl (.tmp 35) (.tmp 40) _ rfl w.heap.size 72 i0 _ 3 24 Tryz.underlying63 hi0 hz0 hz1 hz2 rfl (by omega) u4 l.length (cellsOf l) rfl (World.ownsRow.alloc ho1.out _) ⟨w1.heap.size, 0, none⟩ 1 1 [.int .i64 (kd : Int), .int .i64 (a : Int), .int .i64 ((a : Int) + (sz : Int))] rfl rfl (cells3 _ _ _ _ _) (by simp [Value.oneCell']) (by simp only [maxLen]; omega) (by omega) (by simp; omega) ?_; intro v3 w3 ho3 hg3 _)
          go_roundw
          case rel => exact ⟨l ++ [(kd, a, a + sz)], a + sz, a + sz, by go_num, by go_num, by omega, by omega, by simp only [List.length_append, List.length_singleton]; omega,
            Lib.hid (own_snoc (x := (kd, a, a + sz)) ho3), Lib.hid (hb2.out.trans (((Below.refl _ _).alloc hs1 _).trans (below_own (World.ownsRow.alloc ho1.out _) hg3 (by simp; omega)))), Lib.hid (by rw [← hr.out, HN.out]; simp)⟩
          case measure => simp [intOf]; omega
    · have HN : Hid (scanL s.data.toList a k = gap a s.size) := Lib.hid (scan_end (by rw [HSL.out]; exact hlt))
      have hs1 : w.heap.size ≤ wr.heap.size := hb.out.size
      by_cases hlt2 : a < s.size
      · have hgl : gap a s.size = [(1, a, s.size)] := by unfold gap; rw [if_neg (by omega)]
        rw [hgl] at HN
        clear hgl
        have hd1 : (a : Int) < (s.size : Int) := by omega
        go_wp2_with (at_builtin; refine wpList_append_own _ rfl (.tmp 48) (.tmp 53) _ rfl w.heap.size 72 i0 _ 3 24 Tryz.underlying63 hi0 hz0 hz1 hz2 rfl (by omega) u4 l.length (cellsOf l) rfl (World.ownsRow.alloc ho.out _) ⟨wr.heap.size, 0, none⟩ 1 1 [.int .i64 1, .int .i64 (a : Int), .int .i64 (s.size : Int)] rfl rfl (cells3 _ _ _ _ _) (by simp [Value.oneCell']) (by simp only [maxLen]; omega) (by omega) (by simp; omega) ?_; intro v3 w3 ho3 hg3 _)
        go_ret2
        exact ⟨v3, rfl, by rw [← hr.out, HN.out]; exact own_snoc (x := (1, a, s.size)) ho3, hb.out.trans (((Below.refl _ _).alloc hs1 _).trans (below_own (World.ownsRow.alloc ho.out _) hg3 (by simp; omega)))⟩
      · have hgl : gap a s.size = [] := by unfold gap; rw [if_pos (by omega)]
        rw [hgl] at HN
        clear hgl
        have hd1 : ¬ (a : Int) < (s.size : Int) := by omega
        go_wp2
        go_ret2
        exact ⟨u4, rfl, by rw [← hr.out, HN.out]; simpa using ho.out, hb.out⟩
end Go.Proofs.YtdojbnngdlmbgaaGreatDoor.Tk
