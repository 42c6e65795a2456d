/-
  The contracts of angle and mark of package token, in every world that holds the table of tags.
-/
import Derived.Test.YtdojbnngdlmbgaaGreatDoorTkLeaf
import Derived.Laws.Rows
namespace Go.Proofs.YtdojbnngdlmbgaaGreatDoor.Tk
open Go.RowKit

/-- The table of tags, cell for cell. -/
def tagCells : Array Value := #[.int .i64 1, .string ⟨#[60, 110, 111, 105, 110, 99, 108, 117, 100, 101, 62]⟩, .string ⟨#[60, 47, 110, 111, 105, 110, 99, 108, 117, 100, 101, 62]⟩,
  .int .i64 2, .string ⟨#[60, 105, 110, 99, 108, 117, 100, 101, 111, 110, 108, 121, 62]⟩, .string ⟨#[60, 47, 105, 110, 99, 108, 117, 100, 101, 111, 110, 108, 121, 62]⟩,
  .int .i64 3, .string ⟨#[60, 111, 110, 108, 121, 105, 110, 99, 108, 117, 100, 101, 62]⟩, .string ⟨#[60, 47, 111, 110, 108, 121, 105, 110, 99, 108, 117, 100, 101, 62]⟩]
/-- What the world holds of the package-level variables that the functions read. -/
structure Tb (w : World) : Prop where
  m : ∃ m : Int, w.cell? ⟨1, 0, none⟩ = some (.int .i64 m)
  tg : ∃ t fr, w.heap[0]? = some (.cells tagCells t fr)
  lt : 1 < w.heap.size ∧ 0 < w.heap.size
theorem Tb.below {w w' : World} (h : Tb w) (hb : Below w.heap.size w w') : Tb w' := by
  have hl := h.lt
  refine ⟨?_, ?_, by have := hb.size; exact ⟨by omega, by omega⟩⟩
  · obtain ⟨m, hm⟩ := h.m
    exact ⟨m, (hb.cell (p := ⟨1, 0, none⟩) (by show 1 < _; omega)).trans hm⟩
  · obtain ⟨t, fr, ht⟩ := h.tg
    exact ⟨t, fr, (hb.block _ (by omega)).trans ht⟩
theorem Tb.drewN {w : World} (h : Tb w) (n : Nat) : Tb (w.drewN n) := ⟨h.m, h.tg, h.lt⟩

theorem ix0 (w : World) : (Instr.index 121 (.agg tagCells) (.int .i64 0)).run Tryz.prog w = .ok (.agg #[.int .i64 1, .string ⟨#[60, 110, 111, 105, 110, 99, 108, 117, 100, 101, 62]⟩, .string ⟨#[60, 47, 110, 111, 105, 110, 99, 108, 117, 100, 101, 62]⟩]) w := by kernel_rfl
theorem ix1 (w : World) : (Instr.index 121 (.agg tagCells) (.int .i64 1)).run Tryz.prog w = .ok (.agg #[.int .i64 2, .string ⟨#[60, 105, 110, 99, 108, 117, 100, 101, 111, 110, 108, 121, 62]⟩, .string ⟨#[60, 47, 105, 110, 99, 108, 117, 100, 101, 111, 110, 108, 121, 62]⟩]) w := by kernel_rfl
theorem ix2 (w : World) : (Instr.index 121 (.agg tagCells) (.int .i64 2)).run Tryz.prog w = .ok (.agg #[.int .i64 3, .string ⟨#[60, 111, 110, 108, 121, 105, 110, 99, 108, 117, 100, 101, 62]⟩, .string ⟨#[60, 47, 111, 110, 108, 121, 105, 110, 99, 108, 117, 100, 101, 62]⟩]) w := by kernel_rfl

theorem angle_comment (s : ByteArray) (w : World) (ht : Tb w) (hs : s.size < 4294967281) (h1 : Lib.hasPrefix s.data.toList [60, 33, 45, 45] = true) :
    Calls Tryz.prog 109 #[.string s] w fun e w' => e = .returned (two (angle s.data.toList)) ∧ w = w' := by
  obtain ⟨m, hm⟩ := ht.m
  have hl : (⟨#[60, 33, 45, 45]⟩ : ByteArray).size ≤ s.size := hp_len (q := cO) h1
  have hl' := Lib.hid hl; clear hl
  by_cases h0 : upTo s.data.toList cO cE = 0
  · have HA : Hid (angle s.data.toList = (9, s.size)) := Lib.hid (by unfold angle; rw [show Lib.hasPrefix s.data.toList cO = true from h1, h0]; rfl)
    have H0 : Hid (upTo s.data.toList (⟨#[60, 33, 45, 45]⟩ : ByteArray).data.toList (⟨#[45, 45, 62]⟩ : ByteArray).data.toList = 0) := Lib.hid h0
    clear h0
    go_enter Tryz.func109, Tryz.ntmps109
    go_wp2_with fail
    refine (Tryz.strings_HasPrefix _ _ _).mono ?_
    rintro e w' ⟨rfl, rfl⟩
    go_wp2_with fail
    refine (sizeUpTo_any _ _ _ m _ hl'.out hs (by decide) hm).mono ?_
    rintro e w' ⟨rfl, rfl⟩
    rw [H0.out]
    go_wp2
    go_ret2
    exact ⟨by rw [HA.out]; rfl, rfl⟩
  · have HA : Hid (angle s.data.toList = (9, upTo s.data.toList cO cE)) := Lib.hid (by unfold angle; rw [show Lib.hasPrefix s.data.toList cO = true from h1]; simp [h0])
    have hle : upTo s.data.toList cO cE ≤ s.data.toList.length := upTo_le (hp_len (q := cO) h1)
    have hsl : s.data.toList.length = s.size := rfl
    generalize hn : upTo s.data.toList cO cE = n at HA h0 hle
    have HN : Hid (upTo s.data.toList (⟨#[60, 33, 45, 45]⟩ : ByteArray).data.toList (⟨#[45, 45, 62]⟩ : ByteArray).data.toList = n) := Lib.hid hn
    clear hn
    have h0' : ((n : Int) == 0) = false := by rw [beq_eq_false_iff_ne]; omega
    have h0'' : ¬ (n : Int) = 0 := by omega
    clear hsl
    go_enter Tryz.func109, Tryz.ntmps109
    go_wp2_with fail
    refine (Tryz.strings_HasPrefix _ _ _).mono ?_
    rintro e w' ⟨rfl, rfl⟩
    go_wp2_with fail
    refine (sizeUpTo_any _ _ _ m _ hl'.out hs (by decide) hm).mono ?_
    rintro e w' ⟨rfl, rfl⟩
    rw [HN.out]
    go_wp2
    go_ret2
    exact ⟨by rw [HA.out]; rfl, rfl⟩

theorem angle_nowiki (s : ByteArray) (w : World) (ht : Tb w) (hs : s.size < 4294967281) (h1 : Lib.hasPrefix s.data.toList [60, 33, 45, 45] = false) (h2 : Lib.hasPrefix s.data.toList [60, 110, 111, 119, 105, 107, 105, 62] = true) :
    Calls Tryz.prog 109 #[.string s] w fun e w' => e = .returned (two (angle s.data.toList)) ∧ w = w' := by
  obtain ⟨m, hm⟩ := ht.m
  have hl : (⟨#[60, 110, 111, 119, 105, 107, 105, 62]⟩ : ByteArray).size ≤ s.size := hp_len (q := nO) h2
  have hl' := Lib.hid hl; clear hl
  have HA : Hid (angle s.data.toList = (10, upTo s.data.toList nO nE)) := Lib.hid (by unfold angle; rw [show Lib.hasPrefix s.data.toList cO = false from h1, show Lib.hasPrefix s.data.toList nO = true from h2]; rfl)
  go_enter Tryz.func109, Tryz.ntmps109
  go_wp2_with fail
  refine (Tryz.strings_HasPrefix _ _ _).mono ?_
  rintro e w' ⟨rfl, rfl⟩
  go_wp2_with fail
  refine (Tryz.strings_HasPrefix _ _ _).mono ?_
  rintro e w' ⟨rfl, rfl⟩
  go_wp2_with fail
  refine (sizeUpTo_any _ _ _ m _ hl'.out hs (by decide) hm).mono ?_
  rintro e w' ⟨rfl, rfl⟩
  go_wp2
  go_ret2
  exact ⟨by rw [HA.out]; rfl, rfl⟩

theorem tag_step {l : List UInt8} {n k : Nat} (h1 : Lib.hasPrefix l (tO k) = false) (h2 : Lib.hasPrefix l (tE k) = false) : tagFrom l (n + 1) k = tagFrom l n (k + 1) := by
  rw [tagFrom, h1, h2]; rfl
theorem tag_open {l : List UInt8} {n k : Nat} (h1 : Lib.hasPrefix l (tO k) = true) : tagFrom l (n + 1) k = (11, (tO k).length) := by
  rw [tagFrom, h1]; rfl
theorem tag_close {l : List UInt8} {n k : Nat} (h1 : Lib.hasPrefix l (tO k) = false) (h2 : Lib.hasPrefix l (tE k) = true) : tagFrom l (n + 1) k = (12, (tE k).length) := by
  rw [tagFrom, h1, h2]; rfl

set_option maxHeartbeats 1000000 in
theorem angle_tags (s : ByteArray) (w : World) (ht : Tb w) (h1 : Lib.hasPrefix s.data.toList [60, 33, 45, 45] = false) (h2 : Lib.hasPrefix s.data.toList [60, 110, 111, 119, 105, 107, 105, 62] = false) :
    Calls Tryz.prog 109 #[.string s] w fun e w' => e = .returned (two (angle s.data.toList)) ∧ Below w.heap.size w w' := by
  obtain ⟨t, fr, htg⟩ := ht.tg
  have HA : Hid (angle s.data.toList = tagFrom s.data.toList 3 1) := Lib.hid (by unfold angle; rw [show Lib.hasPrefix s.data.toList cO = false from h1, show Lib.hasPrefix s.data.toList nO = false from h2]; rfl)
  go_enter Tryz.func109, Tryz.ntmps109
  go_wp2_with fail
  refine (Tryz.strings_HasPrefix _ _ _).mono ?_
  rintro e w' ⟨rfl, hw'⟩
  obtain rfl : _ = w' := hw'.symm
  go_wp2_with fail
  refine (Tryz.strings_HasPrefix _ _ _).mono ?_
  rintro e w' ⟨rfl, hw'⟩
  obtain rfl : _ = w' := hw'.symm
  go_wp2_with (refine wpList_load_row rfl 121 _ rfl 0 rfl t tagCells fr _ htg Tryz.underlying121 rfl (by kernel_rfl) ?_)
  clear htg
  have i0 := ix0
  have i1 := ix1
  have i2 := ix2
  go_loopw [21] (fun i wr => ∃ k : Nat, k ≤ 3 ∧ i = .int .i64 k ∧ Hid (Below w.heap.size w wr) ∧ Hid (angle s.data.toList = tagFrom s.data.toList (3 - k) (k + 1))) (fun i _ => 3 - (intOf i).toNat)
  case atStart => exact ⟨0, by omega, rfl, Lib.hid (Below.refl _ _), HA⟩
  case round =>
    obtain ⟨k, hk, rfl, hb, hr⟩ := hrel
    have hcases : k = 0 ∨ k = 1 ∨ k = 2 ∨ k = 3 := by omega
    rcases hcases with rfl | rfl | rfl | rfl
    · have hz := hb.out.size
      cases ha : Lib.hasPrefix s.data.toList [60, 110, 111, 105, 110, 99, 108, 117, 100, 101, 62]
      · cases hc : Lib.hasPrefix s.data.toList [60, 47, 110, 111, 105, 110, 99, 108, 117, 100, 101, 62]
        · have HN : Hid (angle s.data.toList = tagFrom s.data.toList 2 2) := Lib.hid (hr.out.trans (tag_step (k := 1) ha hc))
          go_wp2_with fail
          refine (Tryz.strings_HasPrefix _ _ _).mono ?_
          rintro e w' ⟨rfl, hw'⟩
          obtain rfl : _ = w' := hw'.symm
          go_wp2_with fail
          refine (Tryz.strings_HasPrefix _ _ _).mono ?_
          rintro e w' ⟨rfl, hw'⟩
          obtain rfl : _ = w' := hw'.symm
          go_wp2
          go_roundw
          case rel => exact ⟨1, by omega, by first | rfl | go_num, Lib.hid (hb.out.alloc hz _), HN⟩
          case measure => simp [intOf]
        · have HN : Hid (angle s.data.toList = (12, (tE 1).length)) := Lib.hid (hr.out.trans (tag_close (k := 1) ha hc))
          go_wp2_with fail
          refine (Tryz.strings_HasPrefix _ _ _).mono ?_
          rintro e w' ⟨rfl, hw'⟩
          obtain rfl : _ = w' := hw'.symm
          go_wp2_with fail
          refine (Tryz.strings_HasPrefix _ _ _).mono ?_
          rintro e w' ⟨rfl, hw'⟩
          obtain rfl : _ = w' := hw'.symm
          go_wp2
          go_quiet (fail)
          go_wp2
          go_ret2
          exact ⟨by rw [HN.out]; rfl, below_drewN (hb.out.alloc hz _) _⟩
      · have HN : Hid (angle s.data.toList = (11, (tO 1).length)) := Lib.hid (hr.out.trans (tag_open (k := 1) ha))
        go_wp2_with fail
        refine (Tryz.strings_HasPrefix _ _ _).mono ?_
        rintro e w' ⟨rfl, hw'⟩
        obtain rfl : _ = w' := hw'.symm
        go_wp2
        go_quiet (fail)
        go_wp2
        go_ret2
        exact ⟨by rw [HN.out]; rfl, below_drewN (hb.out.alloc hz _) _⟩
    · have hz := hb.out.size
      cases ha : Lib.hasPrefix s.data.toList [60, 105, 110, 99, 108, 117, 100, 101, 111, 110, 108, 121, 62]
      · cases hc : Lib.hasPrefix s.data.toList [60, 47, 105, 110, 99, 108, 117, 100, 101, 111, 110, 108, 121, 62]
        · have HN : Hid (angle s.data.toList = tagFrom s.data.toList 1 3) := Lib.hid (hr.out.trans (tag_step (k := 2) ha hc))
          go_wp2_with fail
          refine (Tryz.strings_HasPrefix _ _ _).mono ?_
          rintro e w' ⟨rfl, hw'⟩
          obtain rfl : _ = w' := hw'.symm
          go_wp2_with fail
          refine (Tryz.strings_HasPrefix _ _ _).mono ?_
          rintro e w' ⟨rfl, hw'⟩
          obtain rfl : _ = w' := hw'.symm
          go_wp2
          go_roundw
          case rel => exact ⟨2, by omega, by first | rfl | go_num, Lib.hid (hb.out.alloc hz _), HN⟩
          case measure => simp [intOf]
        · have HN : Hid (angle s.data.toList = (12, (tE 2).length)) := Lib.hid (hr.out.trans (tag_close (k := 2) ha hc))
          go_wp2_with fail
          refine (Tryz.strings_HasPrefix _ _ _).mono ?_
          rintro e w' ⟨rfl, hw'⟩
          obtain rfl : _ = w' := hw'.symm
          go_wp2_with fail
          refine (Tryz.strings_HasPrefix _ _ _).mono ?_
          rintro e w' ⟨rfl, hw'⟩
          obtain rfl : _ = w' := hw'.symm
          go_wp2
          go_quiet (fail)
          go_wp2
          go_ret2
          exact ⟨by rw [HN.out]; rfl, below_drewN (hb.out.alloc hz _) _⟩
      · have HN : Hid (angle s.data.toList = (11, (tO 2).length)) := Lib.hid (hr.out.trans (tag_open (k := 2) ha))
        go_wp2_with fail
        refine (Tryz.strings_HasPrefix _ _ _).mono ?_
        rintro e w' ⟨rfl, hw'⟩
        obtain rfl : _ = w' := hw'.symm
        go_wp2
        go_quiet (fail)
        go_wp2
        go_ret2
        exact ⟨by rw [HN.out]; rfl, below_drewN (hb.out.alloc hz _) _⟩
    · have hz := hb.out.size
      cases ha : Lib.hasPrefix s.data.toList [60, 111, 110, 108, 121, 105, 110, 99, 108, 117, 100, 101, 62]
      · cases hc : Lib.hasPrefix s.data.toList [60, 47, 111, 110, 108, 121, 105, 110, 99, 108, 117, 100, 101, 62]
        · have HN : Hid (angle s.data.toList = tagFrom s.data.toList 0 4) := Lib.hid (hr.out.trans (tag_step (k := 3) ha hc))
          go_wp2_with fail
          refine (Tryz.strings_HasPrefix _ _ _).mono ?_
          rintro e w' ⟨rfl, hw'⟩
          obtain rfl : _ = w' := hw'.symm
          go_wp2_with fail
          refine (Tryz.strings_HasPrefix _ _ _).mono ?_
          rintro e w' ⟨rfl, hw'⟩
          obtain rfl : _ = w' := hw'.symm
          go_wp2
          go_roundw
          case rel => exact ⟨3, by omega, by first | rfl | go_num, Lib.hid (hb.out.alloc hz _), HN⟩
          case measure => simp [intOf]
        · have HN : Hid (angle s.data.toList = (12, (tE 3).length)) := Lib.hid (hr.out.trans (tag_close (k := 3) ha hc))
          go_wp2_with fail
          refine (Tryz.strings_HasPrefix _ _ _).mono ?_
          rintro e w' ⟨rfl, hw'⟩
          obtain rfl : _ = w' := hw'.symm
          go_wp2_with fail
          refine (Tryz.strings_HasPrefix _ _ _).mono ?_
          rintro e w' ⟨rfl, hw'⟩
          obtain rfl : _ = w' := hw'.symm
          go_wp2
          go_quiet (fail)
          go_wp2
          go_ret2
          exact ⟨by rw [HN.out]; rfl, below_drewN (hb.out.alloc hz _) _⟩
      · have HN : Hid (angle s.data.toList = (11, (tO 3).length)) := Lib.hid (hr.out.trans (tag_open (k := 3) ha))
        go_wp2_with fail
        refine (Tryz.strings_HasPrefix _ _ _).mono ?_
        rintro e w' ⟨rfl, hw'⟩
        obtain rfl : _ = w' := hw'.symm
        go_wp2
        go_quiet (fail)
        go_wp2
        go_ret2
        exact ⟨by rw [HN.out]; rfl, below_drewN (hb.out.alloc hz _) _⟩
    · go_wp2
      go_ret2
      exact ⟨by rw [hr.out]; rfl, hb.out⟩
end Go.Proofs.YtdojbnngdlmbgaaGreatDoor.Tk
