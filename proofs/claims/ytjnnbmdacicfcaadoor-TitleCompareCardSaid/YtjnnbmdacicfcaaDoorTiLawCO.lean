/-
  The law TitleCompare returns true for every three titles, in every world that holds the tables.
-/
import Derived.Test.YtjnnbmdacicfcaaDoorTiCompare
import Derived.Test.YtjnnbmdacicfcaaDoorTiKnown
import Derived.Test.YtjnnbmdacicfcaaDoorTiTab
namespace Go.Proofs.YtjnnbmdacicfcaaDoor.Ti
open Go.RowKit

/-- The six cells of three titles, and the world before. -/
structure Six (w : World) (sa sb sc : Int) (a b c : ByteArray) (W : World) : Prop where
  a0 : W.cell? ⟨w.heap.size, 0, none⟩ = some (.int .i64 sa)
  a1 : W.cell? ⟨w.heap.size, 1, none⟩ = some (.string a)
  b0 : W.cell? ⟨w.heap.size + 1, 0, none⟩ = some (.int .i64 sb)
  b1 : W.cell? ⟨w.heap.size + 1, 1, none⟩ = some (.string b)
  c0 : W.cell? ⟨w.heap.size + 1 + 1, 0, none⟩ = some (.int .i64 sc)
  c1 : W.cell? ⟨w.heap.size + 1 + 1, 1, none⟩ = some (.string c)
  bl : Below w.heap.size w W
theorem six_new (w : World) (sa sb sc : Int) (a b c : ByteArray) : Six w sa sb sc a b c ((((w.alloc (.cells #[.int .i64 sa, .string a] 24)).alloc (.cells #[.int .i64 sb, .string b] 24)).alloc (.cells #[.int .i64 sc, .string c] 24)).drew) :=
  ⟨Rf.oldCell _ (Rf.oldCell _ (cell_at_size rfl _ _ 0 _ rfl)), Rf.oldCell _ (Rf.oldCell _ (cell_at_size rfl _ _ 1 _ rfl)), Rf.oldCell _ (cell_at_size (by simp) _ _ 0 _ rfl), Rf.oldCell _ (cell_at_size (by simp) _ _ 1 _ rfl),
    cell_at_size (by simp) _ _ 0 _ rfl, cell_at_size (by simp) _ _ 1 _ rfl, ((((Below.refl _ w).alloc (Nat.le_refl _) _).alloc (by simp) _).alloc (by simp; omega) _).drew⟩
theorem Six.below {w W W' : World} {sa sb sc : Int} {a b c : ByteArray} (h : Six w sa sb sc a b c W) (hb : Below W.heap.size W W') : Six w sa sb sc a b c W' := by
  have ha := lt_of_cell h.a0; have hbb := lt_of_cell h.b0; have hc := lt_of_cell h.c0
  exact ⟨(hb.cell (p := ⟨w.heap.size, 0, none⟩) ha).trans h.a0, (hb.cell (p := ⟨w.heap.size, 1, none⟩) ha).trans h.a1,
    (hb.cell (p := ⟨w.heap.size + 1, 0, none⟩) hbb).trans h.b0, (hb.cell (p := ⟨w.heap.size + 1, 1, none⟩) hbb).trans h.b1,
    (hb.cell (p := ⟨w.heap.size + 1 + 1, 0, none⟩) hc).trans h.c0, (hb.cell (p := ⟨w.heap.size + 1 + 1, 1, none⟩) hc).trans h.c1, h.bl.trans (hb.mono h.bl.size)⟩
theorem Compare_six {w W : World} {sa sb sc : Int} {a b c : ByteArray} (sx sy : Int) (x y : ByteArray) (h : Six w sa sb sc a b c W) :
    Calls Tryd.prog 19 #[.agg #[.int .i64 sx, .string x], .agg #[.int .i64 sy, .string y]] W fun e w' => e = .returned (.int .i64 (cmpT sx x.data.toList sy y.data.toList)) ∧ Six w sa sb sc a b c w' :=
  (Compare_any sx sy x y W).mono fun _ _ ⟨he, hb⟩ => ⟨he, h.below hb⟩
theorem RefCompare_six {w W : World} {sa sb sc : Int} {a b c : ByteArray} (sx sy : Int) (x y : ByteArray) (h : Six w sa sb sc a b c W) :
    Calls Tryd.prog 20 #[.agg #[.int .i64 sx, .string x], .agg #[.int .i64 sy, .string y]] W fun e w' => e = .returned (.int .i64 (cmpT sx x.data.toList sy y.data.toList)) ∧ Six w sa sb sc a b c w' :=
  (RefCompare_any sx sy x y W).mono fun _ _ ⟨he, hb⟩ => ⟨he, h.below hb⟩

set_option maxRecDepth 100000 in
set_option maxHeartbeats 2000000 in
theorem compare_ne (sa : Int) (a : ByteArray) (sb : Int) (b : ByteArray) (sc : Int) (c : ByteArray) (w : World) (ht : Tb w) (hne : (sa == sb) = false) (hz : (cmpT sa a.data.toList sb b.data.toList == 0) = false) :
    Calls Tryd.prog 8 #[.agg #[.int .i64 sa, .string a], .agg #[.int .i64 sb, .string b], .agg #[.int .i64 sc, .string c]] w fun e w' => e = .returned (.bool true) ∧ Below w.heap.size w w' := by
  have hr := cmpT_range sb sa b.data.toList a.data.toList
  have hneg := cmpT_neg sa sb a.data.toList b.data.toList
  have hw : IntKind.i64.wrap (- cmpT sb b.data.toList sa a.data.toList) = cmpT sa a.data.toList sb b.data.toList := by rw [IntWalk.i64_in _ (by omega)]; omega
  clear hr hneg
  have htr := cmpT_trans sa sb sc a.data.toList b.data.toList c.data.toList
  have HTR := Lib.hid htr; clear htr
  go_enter Tryd.func8, Tryd.ntmps8
  go_wp2
  have H6 := six_new w sa sb sc a b c
  generalize ((w.alloc (.cells #[.int .i64 sa, .string a] 24)).alloc (.cells #[.int .i64 sb, .string b] 24)).alloc (.cells #[.int .i64 sc, .string c] 24) = V at H6 ⊢
  go_region_held3 (fun W => W.cell? ⟨w.heap.size, 0, none⟩ = some (.int .i64 sa) ∧ W.cell? ⟨w.heap.size, 1, none⟩ = some (.string a) ∧ W.cell? ⟨w.heap.size + 1, 0, none⟩ = some (.int .i64 sb) ∧ W.cell? ⟨w.heap.size + 1, 1, none⟩ = some (.string b) ∧ Six w sa sb sc a b c W)
    (first | exact ⟨H6.a0, H6.a1, H6.b0, H6.b1, H6⟩ | (rename_i h7; exact ⟨h7.a0, h7.a1, h7.b0, h7.b1, h7⟩))
    (first | (go_at_call 19; refine (Compare_six (w := w) (sa := sa) (sb := sb) (sc := sc) (a := a) (b := b) (c := c) _ _ _ _ ?_).mono ?_; (assumption); rintro e w' ⟨rfl, _⟩) | (go_at_call 20; refine (RefCompare_six (w := w) (sa := sa) (sb := sb) (sc := sc) (a := a) (b := b) (c := c) _ _ _ _ ?_).mono ?_; (assumption); rintro e w' ⟨rfl, _⟩))
  have h6 : Six w sa sb sc a b c w' := by assumption
  have x0 := h6.a0; have x1 := h6.a1; have x2 := h6.b0; have x3 := h6.b1; have x4 := h6.c0; have x5 := h6.c1
  by_cases h1 : 0 < cmpT sa a.data.toList sb b.data.toList
  · go_wp2_with fail
    refine (Compare_six (w := w) (sa := sa) (sb := sb) (sc := sc) (a := a) (b := b) (c := c) _ _ _ _ h6).mono ?_
    clear x0 x1 x2 x3 x4 x5 h6
    rintro e W2 ⟨rfl, h6⟩
    have x0 := h6.a0; have x1 := h6.a1; have x2 := h6.b0; have x3 := h6.b1; have x4 := h6.c0; have x5 := h6.c1
    go_wp2_with fail
    refine (known_any _ (ht.below h6.bl)).mono ?_
    rintro e w8 ⟨rfl, hb8⟩
    go_wp2
    go_ret
    exact ⟨rfl, h6.bl.trans (hb8.mono h6.bl.size)⟩
  by_cases h2 : 0 < cmpT sb b.data.toList sc c.data.toList
  · go_wp2_with fail
    refine (Compare_six (w := w) (sa := sa) (sb := sb) (sc := sc) (a := a) (b := b) (c := c) _ _ _ _ h6).mono ?_
    clear x0 x1 x2 x3 x4 x5 h6
    rintro e W2 ⟨rfl, h6⟩
    have x0 := h6.a0; have x1 := h6.a1; have x2 := h6.b0; have x3 := h6.b1; have x4 := h6.c0; have x5 := h6.c1
    go_wp2_with fail
    refine (Compare_six (w := w) (sa := sa) (sb := sb) (sc := sc) (a := a) (b := b) (c := c) _ _ _ _ h6).mono ?_
    clear x0 x1 x2 x3 x4 x5 h6
    rintro e W2 ⟨rfl, h6⟩
    have x0 := h6.a0; have x1 := h6.a1; have x2 := h6.b0; have x3 := h6.b1; have x4 := h6.c0; have x5 := h6.c1
    go_wp2_with fail
    refine (known_any _ (ht.below h6.bl)).mono ?_
    rintro e w8 ⟨rfl, hb8⟩
    go_wp2
    go_ret
    exact ⟨rfl, h6.bl.trans (hb8.mono h6.bl.size)⟩
  · have h3 : cmpT sa a.data.toList sc c.data.toList ≤ 0 := HTR.out (by omega) (by omega)
    go_wp2_with fail
    refine (Compare_six (w := w) (sa := sa) (sb := sb) (sc := sc) (a := a) (b := b) (c := c) _ _ _ _ h6).mono ?_
    clear x0 x1 x2 x3 x4 x5 h6
    rintro e W2 ⟨rfl, h6⟩
    have x0 := h6.a0; have x1 := h6.a1; have x2 := h6.b0; have x3 := h6.b1; have x4 := h6.c0; have x5 := h6.c1
    go_wp2_with fail
    refine (Compare_six (w := w) (sa := sa) (sb := sb) (sc := sc) (a := a) (b := b) (c := c) _ _ _ _ h6).mono ?_
    clear x0 x1 x2 x3 x4 x5 h6
    rintro e W2 ⟨rfl, h6⟩
    have x0 := h6.a0; have x1 := h6.a1; have x2 := h6.b0; have x3 := h6.b1; have x4 := h6.c0; have x5 := h6.c1
    go_wp2_with fail
    refine (Compare_six (w := w) (sa := sa) (sb := sb) (sc := sc) (a := a) (b := b) (c := c) _ _ _ _ h6).mono ?_
    clear x0 x1 x2 x3 x4 x5 h6
    rintro e W2 ⟨rfl, h6⟩
    have x0 := h6.a0; have x1 := h6.a1; have x2 := h6.b0; have x3 := h6.b1; have x4 := h6.c0; have x5 := h6.c1
    go_wp2_with fail
    refine (known_any _ (ht.below h6.bl)).mono ?_
    rintro e w8 ⟨rfl, hb8⟩
    go_wp2
    go_ret
    exact ⟨rfl, h6.bl.trans (hb8.mono h6.bl.size)⟩
set_option maxRecDepth 100000 in
set_option maxHeartbeats 2000000 in
theorem compare_na (sa : Int) (a : ByteArray) (b : ByteArray) (sc : Int) (c : ByteArray) (w : World) (ht : Tb w) (hne : (a.toList == b.toList) = false) (hz : (cmpT sa a.data.toList sa b.data.toList == 0) = false) :
    Calls Tryd.prog 8 #[.agg #[.int .i64 sa, .string a], .agg #[.int .i64 sa, .string b], .agg #[.int .i64 sc, .string c]] w fun e w' => e = .returned (.bool true) ∧ Below w.heap.size w w' := by
  have hr := cmpT_range sa sa b.data.toList a.data.toList
  have hneg := cmpT_neg sa sa a.data.toList b.data.toList
  have hw : IntKind.i64.wrap (- cmpT sa b.data.toList sa a.data.toList) = cmpT sa a.data.toList sa b.data.toList := by rw [IntWalk.i64_in _ (by omega)]; omega
  clear hr hneg
  have htr := cmpT_trans sa sa sc a.data.toList b.data.toList c.data.toList
  have HTR := Lib.hid htr; clear htr
  go_enter Tryd.func8, Tryd.ntmps8
  go_wp2
  have H6 := six_new w sa sa sc a b c
  generalize ((w.alloc (.cells #[.int .i64 sa, .string a] 24)).alloc (.cells #[.int .i64 sa, .string b] 24)).alloc (.cells #[.int .i64 sc, .string c] 24) = V at H6 ⊢
  go_region_held3 (fun W => W.cell? ⟨w.heap.size, 0, none⟩ = some (.int .i64 sa) ∧ W.cell? ⟨w.heap.size, 1, none⟩ = some (.string a) ∧ W.cell? ⟨w.heap.size + 1, 0, none⟩ = some (.int .i64 sa) ∧ W.cell? ⟨w.heap.size + 1, 1, none⟩ = some (.string b) ∧ Six w sa sa sc a b c W)
    (first | exact ⟨H6.a0, H6.a1, H6.b0, H6.b1, H6⟩ | (rename_i h7; exact ⟨h7.a0, h7.a1, h7.b0, h7.b1, h7⟩))
    (first | (go_at_call 19; refine (Compare_six (w := w) (sa := sa) (sb := sa) (sc := sc) (a := a) (b := b) (c := c) _ _ _ _ ?_).mono ?_; (assumption); rintro e w' ⟨rfl, _⟩) | (go_at_call 20; refine (RefCompare_six (w := w) (sa := sa) (sb := sa) (sc := sc) (a := a) (b := b) (c := c) _ _ _ _ ?_).mono ?_; (assumption); rintro e w' ⟨rfl, _⟩))
  have h6 : Six w sa sa sc a b c w' := by assumption
  have x0 := h6.a0; have x1 := h6.a1; have x2 := h6.b0; have x3 := h6.b1; have x4 := h6.c0; have x5 := h6.c1
  by_cases h1 : 0 < cmpT sa a.data.toList sa b.data.toList
  · go_wp2_with fail
    refine (Compare_six (w := w) (sa := sa) (sb := sa) (sc := sc) (a := a) (b := b) (c := c) _ _ _ _ h6).mono ?_
    clear x0 x1 x2 x3 x4 x5 h6
    rintro e W2 ⟨rfl, h6⟩
    have x0 := h6.a0; have x1 := h6.a1; have x2 := h6.b0; have x3 := h6.b1; have x4 := h6.c0; have x5 := h6.c1
    go_wp2_with fail
    refine (known_any _ (ht.below h6.bl)).mono ?_
    rintro e w8 ⟨rfl, hb8⟩
    go_wp2
    go_ret
    exact ⟨rfl, h6.bl.trans (hb8.mono h6.bl.size)⟩
  by_cases h2 : 0 < cmpT sa b.data.toList sc c.data.toList
  · go_wp2_with fail
    refine (Compare_six (w := w) (sa := sa) (sb := sa) (sc := sc) (a := a) (b := b) (c := c) _ _ _ _ h6).mono ?_
    clear x0 x1 x2 x3 x4 x5 h6
    rintro e W2 ⟨rfl, h6⟩
    have x0 := h6.a0; have x1 := h6.a1; have x2 := h6.b0; have x3 := h6.b1; have x4 := h6.c0; have x5 := h6.c1
    go_wp2_with fail
    refine (Compare_six (w := w) (sa := sa) (sb := sa) (sc := sc) (a := a) (b := b) (c := c) _ _ _ _ h6).mono ?_
    clear x0 x1 x2 x3 x4 x5 h6
    rintro e W2 ⟨rfl, h6⟩
    have x0 := h6.a0; have x1 := h6.a1; have x2 := h6.b0; have x3 := h6.b1; have x4 := h6.c0; have x5 := h6.c1
    go_wp2_with fail
    refine (known_any _ (ht.below h6.bl)).mono ?_
    rintro e w8 ⟨rfl, hb8⟩
    go_wp2
    go_ret
    exact ⟨rfl, h6.bl.trans (hb8.mono h6.bl.size)⟩
  · have h3 : cmpT sa a.data.toList sc c.data.toList ≤ 0 := HTR.out (by omega) (by omega)
    go_wp2_with fail
    refine (Compare_six (w := w) (sa := sa) (sb := sa) (sc := sc) (a := a) (b := b) (c := c) _ _ _ _ h6).mono ?_
    clear x0 x1 x2 x3 x4 x5 h6
    rintro e W2 ⟨rfl, h6⟩
    have x0 := h6.a0; have x1 := h6.a1; have x2 := h6.b0; have x3 := h6.b1; have x4 := h6.c0; have x5 := h6.c1
    go_wp2_with fail
    refine (Compare_six (w := w) (sa := sa) (sb := sa) (sc := sc) (a := a) (b := b) (c := c) _ _ _ _ h6).mono ?_
    clear x0 x1 x2 x3 x4 x5 h6
    rintro e W2 ⟨rfl, h6⟩
    have x0 := h6.a0; have x1 := h6.a1; have x2 := h6.b0; have x3 := h6.b1; have x4 := h6.c0; have x5 := h6.c1
    go_wp2_with fail
    refine (Compare_six (w := w) (sa := sa) (sb := sa) (sc := sc) (a := a) (b := b) (c := c) _ _ _ _ h6).mono ?_
    clear x0 x1 x2 x3 x4 x5 h6
    rintro e W2 ⟨rfl, h6⟩
    have x0 := h6.a0; have x1 := h6.a1; have x2 := h6.b0; have x3 := h6.b1; have x4 := h6.c0; have x5 := h6.c1
    go_wp2_with fail
    refine (known_any _ (ht.below h6.bl)).mono ?_
    rintro e w8 ⟨rfl, hb8⟩
    go_wp2
    go_ret
    exact ⟨rfl, h6.bl.trans (hb8.mono h6.bl.size)⟩
set_option maxRecDepth 100000 in
set_option maxHeartbeats 2000000 in
theorem compare_eq (sa : Int) (a : ByteArray) (sc : Int) (c : ByteArray) (w : World) (ht : Tb w) (hz : (cmpT sa a.data.toList sa a.data.toList == 0) = true) :
    Calls Tryd.prog 8 #[.agg #[.int .i64 sa, .string a], .agg #[.int .i64 sa, .string a], .agg #[.int .i64 sc, .string c]] w fun e w' => e = .returned (.bool true) ∧ Below w.heap.size w w' := by
  have hr := cmpT_range sa sa a.data.toList a.data.toList
  have hneg := cmpT_neg sa sa a.data.toList a.data.toList
  have hw : IntKind.i64.wrap (- cmpT sa a.data.toList sa a.data.toList) = cmpT sa a.data.toList sa a.data.toList := by rw [IntWalk.i64_in _ (by omega)]; omega
  clear hr hneg
  have htr := cmpT_trans sa sa sc a.data.toList a.data.toList c.data.toList
  have HTR := Lib.hid htr; clear htr
  go_enter Tryd.func8, Tryd.ntmps8
  go_wp2
  have H6 := six_new w sa sa sc a a c
  generalize ((w.alloc (.cells #[.int .i64 sa, .string a] 24)).alloc (.cells #[.int .i64 sa, .string a] 24)).alloc (.cells #[.int .i64 sc, .string c] 24) = V at H6 ⊢
  go_region_held3 (fun W => W.cell? ⟨w.heap.size, 0, none⟩ = some (.int .i64 sa) ∧ W.cell? ⟨w.heap.size, 1, none⟩ = some (.string a) ∧ W.cell? ⟨w.heap.size + 1, 0, none⟩ = some (.int .i64 sa) ∧ W.cell? ⟨w.heap.size + 1, 1, none⟩ = some (.string a) ∧ Six w sa sa sc a a c W)
    (first | exact ⟨H6.a0, H6.a1, H6.b0, H6.b1, H6⟩ | (rename_i h7; exact ⟨h7.a0, h7.a1, h7.b0, h7.b1, h7⟩))
    (first | (go_at_call 19; refine (Compare_six (w := w) (sa := sa) (sb := sa) (sc := sc) (a := a) (b := a) (c := c) _ _ _ _ ?_).mono ?_; (assumption); rintro e w' ⟨rfl, _⟩) | (go_at_call 20; refine (RefCompare_six (w := w) (sa := sa) (sb := sa) (sc := sc) (a := a) (b := a) (c := c) _ _ _ _ ?_).mono ?_; (assumption); rintro e w' ⟨rfl, _⟩))
  have h6 : Six w sa sa sc a a c w' := by assumption
  have x0 := h6.a0; have x1 := h6.a1; have x2 := h6.b0; have x3 := h6.b1; have x4 := h6.c0; have x5 := h6.c1
  by_cases h1 : 0 < cmpT sa a.data.toList sa a.data.toList
  · go_wp2_with fail
    refine (Compare_six (w := w) (sa := sa) (sb := sa) (sc := sc) (a := a) (b := a) (c := c) _ _ _ _ h6).mono ?_
    clear x0 x1 x2 x3 x4 x5 h6
    rintro e W2 ⟨rfl, h6⟩
    have x0 := h6.a0; have x1 := h6.a1; have x2 := h6.b0; have x3 := h6.b1; have x4 := h6.c0; have x5 := h6.c1
    go_wp2_with fail
    refine (known_any _ (ht.below h6.bl)).mono ?_
    rintro e w8 ⟨rfl, hb8⟩
    go_wp2
    go_ret
    exact ⟨rfl, h6.bl.trans (hb8.mono h6.bl.size)⟩
  by_cases h2 : 0 < cmpT sa a.data.toList sc c.data.toList
  · go_wp2_with fail
    refine (Compare_six (w := w) (sa := sa) (sb := sa) (sc := sc) (a := a) (b := a) (c := c) _ _ _ _ h6).mono ?_
    clear x0 x1 x2 x3 x4 x5 h6
    rintro e W2 ⟨rfl, h6⟩
    have x0 := h6.a0; have x1 := h6.a1; have x2 := h6.b0; have x3 := h6.b1; have x4 := h6.c0; have x5 := h6.c1
    go_wp2_with fail
    refine (Compare_six (w := w) (sa := sa) (sb := sa) (sc := sc) (a := a) (b := a) (c := c) _ _ _ _ h6).mono ?_
    clear x0 x1 x2 x3 x4 x5 h6
    rintro e W2 ⟨rfl, h6⟩
    have x0 := h6.a0; have x1 := h6.a1; have x2 := h6.b0; have x3 := h6.b1; have x4 := h6.c0; have x5 := h6.c1
    go_wp2_with fail
    refine (known_any _ (ht.below h6.bl)).mono ?_
    rintro e w8 ⟨rfl, hb8⟩
    go_wp2
    go_ret
    exact ⟨rfl, h6.bl.trans (hb8.mono h6.bl.size)⟩
  · have h3 : cmpT sa a.data.toList sc c.data.toList ≤ 0 := HTR.out (by omega) (by omega)
    go_wp2_with fail
    refine (Compare_six (w := w) (sa := sa) (sb := sa) (sc := sc) (a := a) (b := a) (c := c) _ _ _ _ h6).mono ?_
    clear x0 x1 x2 x3 x4 x5 h6
    rintro e W2 ⟨rfl, h6⟩
    have x0 := h6.a0; have x1 := h6.a1; have x2 := h6.b0; have x3 := h6.b1; have x4 := h6.c0; have x5 := h6.c1
    go_wp2_with fail
    refine (Compare_six (w := w) (sa := sa) (sb := sa) (sc := sc) (a := a) (b := a) (c := c) _ _ _ _ h6).mono ?_
    clear x0 x1 x2 x3 x4 x5 h6
    rintro e W2 ⟨rfl, h6⟩
    have x0 := h6.a0; have x1 := h6.a1; have x2 := h6.b0; have x3 := h6.b1; have x4 := h6.c0; have x5 := h6.c1
    go_wp2_with fail
    refine (Compare_six (w := w) (sa := sa) (sb := sa) (sc := sc) (a := a) (b := a) (c := c) _ _ _ _ h6).mono ?_
    clear x0 x1 x2 x3 x4 x5 h6
    rintro e W2 ⟨rfl, h6⟩
    have x0 := h6.a0; have x1 := h6.a1; have x2 := h6.b0; have x3 := h6.b1; have x4 := h6.c0; have x5 := h6.c1
    go_wp2_with fail
    refine (known_any _ (ht.below h6.bl)).mono ?_
    rintro e w8 ⟨rfl, hb8⟩
    go_wp2
    go_ret
    exact ⟨rfl, h6.bl.trans (hb8.mono h6.bl.size)⟩
theorem compare_any (sa : Int) (a : ByteArray) (sb : Int) (b : ByteArray) (sc : Int) (c : ByteArray) (w : World) (_ : a.size ≤ maxLen) (_ : b.size ≤ maxLen) (_ : c.size ≤ maxLen) (ht : Tb w) :
    Calls Tryd.prog 8 #[.agg #[.int .i64 sa, .string a], .agg #[.int .i64 sb, .string b], .agg #[.int .i64 sc, .string c]] w fun e w' => e = .returned (.bool true) ∧ Below w.heap.size w w' := by
  by_cases h1 : sa = sb
  · subst h1
    by_cases h2 : a = b
    · subst h2
      exact compare_eq sa a sc c w ht (beq_iff_eq.2 ((cmpT_zero _ _ _ _).2 ⟨rfl, rfl⟩))
    · have h3 : a.data.toList ≠ b.data.toList := fun e => h2 (by apply ByteArray.ext; apply Array.ext'; exact e)
      exact compare_na sa a b sc c w ht (by rw [Lib.toList_data, Lib.toList_data]; exact beq_eq_false_iff_ne.2 h3) (beq_eq_false_iff_ne.2 fun e => h3 ((cmpT_zero _ _ _ _).1 e).2)
  · exact compare_ne sa a sb b sc c w ht (beq_eq_false_iff_ne.2 h1) (beq_eq_false_iff_ne.2 fun e => h1 ((cmpT_zero _ _ _ _).1 e).1)
end Go.Proofs.YtjnnbmdacicfcaaDoor.Ti
