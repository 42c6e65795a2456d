/-
  The contract of trcgen's Piece: some text, not too long.
  The contract of trcgen's Piece: some text, not too long.
  The contract of trcgen's Piece: some text, not too long.
  The contracts of trcgen's Line and Text: some text, not too long.
-/
import Derived.Test.YtdojbnngdlmbgaaGreatDoorSeF1
namespace Go.Proofs.YtdojbnngdlmbgaaGreatDoor.Se
open Go.RowKit Go.Shelf
set_option linter.unusedVariables false
set_option linter.unusedSimpArgs false

set_option maxRecDepth 100000 in
set_option maxHeartbeats 4000000 in
theorem Pc_11 {w0 : World} {A : Option Addr} {n c b B : Nat} {D : Int} {W : World} (h : Pc w0 A n c b B D W 11) :
    Calls Tryz.prog 57 #[.pointer (some ⟨b, 0, none⟩), .int .i64 D] W (TxP w0 A n c b (3 * B + 60)) := by
  have IH := Lib.hid h.ih
  have HW := Lib.hid h.hw
  have HN := Lib.hid h.nx
  have HS := Lib.hid h.hs
  have hB := h.B2
  have hB3 := h.B1
  have hD1 := h.D1
  have hD2 := h.D2
  have g1 : decide (D ≤ 0) = false := by rw [decide_eq_false_iff_not]; omega
  unfold TxP at IH HW ⊢
  clear h
  go_enter Tryz.func57, Tryz.ntmps57
  go_wp2_with fail
  (with_reducible refine HN.out.mono ?_)
  rintro e w1 ⟨rfl, ht1, ho1⟩
  have H1 := Lib.hid ht1
  clear ht1 ho1 HN
  have hl1 := H1.out.lt
  have T1 := Lib.hid (H1.out.below (bl_new w1 (.cells #[.string ⟨#[114, 101, 97, 100]⟩, .string ⟨#[101, 100, 105, 116]⟩, .string ⟨#[120]⟩] 9)))
  go_wp2_with fail
  refine (Of_lit 4 [⟨#[114, 101, 97, 100]⟩, ⟨#[101, 100, 105, 116]⟩, ⟨#[120]⟩] w0 A n c b w1.heap.size 3 _ _ HS.out T1.out (by omega) (heap_alloc_new w1 _) rfl rfl (by decide) (by decide) (by decide)).mono ?_
  rintro e w2 ⟨x2, hx2, rfl, ht, ho⟩
  have H2 := Lib.hid ht
  clear ht ho T1 H1 hl1
  have hl2 := H2.out.lt
  have T2 := Lib.hid (H2.out.below (bl_new w2 (.cells #[.string ⟨#[65]⟩, .string ⟨#[66]⟩, .string ⟨#[84, 97, 108, 107, 58, 65]⟩] 9)))
  go_wp2_with fail
  refine (Of_lit 6 [⟨#[65]⟩, ⟨#[66]⟩, ⟨#[84, 97, 108, 107, 58, 65]⟩] w0 A n c b w2.heap.size 3 _ _ HS.out T2.out (by omega) (heap_alloc_new w2 _) rfl rfl (by decide) (by decide) (by decide)).mono ?_
  rintro e w3 ⟨x3, hx3, rfl, ht, ho⟩
  have H3 := Lib.hid ht
  clear ht ho T2 H2 hl2
  go_wp2
  go_ret
  refine ⟨_, ?_, rfl, H3.out⟩
  simp only [ByteArray.size_append, bsz, List.size_toArray, List.length_cons, List.length_nil]; omega
set_option maxRecDepth 100000 in
set_option maxHeartbeats 4000000 in
theorem Pc_12 {w0 : World} {A : Option Addr} {n c b B : Nat} {D : Int} {W : World} (h : Pc w0 A n c b B D W 12) :
    Calls Tryz.prog 57 #[.pointer (some ⟨b, 0, none⟩), .int .i64 D] W (TxP w0 A n c b (3 * B + 60)) := by
  have IH := Lib.hid h.ih
  have HW := Lib.hid h.hw
  have HN := Lib.hid h.nx
  have HS := Lib.hid h.hs
  have hB := h.B2
  have hB3 := h.B1
  have hD1 := h.D1
  have hD2 := h.D2
  have g1 : decide (D ≤ 0) = false := by rw [decide_eq_false_iff_not]; omega
  unfold TxP at IH HW ⊢
  clear h
  go_enter Tryz.func57, Tryz.ntmps57
  go_wp2_with fail
  (with_reducible refine HN.out.mono ?_)
  rintro e w1 ⟨rfl, ht1, ho1⟩
  have H1 := Lib.hid ht1
  clear ht1 ho1 HN
  have hl1 := H1.out.lt
  have T1 := Lib.hid (H1.out.below (bl_new w1 (.cells #[.string ⟨#[65]⟩, .string ⟨#[66]⟩, .string ⟨#[67]⟩] 9)))
  go_wp2_with fail
  refine (Of_lit 1 [⟨#[65]⟩, ⟨#[66]⟩, ⟨#[67]⟩] w0 A n c b w1.heap.size 3 _ _ HS.out T1.out (by omega) (heap_alloc_new w1 _) rfl rfl (by decide) (by decide) (by decide)).mono ?_
  rintro e w2 ⟨x2, hx2, rfl, ht, ho⟩
  have H2 := Lib.hid ht
  clear ht ho T1 H1 hl1
  go_wp2
  go_ret
  refine ⟨_, ?_, rfl, H2.out⟩
  simp only [ByteArray.size_append, bsz, List.size_toArray, List.length_cons, List.length_nil]; omega
set_option maxRecDepth 100000 in
set_option maxHeartbeats 4000000 in
theorem Pc_13 {w0 : World} {A : Option Addr} {n c b B : Nat} {D : Int} {W : World} (h : Pc w0 A n c b B D W 13) :
    Calls Tryz.prog 57 #[.pointer (some ⟨b, 0, none⟩), .int .i64 D] W (TxP w0 A n c b (3 * B + 60)) := by
  have IH := Lib.hid h.ih
  have HW := Lib.hid h.hw
  have HN := Lib.hid h.nx
  have HS := Lib.hid h.hs
  have hB := h.B2
  have hB3 := h.B1
  have hD1 := h.D1
  have hD2 := h.D2
  have g1 : decide (D ≤ 0) = false := by rw [decide_eq_false_iff_not]; omega
  unfold TxP at IH HW ⊢
  clear h
  go_enter Tryz.func57, Tryz.ntmps57
  go_wp2_with fail
  (with_reducible refine HN.out.mono ?_)
  rintro e w1 ⟨rfl, ht1, ho1⟩
  have H1 := Lib.hid ht1
  clear ht1 ho1 HN
  have hl1 := H1.out.lt
  go_wp2_with fail
  (with_reducible refine (HW.out _ H1.out).mono ?_)
  rintro e w2 ⟨x2, hx2, rfl, ht⟩
  have H2 := Lib.hid ht
  clear ht H1 hl1
  have hl2 := H2.out.lt
  have T2 := Lib.hid (H2.out.below (bl_new w2 (.cells #[.string ⟨#[102, 111, 114, 109, 117, 108, 97, 58, 49, 43, 50, 42, 51]⟩, .string ⟨#[102, 111, 114, 109, 117, 108, 97, 58, 49, 47, 48]⟩, .string ⟨#[108, 101, 110, 58, 97, 98, 99]⟩, .string ((⟨#[117, 99, 58]⟩ : ByteArray) ++ x2), .string ⟨#[115, 117, 98, 58, 97, 98, 99, 100, 101, 102, 124, 49, 124, 50]⟩, .string ⟨#[110, 111, 110, 101, 58, 120]⟩, .string ⟨#[112, 97, 103, 101]⟩, .string ⟨#[110, 97, 109, 101]⟩, .string ⟨#[115, 112, 97, 99, 101]⟩, .string ⟨#[105, 102, 102, 111, 114, 109, 117, 108, 97, 58, 49, 62, 50, 124, 97, 124, 98]⟩] 9)))
  go_wp2_with fail
  refine (Of_lit 17 [⟨#[102, 111, 114, 109, 117, 108, 97, 58, 49, 43, 50, 42, 51]⟩, ⟨#[102, 111, 114, 109, 117, 108, 97, 58, 49, 47, 48]⟩, ⟨#[108, 101, 110, 58, 97, 98, 99]⟩, ((⟨#[117, 99, 58]⟩ : ByteArray) ++ x2), ⟨#[115, 117, 98, 58, 97, 98, 99, 100, 101, 102, 124, 49, 124, 50]⟩, ⟨#[110, 111, 110, 101, 58, 120]⟩, ⟨#[112, 97, 103, 101]⟩, ⟨#[110, 97, 109, 101]⟩, ⟨#[115, 112, 97, 99, 101]⟩, ⟨#[105, 102, 102, 111, 114, 109, 117, 108, 97, 58, 49, 62, 50, 124, 97, 124, 98]⟩] w0 A n c b w2.heap.size 10 _ _ HS.out T2.out (by omega) (heap_alloc_new w2 _) rfl rfl (by intro x hx; simp only [List.mem_cons, List.not_mem_nil, or_false] at hx; rcases hx with rfl | rfl | rfl | rfl | rfl | rfl | rfl | rfl | rfl | rfl <;> first | decide | (rw [ByteArray.size_append]; show 3 + _ ≤ _; omega)) (by decide) (by decide)).mono ?_
  rintro e w3 ⟨x3, hx3, rfl, ht, ho⟩
  have H3 := Lib.hid ht
  clear ht ho T2 H2 hl2
  go_wp2
  go_ret
  refine ⟨_, ?_, rfl, H3.out⟩
  simp only [ByteArray.size_append, bsz, List.size_toArray, List.length_cons, List.length_nil]; omega
set_option maxRecDepth 100000 in
set_option maxHeartbeats 4000000 in
theorem Pc_14 {w0 : World} {A : Option Addr} {n c b B : Nat} {D : Int} {W : World} (h : Pc w0 A n c b B D W 14) :
    Calls Tryz.prog 57 #[.pointer (some ⟨b, 0, none⟩), .int .i64 D] W (TxP w0 A n c b (3 * B + 60)) := by
  have IH := Lib.hid h.ih
  have HW := Lib.hid h.hw
  have HN := Lib.hid h.nx
  have HS := Lib.hid h.hs
  have hB := h.B2
  have hB3 := h.B1
  have hD1 := h.D1
  have hD2 := h.D2
  have g1 : decide (D ≤ 0) = false := by rw [decide_eq_false_iff_not]; omega
  unfold TxP at IH HW ⊢
  clear h
  go_enter Tryz.func57, Tryz.ntmps57
  go_wp2_with fail
  (with_reducible refine HN.out.mono ?_)
  rintro e w1 ⟨rfl, ht1, ho1⟩
  have H1 := Lib.hid ht1
  clear ht1 ho1 HN
  have hl1 := H1.out.lt
  have T1 := Lib.hid (H1.out.below (bl_new w1 (.cells #[.string ⟨#[65]⟩, .string ⟨#[66]⟩, .string ⟨#[84, 97, 108, 107, 58, 65]⟩, .string ⟨#[67, 124, 99]⟩, .string ⟨#[67, 97, 116, 101, 103, 111, 114, 121, 58, 88]⟩, .string ⟨#[67, 97, 116, 101, 103, 111, 114, 121, 58, 88, 124, 115]⟩, .string ⟨#[58, 67, 97, 116, 101, 103, 111, 114, 121, 58, 88]⟩, .string ⟨#[65, 35, 115]⟩, .string ⟨#[35, 115]⟩, .string ⟨#[91]⟩, .string ⟨#[67, 97, 116, 101, 103, 111, 114, 121, 58, 65]⟩] 9)))
  go_wp2_with fail
  refine (Of_lit 12 [⟨#[65]⟩, ⟨#[66]⟩, ⟨#[84, 97, 108, 107, 58, 65]⟩, ⟨#[67, 124, 99]⟩, ⟨#[67, 97, 116, 101, 103, 111, 114, 121, 58, 88]⟩, ⟨#[67, 97, 116, 101, 103, 111, 114, 121, 58, 88, 124, 115]⟩, ⟨#[58, 67, 97, 116, 101, 103, 111, 114, 121, 58, 88]⟩, ⟨#[65, 35, 115]⟩, ⟨#[35, 115]⟩, ⟨#[91]⟩, ⟨#[67, 97, 116, 101, 103, 111, 114, 121, 58, 65]⟩] w0 A n c b w1.heap.size 11 _ _ HS.out T1.out (by omega) (heap_alloc_new w1 _) rfl rfl (by decide) (by decide) (by decide)).mono ?_
  rintro e w2 ⟨x2, hx2, rfl, ht, ho⟩
  have H2 := Lib.hid ht
  clear ht ho T1 H1 hl1
  go_wp2
  go_ret
  refine ⟨_, ?_, rfl, H2.out⟩
  simp only [ByteArray.size_append, bsz, List.size_toArray, List.length_cons, List.length_nil]; omega
set_option maxRecDepth 100000 in
set_option maxHeartbeats 4000000 in
theorem Pc_15 {w0 : World} {A : Option Addr} {n c b B : Nat} {D : Int} {W : World} (h : Pc w0 A n c b B D W 15) :
    Calls Tryz.prog 57 #[.pointer (some ⟨b, 0, none⟩), .int .i64 D] W (TxP w0 A n c b (3 * B + 60)) := by
  have IH := Lib.hid h.ih
  have HW := Lib.hid h.hw
  have HN := Lib.hid h.nx
  have HS := Lib.hid h.hs
  have hB := h.B2
  have hB3 := h.B1
  have hD1 := h.D1
  have hD2 := h.D2
  have g1 : decide (D ≤ 0) = false := by rw [decide_eq_false_iff_not]; omega
  unfold TxP at IH HW ⊢
  clear h
  go_enter Tryz.func57, Tryz.ntmps57
  go_wp2_with fail
  (with_reducible refine HN.out.mono ?_)
  rintro e w1 ⟨rfl, ht1, ho1⟩
  have H1 := Lib.hid ht1
  clear ht1 ho1 HN
  have hl1 := H1.out.lt
  go_wp2_with fail
  (with_reducible refine (IH.out _ H1.out).mono ?_)
  rintro e w2 ⟨x2, hx2, rfl, ht⟩
  have H2 := Lib.hid ht
  clear ht H1 hl1
  go_wp2
  go_ret
  refine ⟨_, ?_, rfl, H2.out⟩
  simp only [ByteArray.size_append, bsz, List.size_toArray, List.length_cons, List.length_nil]; omega
set_option maxRecDepth 100000 in
set_option maxHeartbeats 4000000 in
theorem Pc_16 {w0 : World} {A : Option Addr} {n c b B : Nat} {D : Int} {W : World} (h : Pc w0 A n c b B D W 16) :
    Calls Tryz.prog 57 #[.pointer (some ⟨b, 0, none⟩), .int .i64 D] W (TxP w0 A n c b (3 * B + 60)) := by
  have IH := Lib.hid h.ih
  have HW := Lib.hid h.hw
  have HN := Lib.hid h.nx
  have HS := Lib.hid h.hs
  have hB := h.B2
  have hB3 := h.B1
  have hD1 := h.D1
  have hD2 := h.D2
  have g1 : decide (D ≤ 0) = false := by rw [decide_eq_false_iff_not]; omega
  unfold TxP at IH HW ⊢
  clear h
  go_enter Tryz.func57, Tryz.ntmps57
  go_wp2_with fail
  (with_reducible refine HN.out.mono ?_)
  rintro e w1 ⟨rfl, ht1, ho1⟩
  have H1 := Lib.hid ht1
  clear ht1 ho1 HN
  have hl1 := H1.out.lt
  go_wp2_with fail
  (with_reducible refine (IH.out _ H1.out).mono ?_)
  rintro e w2 ⟨x2, hx2, rfl, ht⟩
  have H2 := Lib.hid ht
  clear ht H1 hl1
  go_wp2
  go_ret
  refine ⟨_, ?_, rfl, H2.out⟩
  simp only [ByteArray.size_append, bsz, List.size_toArray, List.length_cons, List.length_nil]; omega
end Go.Proofs.YtdojbnngdlmbgaaGreatDoor.Se

namespace Go.Proofs.YtdojbnngdlmbgaaGreatDoor.Se
open Go.RowKit Go.Shelf
set_option linter.unusedVariables false
set_option linter.unusedSimpArgs false

set_option maxRecDepth 100000 in
set_option maxHeartbeats 4000000 in
theorem Pc_17 {w0 : World} {A : Option Addr} {n c b B : Nat} {D : Int} {W : World} (h : Pc w0 A n c b B D W 17) :
    Calls Tryz.prog 57 #[.pointer (some ⟨b, 0, none⟩), .int .i64 D] W (TxP w0 A n c b (3 * B + 60)) := by
  have IH := Lib.hid h.ih
  have HW := Lib.hid h.hw
  have HN := Lib.hid h.nx
  have HS := Lib.hid h.hs
  have hB := h.B2
  have hB3 := h.B1
  have hD1 := h.D1
  have hD2 := h.D2
  have g1 : decide (D ≤ 0) = false := by rw [decide_eq_false_iff_not]; omega
  unfold TxP at IH HW ⊢
  clear h
  go_enter Tryz.func57, Tryz.ntmps57
  go_wp2_with fail
  (with_reducible refine HN.out.mono ?_)
  rintro e w1 ⟨rfl, ht1, ho1⟩
  have H1 := Lib.hid ht1
  clear ht1 ho1 HN
  have hl1 := H1.out.lt
  have T1 := Lib.hid (H1.out.below (bl_new w1 (.cells #[.string ⟨#[]⟩, .string ⟨#[32, 110, 97, 109, 101, 61, 110]⟩, .string ⟨#[32, 110, 97, 109, 101, 61, 109]⟩] 9)))
  go_wp2_with fail
  refine (Of_lit 7 [⟨#[]⟩, ⟨#[32, 110, 97, 109, 101, 61, 110]⟩, ⟨#[32, 110, 97, 109, 101, 61, 109]⟩] w0 A n c b w1.heap.size 3 _ _ HS.out T1.out (by omega) (heap_alloc_new w1 _) rfl rfl (by decide) (by decide) (by decide)).mono ?_
  rintro e w2 ⟨x2, hx2, rfl, ht, ho⟩
  have H2 := Lib.hid ht
  clear ht ho T1 H1 hl1
  have hl2 := H2.out.lt
  go_wp2_with fail
  (with_reducible refine (IH.out _ H2.out).mono ?_)
  rintro e w3 ⟨x3, hx3, rfl, ht⟩
  have H3 := Lib.hid ht
  clear ht H2 hl2
  go_wp2
  go_ret
  refine ⟨_, ?_, rfl, H3.out⟩
  simp only [ByteArray.size_append, bsz, List.size_toArray, List.length_cons, List.length_nil]; omega
set_option maxRecDepth 100000 in
set_option maxHeartbeats 4000000 in
theorem Pc_18 {w0 : World} {A : Option Addr} {n c b B : Nat} {D : Int} {W : World} (h : Pc w0 A n c b B D W 18) :
    Calls Tryz.prog 57 #[.pointer (some ⟨b, 0, none⟩), .int .i64 D] W (TxP w0 A n c b (3 * B + 60)) := by
  have IH := Lib.hid h.ih
  have HW := Lib.hid h.hw
  have HN := Lib.hid h.nx
  have HS := Lib.hid h.hs
  have hB := h.B2
  have hB3 := h.B1
  have hD1 := h.D1
  have hD2 := h.D2
  have g1 : decide (D ≤ 0) = false := by rw [decide_eq_false_iff_not]; omega
  unfold TxP at IH HW ⊢
  clear h
  go_enter Tryz.func57, Tryz.ntmps57
  go_wp2_with fail
  (with_reducible refine HN.out.mono ?_)
  rintro e w1 ⟨rfl, ht1, ho1⟩
  have H1 := Lib.hid ht1
  clear ht1 ho1 HN
  have hl1 := H1.out.lt
  have T1 := Lib.hid (H1.out.below (bl_new w1 (.cells #[.string ⟨#[123, 123, 84, 125, 125]⟩, .string ⟨#[39, 39]⟩, .string ⟨#[91, 91, 65, 93, 93]⟩, .string ⟨#[97]⟩] 9)))
  go_wp2_with fail
  refine (Of_lit 5 [⟨#[123, 123, 84, 125, 125]⟩, ⟨#[39, 39]⟩, ⟨#[91, 91, 65, 93, 93]⟩, ⟨#[97]⟩] w0 A n c b w1.heap.size 4 _ _ HS.out T1.out (by omega) (heap_alloc_new w1 _) rfl rfl (by decide) (by decide) (by decide)).mono ?_
  rintro e w2 ⟨x2, hx2, rfl, ht, ho⟩
  have H2 := Lib.hid ht
  clear ht ho T1 H1 hl1
  go_wp2
  go_ret
  refine ⟨_, ?_, rfl, H2.out⟩
  simp only [ByteArray.size_append, bsz, List.size_toArray, List.length_cons, List.length_nil]; omega
set_option maxRecDepth 100000 in
set_option maxHeartbeats 4000000 in
theorem Pc_19 {w0 : World} {A : Option Addr} {n c b B : Nat} {D : Int} {W : World} (h : Pc w0 A n c b B D W 19) :
    Calls Tryz.prog 57 #[.pointer (some ⟨b, 0, none⟩), .int .i64 D] W (TxP w0 A n c b (3 * B + 60)) := by
  have IH := Lib.hid h.ih
  have HW := Lib.hid h.hw
  have HN := Lib.hid h.nx
  have HS := Lib.hid h.hs
  have hB := h.B2
  have hB3 := h.B1
  have hD1 := h.D1
  have hD2 := h.D2
  have g1 : decide (D ≤ 0) = false := by rw [decide_eq_false_iff_not]; omega
  unfold TxP at IH HW ⊢
  clear h
  go_enter Tryz.func57, Tryz.ntmps57
  go_wp2_with fail
  (with_reducible refine HN.out.mono ?_)
  rintro e w1 ⟨rfl, ht1, ho1⟩
  have H1 := Lib.hid ht1
  clear ht1 ho1 HN
  have hl1 := H1.out.lt
  have T1 := Lib.hid (H1.out.below (bl_new w1 (.cells #[.string ⟨#[60, 110, 111, 105, 110, 99, 108, 117, 100, 101, 62]⟩, .string ⟨#[60, 105, 110, 99, 108, 117, 100, 101, 111, 110, 108, 121, 62]⟩, .string ⟨#[60, 111, 110, 108, 121, 105, 110, 99, 108, 117, 100, 101, 62]⟩] 9)))
  go_wp2_with fail
  refine (Of_lit 13 [⟨#[60, 110, 111, 105, 110, 99, 108, 117, 100, 101, 62]⟩, ⟨#[60, 105, 110, 99, 108, 117, 100, 101, 111, 110, 108, 121, 62]⟩, ⟨#[60, 111, 110, 108, 121, 105, 110, 99, 108, 117, 100, 101, 62]⟩] w0 A n c b w1.heap.size 3 _ _ HS.out T1.out (by omega) (heap_alloc_new w1 _) rfl rfl (by decide) (by decide) (by decide)).mono ?_
  rintro e w2 ⟨x2, hx2, rfl, ht, ho⟩
  have H2 := Lib.hid ht
  clear ht ho T1 H1 hl1
  have hl2 := H2.out.lt
  go_wp2_with fail
  (with_reducible refine (IH.out _ H2.out).mono ?_)
  rintro e w3 ⟨x3, hx3, rfl, ht⟩
  have H3 := Lib.hid ht
  clear ht H2 hl2
  have hl3 := H3.out.lt
  have T3 := Lib.hid (H3.out.below (bl_new w3 (.cells #[.string ⟨#[60, 47, 110, 111, 105, 110, 99, 108, 117, 100, 101, 62]⟩, .string ⟨#[60, 47, 105, 110, 99, 108, 117, 100, 101, 111, 110, 108, 121, 62]⟩, .string ⟨#[60, 47, 111, 110, 108, 121, 105, 110, 99, 108, 117, 100, 101, 62]⟩] 9)))
  go_wp2_with fail
  refine (Of_lit 14 [⟨#[60, 47, 110, 111, 105, 110, 99, 108, 117, 100, 101, 62]⟩, ⟨#[60, 47, 105, 110, 99, 108, 117, 100, 101, 111, 110, 108, 121, 62]⟩, ⟨#[60, 47, 111, 110, 108, 121, 105, 110, 99, 108, 117, 100, 101, 62]⟩] w0 A n c b w3.heap.size 3 _ _ HS.out T3.out (by omega) (heap_alloc_new w3 _) rfl rfl (by decide) (by decide) (by decide)).mono ?_
  rintro e w4 ⟨x4, hx4, rfl, ht, ho⟩
  have H4 := Lib.hid ht
  clear ht ho T3 H3 hl3
  go_wp2
  go_ret
  refine ⟨_, ?_, rfl, H4.out⟩
  simp only [ByteArray.size_append, bsz, List.size_toArray, List.length_cons, List.length_nil]; omega
set_option maxRecDepth 100000 in
set_option maxHeartbeats 4000000 in
theorem Pc_20 {w0 : World} {A : Option Addr} {n c b B : Nat} {D : Int} {W : World} (h : Pc w0 A n c b B D W 20) :
    Calls Tryz.prog 57 #[.pointer (some ⟨b, 0, none⟩), .int .i64 D] W (TxP w0 A n c b (3 * B + 60)) := by
  have IH := Lib.hid h.ih
  have HW := Lib.hid h.hw
  have HN := Lib.hid h.nx
  have HS := Lib.hid h.hs
  have hB := h.B2
  have hB3 := h.B1
  have hD1 := h.D1
  have hD2 := h.D2
  have g1 : decide (D ≤ 0) = false := by rw [decide_eq_false_iff_not]; omega
  unfold TxP at IH HW ⊢
  clear h
  go_enter Tryz.func57, Tryz.ntmps57
  go_wp2_with fail
  (with_reducible refine HN.out.mono ?_)
  rintro e w1 ⟨rfl, ht1, ho1⟩
  have H1 := Lib.hid ht1
  clear ht1 ho1 HN
  have hl1 := H1.out.lt
  have T1 := Lib.hid (H1.out.below (bl_new w1 (.cells #[.string ⟨#[60, 33, 45, 45, 99, 45, 45, 62]⟩, .string ⟨#[60, 114, 101, 102, 32, 110, 97, 109, 101, 61, 110, 47, 62]⟩, .string ⟨#[60, 98, 114, 62]⟩, .string ⟨#[38, 108, 116, 59]⟩, .string ⟨#[38, 35, 57, 49, 59]⟩, .string ⟨#[123, 123]⟩, .string ⟨#[125, 125]⟩, .string ⟨#[91, 91]⟩, .string ⟨#[93, 93]⟩, .string ⟨#[124]⟩, .string ⟨#[61]⟩] 9)))
  go_wp2_with fail
  refine (Of_lit 13 [⟨#[60, 33, 45, 45, 99, 45, 45, 62]⟩, ⟨#[60, 114, 101, 102, 32, 110, 97, 109, 101, 61, 110, 47, 62]⟩, ⟨#[60, 98, 114, 62]⟩, ⟨#[38, 108, 116, 59]⟩, ⟨#[38, 35, 57, 49, 59]⟩, ⟨#[123, 123]⟩, ⟨#[125, 125]⟩, ⟨#[91, 91]⟩, ⟨#[93, 93]⟩, ⟨#[124]⟩, ⟨#[61]⟩] w0 A n c b w1.heap.size 11 _ _ HS.out T1.out (by omega) (heap_alloc_new w1 _) rfl rfl (by decide) (by decide) (by decide)).mono ?_
  rintro e w2 ⟨x2, hx2, rfl, ht, ho⟩
  have H2 := Lib.hid ht
  clear ht ho T1 H1 hl1
  go_wp2
  go_ret
  exact ⟨_, by omega, rfl, H2.out⟩
set_option maxRecDepth 100000 in
set_option maxHeartbeats 4000000 in
theorem Pc_rest {w0 : World} {A : Option Addr} {n c b B : Nat} {D : Int} {W : World} {q : Nat} (hq : q < 24) (hge : 21 ≤ q) (h : Pc w0 A n c b B D W (q : Int)) :
    Calls Tryz.prog 57 #[.pointer (some ⟨b, 0, none⟩), .int .i64 D] W (TxP w0 A n c b (3 * B + 60)) := by
  have IH := Lib.hid h.ih
  have HW := Lib.hid h.hw
  have HN := Lib.hid h.nx
  have HS := Lib.hid h.hs
  have hB := h.B2
  have hB3 := h.B1
  have hD1 := h.D1
  have hD2 := h.D2
  have g1 : decide (D ≤ 0) = false := by rw [decide_eq_false_iff_not]; omega
  unfold TxP at IH HW ⊢
  clear h
  have g100 : ((q : Int) == 0) = false := by rw [beq_eq_false_iff_ne]; omega
  have g101 : ((q : Int) == 1) = false := by rw [beq_eq_false_iff_ne]; omega
  have g102 : ((q : Int) == 2) = false := by rw [beq_eq_false_iff_ne]; omega
  have g103 : ((q : Int) == 3) = false := by rw [beq_eq_false_iff_ne]; omega
  have g104 : ((q : Int) == 4) = false := by rw [beq_eq_false_iff_ne]; omega
  have g105 : ((q : Int) == 5) = false := by rw [beq_eq_false_iff_ne]; omega
  have g106 : ((q : Int) == 6) = false := by rw [beq_eq_false_iff_ne]; omega
  have g107 : ((q : Int) == 7) = false := by rw [beq_eq_false_iff_ne]; omega
  have g108 : ((q : Int) == 8) = false := by rw [beq_eq_false_iff_ne]; omega
  have g109 : ((q : Int) == 9) = false := by rw [beq_eq_false_iff_ne]; omega
  have g110 : ((q : Int) == 10) = false := by rw [beq_eq_false_iff_ne]; omega
  have g111 : ((q : Int) == 11) = false := by rw [beq_eq_false_iff_ne]; omega
  have g112 : ((q : Int) == 12) = false := by rw [beq_eq_false_iff_ne]; omega
  have g113 : ((q : Int) == 13) = false := by rw [beq_eq_false_iff_ne]; omega
  have g114 : ((q : Int) == 14) = false := by rw [beq_eq_false_iff_ne]; omega
  have g115 : ((q : Int) == 15) = false := by rw [beq_eq_false_iff_ne]; omega
  have g116 : ((q : Int) == 16) = false := by rw [beq_eq_false_iff_ne]; omega
  have g117 : ((q : Int) == 17) = false := by rw [beq_eq_false_iff_ne]; omega
  have g118 : ((q : Int) == 18) = false := by rw [beq_eq_false_iff_ne]; omega
  have g119 : ((q : Int) == 19) = false := by rw [beq_eq_false_iff_ne]; omega
  have g120 : ((q : Int) == 20) = false := by rw [beq_eq_false_iff_ne]; omega
  go_enter Tryz.func57, Tryz.ntmps57
  go_wp2_with fail
  (with_reducible refine HN.out.mono ?_)
  rintro e w1 ⟨rfl, ht1, ho1⟩
  have H1 := Lib.hid ht1
  clear ht1 ho1 HN
  go_wp2_with fail
  (with_reducible refine (HW.out _ H1.out).mono ?_)
  rintro e w2 ⟨x2, hx2, rfl, ht⟩
  have H2 := Lib.hid ht
  clear ht H1
  go_wp2
  go_ret
  exact ⟨_, by omega, rfl, H2.out⟩
end Go.Proofs.YtdojbnngdlmbgaaGreatDoor.Se

namespace Go.Proofs.YtdojbnngdlmbgaaGreatDoor.Se
open Go.RowKit Go.Shelf
set_option linter.unusedVariables false
set_option linter.unusedSimpArgs false

theorem Piece_any (w0 : World) (A : Option Addr) (n c b : Nat) (hs : Sl w0 A n c) : ∀ (d : Nat) (hd : d ≤ 4) (W : World) (h : Tp w0 A n c b W),
    Calls Tryz.prog 57 #[.pointer (some ⟨b, 0, none⟩), .int .i64 (d : Int)] W (TxP w0 A n c b (pB d))
  | 0, _, W, h => Piece_zero w0 A n c b hs W h
  | d + 1, hd, W, h => by
    obtain ⟨q, hq, HN⟩ := Next_ex w0 A n c b 24 W hs h (by decide) (by decide)
    obtain ⟨D, hD⟩ : ∃ D : Int, ((d + 1 : Nat) : Int) = D := ⟨_, rfl⟩
    have eD : (d : Int) = D - 1 := by omega
    have HP : Pc w0 A n c b (pB d) D W (q : Int) := ⟨hs, pB_pos d, pB_le d (by omega), by omega, by omega, fun W' hW' => by rw [← eD]; exact Piece_any w0 A n c b hs d (by omega) W' hW', fun W' hW' => Word_any w0 A n c b hs W' hW', HN⟩
    rw [hD]
    show Calls _ _ _ _ (TxP w0 A n c b (3 * pB d + 60))
    clear HN
    rcases (by omega : q = 0 ∨ q = 1 ∨ q = 2 ∨ q = 3 ∨ q = 4 ∨ q = 5 ∨ q = 6 ∨ q = 7 ∨ q = 8 ∨ q = 9 ∨ q = 10 ∨ q = 11 ∨ q = 12 ∨ q = 13 ∨ q = 14 ∨ q = 15 ∨ q = 16 ∨ q = 17 ∨ q = 18 ∨ q = 19 ∨ q = 20 ∨ 21 ≤ q) with rfl | rfl | rfl | rfl | rfl | rfl | rfl | rfl | rfl | rfl | rfl | rfl | rfl | rfl | rfl | rfl | rfl | rfl | rfl | rfl | rfl | hge
    · exact Pc_0 HP
    · exact Pc_1 HP
    · exact Pc_2 HP
    · exact Pc_3 HP
    · exact Pc_4 HP
    · exact Pc_5 HP
    · exact Pc_6 HP
    · exact Pc_7 HP
    · exact Pc_8 HP
    · exact Pc_9 HP
    · exact Pc_10 HP
    · exact Pc_11 HP
    · exact Pc_12 HP
    · exact Pc_13 HP
    · exact Pc_14 HP
    · exact Pc_15 HP
    · exact Pc_16 HP
    · exact Pc_17 HP
    · exact Pc_18 HP
    · exact Pc_19 HP
    · exact Pc_20 HP
    · exact Pc_rest hq hge HP
end Go.Proofs.YtdojbnngdlmbgaaGreatDoor.Se

namespace Go.Proofs.YtdojbnngdlmbgaaGreatDoor.Se
open Go.RowKit Go.Shelf
set_option linter.unusedVariables false
set_option linter.unusedSimpArgs false

def lB (d : Nat) : Nat := 4 + 3 * pB d
def tB (d : Nat) : Nat := 27 + 5 * (11 + lB d)
theorem pB_le3 : ∀ d, d ≤ 4 → pB d ≤ 2643 := by
  intro d h
  rcases (by omega : d = 0 ∨ d = 1 ∨ d = 2 ∨ d = 3 ∨ d = 4) with rfl | rfl | rfl | rfl | rfl <;> decide
theorem up_mul (k B : Nat) : (k + 1) * B = k * B + B := Nat.succ_mul k B
theorem mul_le {k B m C : Nat} (h1 : k ≤ m) (h2 : B ≤ C) : k * B ≤ m * C := Nat.mul_le_mul h1 h2
set_option maxRecDepth 100000 in
set_option maxHeartbeats 4000000 in
theorem Line_any (w0 : World) (A : Option Addr) (n c b : Nat) (hs : Sl w0 A n c) (d : Nat) (hd : d ≤ 4) (W : World) (h : Tp w0 A n c b W) :
    Calls Tryz.prog 27 #[.pointer (some ⟨b, 0, none⟩), .int .i64 (d : Int)] W (TxP w0 A n c b (lB d)) := by
  have IH := Lib.hid (Piece_any w0 A n c b hs d hd)
  have HS := Lib.hid hs
  have hB := pB_le3 d hd
  unfold TxP lB at *
  obtain ⟨B, hBB⟩ : ∃ B, pB d = B := ⟨_, rfl⟩
  rw [hBB] at IH hB ⊢
  obtain ⟨D, hD⟩ : ∃ D : Int, (d : Int) = D := ⟨_, rfl⟩
  rw [hD] at IH ⊢
  have hlt := h.lt
  have T1 := Lib.hid (h.below (bl_new W (.cells #[.string ⟨#[]⟩, .string ⟨#[]⟩, .string ⟨#[]⟩, .string ⟨#[42, 32]⟩, .string ⟨#[42, 42, 32]⟩, .string ⟨#[35, 32]⟩, .string ⟨#[42, 35, 32]⟩, .string ⟨#[32]⟩, .string ⟨#[123, 124]⟩, .string ⟨#[124]⟩, .string ⟨#[124, 45]⟩, .string ⟨#[33]⟩, .string ⟨#[124, 125]⟩, .string ⟨#[45, 45, 45, 45]⟩] 9)))
  clear hs hD hBB hd
  go_enter Tryz.func27, Tryz.ntmps27
  go_wp2_with fail
  refine (Of_lit 4 [⟨#[]⟩, ⟨#[]⟩, ⟨#[]⟩, ⟨#[42, 32]⟩, ⟨#[42, 42, 32]⟩, ⟨#[35, 32]⟩, ⟨#[42, 35, 32]⟩, ⟨#[32]⟩, ⟨#[123, 124]⟩, ⟨#[124]⟩, ⟨#[124, 45]⟩, ⟨#[33]⟩, ⟨#[124, 125]⟩, ⟨#[45, 45, 45, 45]⟩] w0 A n c b W.heap.size 14 _ _ HS.out T1.out (by omega) (heap_alloc_new W _) rfl rfl (by decide) (by decide) (by decide)).mono ?_
  rintro e w1 ⟨x1, hx1, rfl, ht, ho⟩
  have H1 := Lib.hid ht
  clear ht ho T1 hlt h
  go_wp2_with fail
  go_loopw [5, 6] (fun sv iv wr => ∃ (k : Nat) (x : ByteArray), sv = .string x ∧ iv = .int .i64 (k : Int) ∧ k ≤ 3 ∧ Hid (x.size ≤ 4 + k * B) ∧ Hid (Tp w0 A n c b wr)) (fun _ i _ => 4 - (intOf i).toNat)
  case atStart => exact ⟨0, x1, rfl, by go_num, by omega, Lib.hid (by omega), H1⟩
  case round =>
    obtain ⟨k, x, rfl, rfl, hk, hx, HT⟩ := hrel
    have hxs := hx.out
    have hm := mul_le hk hB
    have hxz : x.size ≤ 10000 := by omega
    clear hm
    go_wp2_with fail
    (with_reducible refine (Next_3 w0 A n c b _ HS.out HT.out).mono ?_)
    rintro e w2 ⟨q, hq, rfl, ht, ho⟩
    have H2 := Lib.hid ht
    clear ht ho hxs HT
    by_cases hle : k ≤ q
    · have hki : (k : Int) ≤ (q : Int) := by omega
      go_wp2_with fail
      (with_reducible refine (IH.out _ H2.out).mono ?_)
      rintro e w3 ⟨y, hy, rfl, ht⟩
      have H3 := Lib.hid ht
      have hk2 : k + 1 ≤ 3 := by omega
      clear ht H2
      go_wp2
      go_roundw
      case rel => exact ⟨k + 1, x ++ y, rfl, by go_num, hk2, Lib.hid (by rw [ByteArray.size_append, up_mul]; have := hx.out; omega), H3⟩
      case measure => simp [intOf]; omega
    · have hki : ¬ (k : Int) ≤ (q : Int) := by omega
      have hz : x.size ≤ 4 + 3 * B := by have := hx.out; have := mul_le hk (Nat.le_refl B); omega
      have HZ := Lib.hid hz
      clear hz
      go_wp2
      go_ret
      exact ⟨x, HZ.out, rfl, H2.out⟩
set_option maxRecDepth 100000 in
set_option maxHeartbeats 4000000 in
theorem Text_any (w0 : World) (A : Option Addr) (n c b : Nat) (hs : Sl w0 A n c) (d : Nat) (hd : d ≤ 4) (W : World) (h : Tp w0 A n c b W) :
    Calls Tryz.prog 10 #[.pointer (some ⟨b, 0, none⟩), .int .i64 (d : Int)] W (TxP w0 A n c b (tB d)) := by
  have HL := Lib.hid (Line_any w0 A n c b hs d hd)
  have HS := Lib.hid hs
  have hB : lB d ≤ 7933 := by have := pB_le3 d hd; unfold lB; omega
  unfold TxP tB at *
  obtain ⟨B, hBB⟩ : ∃ B, lB d = B := ⟨_, rfl⟩
  rw [hBB] at HL hB ⊢
  obtain ⟨D, hD⟩ : ∃ D : Int, (d : Int) = D := ⟨_, rfl⟩
  rw [hD] at HL ⊢
  obtain ⟨C, hC⟩ : ∃ C, 11 + B = C := ⟨_, rfl⟩
  rw [hC]
  have hlt := h.lt
  have T1 := Lib.hid (h.below (bl_new W (.cells #[.string ⟨#[]⟩, .string ⟨#[]⟩, .string ⟨#[]⟩, .string ⟨#[]⟩, .string ⟨#[35, 82, 69, 68, 73, 82, 69, 67, 84, 32, 91, 91, 66, 93, 93, 10]⟩, .string ⟨#[35, 82, 69, 68, 73, 82, 69, 67, 84, 32, 91, 91, 58, 84, 101, 109, 112, 108, 97, 116, 101, 58, 84, 93, 93, 32, 120]⟩] 9)))
  clear hs hD hBB hd
  go_enter Tryz.func10, Tryz.ntmps10
  go_wp2_with fail
  refine (Of_lit 27 [⟨#[]⟩, ⟨#[]⟩, ⟨#[]⟩, ⟨#[]⟩, ⟨#[35, 82, 69, 68, 73, 82, 69, 67, 84, 32, 91, 91, 66, 93, 93, 10]⟩, ⟨#[35, 82, 69, 68, 73, 82, 69, 67, 84, 32, 91, 91, 58, 84, 101, 109, 112, 108, 97, 116, 101, 58, 84, 93, 93, 32, 120]⟩] w0 A n c b W.heap.size 6 _ _ HS.out T1.out (by omega) (heap_alloc_new W _) rfl rfl (by decide) (by decide) (by decide)).mono ?_
  rintro e w1 ⟨x1, hx1, rfl, ht, ho⟩
  have H1 := Lib.hid ht
  clear ht ho T1 hlt h
  go_wp2_with fail
  (with_reducible refine (Next_5 w0 A n c b _ HS.out H1.out).mono ?_)
  rintro e w2 ⟨N, hN, rfl, ht, ho⟩
  have H2 := Lib.hid ht
  clear ht ho H1
  go_wp2_with fail
  go_loopw [5, 7] (fun sv iv wr => ∃ (k : Nat) (x : ByteArray), sv = .string x ∧ iv = .int .i64 (k : Int) ∧ k ≤ N + 1 ∧ Hid (x.size ≤ 27 + k * C) ∧ Hid (Tp w0 A n c b wr)) (fun _ i _ => 6 - (intOf i).toNat)
  case atStart => exact ⟨0, x1, rfl, by go_num, by omega, Lib.hid (by omega), H2⟩
  case round =>
    obtain ⟨k, x, rfl, rfl, hk, hx, HT⟩ := hrel
    have hxz : x.size ≤ 50000 := by
      have h1 := hx.out
      have h2 : k * C ≤ 5 * 7944 := mul_le (by omega) (by omega)
      omega
    by_cases hle : k ≤ N
    · have hki : (k : Int) ≤ (N : Int) := by omega
      have HC : Hid ((k + 1) * C = k * C + C ∧ 11 + B = C) := Lib.hid ⟨up_mul k C, hC⟩
      clear hC
      by_cases hk0 : 0 < k
      · have hki0 : (0 : Int) < (k : Int) := by omega
        go_wp2_with fail
        (with_reducible refine (Next_4 w0 A n c b _ HS.out HT.out).mono ?_)
        rintro e w3 ⟨r, hr, rfl, ht, ho⟩
        have H3 := Lib.hid ht
        have hl3 := ht.lt
        clear ht ho HT
        by_cases hr0 : r = 0
        · subst hr0
          have T := Lib.hid (H3.out.below (bl_new w3 (.cells #[.string ⟨#[61]⟩, .string ⟨#[61, 61]⟩, .string ⟨#[61, 61]⟩, .string ⟨#[61, 61, 61]⟩] 9)))
          go_wp2_with fail
          refine (Of_lit 3 [⟨#[61]⟩, ⟨#[61, 61]⟩, ⟨#[61, 61]⟩, ⟨#[61, 61, 61]⟩] w0 A n c b w3.heap.size 4 _ _ HS.out T.out (by omega) (heap_alloc_new w3 _) rfl rfl (by decide) (by decide) (by decide)).mono ?_
          rintro e w4 ⟨q0, hq0, rfl, ht, ho⟩
          have H4 := Lib.hid ht
          have hl4 := ht.lt
          clear ht ho T H3 hl3
          have T := Lib.hid (H4.out.below (bl_new w4 (.cells #[.string ⟨#[32, 115, 32]⟩, .string ⟨#[32, 116, 32]⟩, .string ⟨#[97, 32, 98]⟩, .string ⟨#[32, 115, 32]⟩] 9)))
          go_wp2_with fail
          refine (Of_lit 3 [⟨#[32, 115, 32]⟩, ⟨#[32, 116, 32]⟩, ⟨#[97, 32, 98]⟩, ⟨#[32, 115, 32]⟩] w0 A n c b w4.heap.size 4 _ _ HS.out T.out (by omega) (heap_alloc_new w4 _) rfl rfl (by decide) (by decide) (by decide)).mono ?_
          rintro e w5 ⟨q1, hq1, rfl, ht, ho⟩
          have H5 := Lib.hid ht
          have hl5 := ht.lt
          clear ht ho T H4 hl4
          go_wp2_with fail
          (with_reducible refine (HL.out _ H5.out).mono ?_)
          rintro e w6 ⟨y, hy, rfl, ht⟩
          have H6 := Lib.hid ht
          have hk2 : k + 1 ≤ N + 1 := by omega
          clear ht H5 hl5
          go_wp2
          go_roundw
          case rel => exact ⟨k + 1, _, rfl, by go_num, hk2, Lib.hid (by have h1 := hx.out; obtain ⟨h2, h3⟩ := HC.out; rw [h2]; simp only [ByteArray.size_append, bsz, List.size_toArray, List.length_cons, List.length_nil]; omega), H6⟩
          case measure => simp [intOf]; omega
        · have hr1 : ((r : Int) == 0) = false := by rw [beq_eq_false_iff_ne]; omega
          go_wp2_with fail
          (with_reducible refine (HL.out _ H3.out).mono ?_)
          rintro e w6 ⟨y, hy, rfl, ht⟩
          have H6 := Lib.hid ht
          have hk2 : k + 1 ≤ N + 1 := by omega
          clear ht H3 hl3
          go_wp2
          go_roundw
          case rel => exact ⟨k + 1, _, rfl, by go_num, hk2, Lib.hid (by have h1 := hx.out; obtain ⟨h2, h3⟩ := HC.out; rw [h2]; simp only [ByteArray.size_append, bsz, List.size_toArray, List.length_cons, List.length_nil]; omega), H6⟩
          case measure => simp [intOf]; omega
      · have hki0 : ¬ (0 : Int) < (k : Int) := by omega
        go_wp2_with fail
        (with_reducible refine (Next_4 w0 A n c b _ HS.out HT.out).mono ?_)
        rintro e w3 ⟨r, hr, rfl, ht, ho⟩
        have H3 := Lib.hid ht
        have hl3 := ht.lt
        clear ht ho HT
        by_cases hr0 : r = 0
        · subst hr0
          have T := Lib.hid (H3.out.below (bl_new w3 (.cells #[.string ⟨#[61]⟩, .string ⟨#[61, 61]⟩, .string ⟨#[61, 61]⟩, .string ⟨#[61, 61, 61]⟩] 9)))
          go_wp2_with fail
          refine (Of_lit 3 [⟨#[61]⟩, ⟨#[61, 61]⟩, ⟨#[61, 61]⟩, ⟨#[61, 61, 61]⟩] w0 A n c b w3.heap.size 4 _ _ HS.out T.out (by omega) (heap_alloc_new w3 _) rfl rfl (by decide) (by decide) (by decide)).mono ?_
          rintro e w4 ⟨q0, hq0, rfl, ht, ho⟩
          have H4 := Lib.hid ht
          have hl4 := ht.lt
          clear ht ho T H3 hl3
          have T := Lib.hid (H4.out.below (bl_new w4 (.cells #[.string ⟨#[32, 115, 32]⟩, .string ⟨#[32, 116, 32]⟩, .string ⟨#[97, 32, 98]⟩, .string ⟨#[32, 115, 32]⟩] 9)))
          go_wp2_with fail
          refine (Of_lit 3 [⟨#[32, 115, 32]⟩, ⟨#[32, 116, 32]⟩, ⟨#[97, 32, 98]⟩, ⟨#[32, 115, 32]⟩] w0 A n c b w4.heap.size 4 _ _ HS.out T.out (by omega) (heap_alloc_new w4 _) rfl rfl (by decide) (by decide) (by decide)).mono ?_
          rintro e w5 ⟨q1, hq1, rfl, ht, ho⟩
          have H5 := Lib.hid ht
          have hl5 := ht.lt
          clear ht ho T H4 hl4
          go_wp2_with fail
          (with_reducible refine (HL.out _ H5.out).mono ?_)
          rintro e w6 ⟨y, hy, rfl, ht⟩
          have H6 := Lib.hid ht
          have hk2 : k + 1 ≤ N + 1 := by omega
          clear ht H5 hl5
          go_wp2
          go_roundw
          case rel => exact ⟨k + 1, _, rfl, by go_num, hk2, Lib.hid (by have h1 := hx.out; obtain ⟨h2, h3⟩ := HC.out; rw [h2]; simp only [ByteArray.size_append, bsz, List.size_toArray, List.length_cons, List.length_nil]; omega), H6⟩
          case measure => simp [intOf]; omega
        · have hr1 : ((r : Int) == 0) = false := by rw [beq_eq_false_iff_ne]; omega
          go_wp2_with fail
          (with_reducible refine (HL.out _ H3.out).mono ?_)
          rintro e w6 ⟨y, hy, rfl, ht⟩
          have H6 := Lib.hid ht
          have hk2 : k + 1 ≤ N + 1 := by omega
          clear ht H3 hl3
          go_wp2
          go_roundw
          case rel => exact ⟨k + 1, _, rfl, by go_num, hk2, Lib.hid (by have h1 := hx.out; obtain ⟨h2, h3⟩ := HC.out; rw [h2]; simp only [ByteArray.size_append, bsz, List.size_toArray, List.length_cons, List.length_nil]; omega), H6⟩
          case measure => simp [intOf]; omega
    · have hki : ¬ (k : Int) ≤ (N : Int) := by omega
      have hz : x.size ≤ 27 + 5 * C := by have := hx.out; have := mul_le (show k ≤ 5 by omega) (Nat.le_refl C); omega
      have HZ := Lib.hid hz
      clear hz hC
      go_wp2
      go_ret
      exact ⟨x, HZ.out, rfl, HT.out⟩
end Go.Proofs.YtdojbnngdlmbgaaGreatDoor.Se
