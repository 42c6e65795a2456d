/-
  The law TitleFormat returns true for every title, in every world that holds the tables.
-/
import Derived.Test.YtjnnbmdacicfcaaDoorTiRefF
namespace Go.Proofs.YtjnnbmdacicfcaaDoor.Ti
open Go.RowKit

section
variable {w W : World} {b : Nat} {sp : Int} {s : ByteArray}
theorem Valid_two (h : Two w b sp s W) (ht : Tb w) (hs : s.size ≤ maxLen) :
    Calls Tryd.prog 15 #[.agg #[.int .i64 sp, .string s]] W fun e w' => e = .returned (.bool (valid sp s.data.toList)) ∧ Two w b sp s w' :=
  (Valid_any sp s W hs (ht.below h.bl)).mono fun _ _ ⟨he, hb⟩ => ⟨he, h.below hb⟩
theorem RefValid_two (h : Two w b sp s W) (hs : s.size ≤ maxLen) :
    Calls Tryd.prog 16 #[.agg #[.int .i64 sp, .string s]] W fun e w' => e = .returned (.bool (valid sp s.data.toList)) ∧ Two w b sp s w' :=
  (RefValid_any sp s W hs).mono fun _ _ ⟨he, hb⟩ => ⟨he, h.below hb⟩
theorem Format_two (h : Two w b sp s W) (ht : Tb w) (hs : s.size ≤ maxLen) :
    Calls Tryd.prog 17 #[.agg #[.int .i64 sp, .string s]] W fun e w' => e = .returned (.string ⟨(format sp s.data.toList).toArray⟩) ∧ Two w b sp s w' :=
  (Format_any sp s W hs (ht.below h.bl)).mono fun _ _ ⟨he, hb⟩ => ⟨he, h.below hb⟩
theorem RefFormat_two (h : Two w b sp s W) (hs : s.size ≤ maxLen) :
    Calls Tryd.prog 18 #[.agg #[.int .i64 sp, .string s]] W fun e w' => e = .returned (.string ⟨(format sp s.data.toList).toArray⟩) ∧ Two w b sp s w' :=
  (RefFormat_any sp s W hs).mono fun _ _ ⟨he, hb⟩ => ⟨he, h.below hb⟩
theorem known_two (h : Two w b sp s W) (ht : Tb w) : Calls Tryd.prog 12 #[] W fun e w' => e = .returned (.bool true) ∧ Two w b sp s w' :=
  (known_any W (ht.below h.bl)).mono fun _ _ ⟨he, hb⟩ => ⟨he, h.below hb⟩
end

set_option maxRecDepth 100000 in
set_option maxHeartbeats 2000000 in
theorem format_any (sp : Int) (s : ByteArray) (w : World) (hs : s.size ≤ maxLen) (ht : Tb w) :
    Calls Tryd.prog 4 #[.agg #[.int .i64 sp, .string s]] w fun e w' => e = .returned (.bool true) ∧ Below w.heap.size w w' := by
  have HS := Lib.hid hs
  unfold maxLen at hs
  have H2 := two_new w sp s 24
  by_cases hbig : 400 < s.size
  · have hd : decide (400 < (s.size : Int)) = true := by simp; omega
    go_enter Tryd.func4, Tryd.ntmps4
    go_wp2_with fail
    refine (known_any _ (ht.below H2.bl)).mono ?_
    rintro e w1 ⟨rfl, hb1⟩
    go_wp2
    go_ret
    exact ⟨rfl, (H2.below hb1).bl⟩
  · have hd : decide (400 < (s.size : Int)) = false := by simp; omega
    go_enter Tryd.func4, Tryd.ntmps4
    go_wp2
    have H3 := H2.drew
    clear H2
    generalize w.alloc (.cells #[.int .i64 sp, .string s] 24) = V at H3 ⊢
    go_region_held3 (fun W => W.cell? ⟨w.heap.size, 0, none⟩ = some (.int .i64 sp) ∧ W.cell? ⟨w.heap.size, 1, none⟩ = some (.string s) ∧ Two w w.heap.size sp s W)
      (first | exact ⟨H3.a0, H3.a1, H3⟩ | (rename_i h8; exact ⟨h8.a0, h8.a1, h8⟩))
      (first
        | (go_at_call 15; refine (Valid_two (w := w) (b := w.heap.size) (sp := sp) (s := s) ?_ ht HS.out).mono ?_; (assumption); rintro e w' ⟨rfl, _⟩)
        | (go_at_call 16; refine (RefValid_two (w := w) (b := w.heap.size) (sp := sp) (s := s) ?_ HS.out).mono ?_; (assumption); rintro e w' ⟨rfl, _⟩)
        | (go_at_call 17; refine (Format_two (w := w) (b := w.heap.size) (sp := sp) (s := s) ?_ ht HS.out).mono ?_; (assumption); rintro e w' ⟨rfl, _⟩)
        | (go_at_call 18; refine (RefFormat_two (w := w) (b := w.heap.size) (sp := sp) (s := s) ?_ HS.out).mono ?_; (assumption); rintro e w' ⟨rfl, _⟩)
        | (go_at_call 12; refine (known_two (w := w) (b := w.heap.size) (sp := sp) (s := s) ?_ ht).mono ?_; (assumption); rintro e w' ⟨rfl, _⟩))
    have h8 : Two w w.heap.size sp s w' := by assumption
    go_wp2
    go_ret
    exact ⟨rfl, h8.bl⟩
end Go.Proofs.YtjnnbmdacicfcaaDoor.Ti
