/-
  The contract of the reference's Format, for every namespace and every name.
-/
import Derived.Test.YtaapdhpfjiaeaaaDoorTiRefV2
import Derived.Deep.RegionHeld3
namespace Go.Proofs.YtaapdhpfjiaeaaaDoor.Ti
open Go.RowKit

/-- The two cells of a title in a block, and the world before. -/
structure Two (w : World) (b : Nat) (sp : Int) (s : ByteArray) (W : World) : Prop where
  a0 : W.cell? ⟨b, 0, none⟩ = some (.int .i64 sp)
  a1 : W.cell? ⟨b, 1, none⟩ = some (.string s)
  bl : Below w.heap.size w W
theorem Two.below {w W W' : World} {b : Nat} {sp : Int} {s : ByteArray} (h : Two w b sp s W) (hb : Below W.heap.size W W') : Two w b sp s W' :=
  ⟨(hb.cell (p := ⟨b, 0, none⟩) (lt_of_cell' h.a0)).trans h.a0, (hb.cell (p := ⟨b, 1, none⟩) (lt_of_cell' h.a1)).trans h.a1, h.bl.trans (hb.mono h.bl.size)⟩
theorem Two.drew {w W : World} {b : Nat} {sp : Int} {s : ByteArray} (h : Two w b sp s W) : Two w b sp s W.drew := ⟨h.a0, h.a1, h.bl.drew⟩
theorem two_new (w : World) (sp : Int) (s : ByteArray) (t : TypeId) : Two w w.heap.size sp s (w.alloc (.cells #[.int .i64 sp, .string s] t)) :=
  ⟨by simp, by simp, (Below.refl _ w).alloc (Nat.le_refl _) _⟩
theorem SpaceName_two {w W : World} {b : Nat} {sp : Int} {s : ByteArray} (k : Nat) (hk : k ≤ 5) (h : Two w b sp s W) {nm : ByteArray} (hnm : nm = ⟨(name k).toArray⟩) :
    Calls Tryd.prog 43 #[.int .i64 (k : Int)] W fun e w' => e = .returned (.string nm) ∧ Two w b sp s w' := by
  subst hnm
  exact (SpaceName_any k hk W).mono fun _ _ ⟨he, hb⟩ => ⟨he, h.below hb⟩

set_option maxRecDepth 100000 in
set_option maxHeartbeats 1000000 in
theorem RefFormat_any (sp : Int) (s : ByteArray) (w : World) (hs : s.size ≤ maxLen) :
    Calls Tryd.prog 18 #[.agg #[.int .i64 sp, .string s]] w fun e w' => e = .returned (.string ⟨(format sp s.data.toList).toArray⟩) ∧ Below w.heap.size w w' := by
  have H2 := two_new w sp s 24
  have HS := Lib.hid hs; clear hs
  cases hv : valid sp s.data.toList
  · have hfin : format sp s.data.toList = [] := by rw [format, hv]; rfl
    have HF := Lib.hid hfin; clear hfin
    go_enter Tryd.func18, Tryd.ntmps18
    go_wp2_with fail
    refine (RefValid_any _ _ _ HS.out).mono ?_
    rintro e w2 ⟨rfl, hb2⟩
    go_wp2
    go_ret
    exact ⟨ret_str (by rw [HF.out]), (H2.below hb2).bl⟩
  obtain ⟨h1, h2⟩ := valid_space hv
  obtain ⟨h3, h4⟩ := valid_len hv
  have hsl : s.data.toList.length = s.size := rfl
  have h5 : s.size ≤ 100 := by omega
  clear h3 h4 hsl
  obtain ⟨k, rfl⟩ : ∃ k : Nat, sp = (k : Int) := ⟨sp.toNat, by omega⟩
  by_cases h0 : k = 0
  · have hfin : format (k : Int) s.data.toList = s.data.toList := by rw [format, hv, h0]; rfl
    have HF := Lib.hid hfin; clear hfin
    have hd : ((k : Int) == 0) = true := by rw [h0]; rfl
    clear h0
    go_enter Tryd.func18, Tryd.ntmps18
    go_wp2_with fail
    refine (RefValid_any _ _ _ HS.out).mono ?_
    rintro e w2 ⟨rfl, hb2⟩
    have h2' := H2.below hb2
    have d0 := h2'.a0
    have d1 := h2'.a1
    go_wp2
    go_ret
    exact ⟨ret_str (by rw [HF.out]), h2'.bl⟩
  · have hfin : format (k : Int) s.data.toList = name k ++ [58] ++ s.data.toList := by
      rw [format, hv, if_pos rfl, if_neg (by omega), Int.toNat_natCast]
    have hd : ((k : Int) == 0) = false := by rw [beq_eq_false_iff_ne]; omega
    have hln := name_len k
    obtain ⟨nm, hnm⟩ : ∃ nm : ByteArray, nm = ⟨(name k).toArray⟩ := ⟨_, rfl⟩
    have hnl : nm.size ≤ 8 := by rw [hnm]; exact hln
    have hfin2 : nm ++ ⟨#[58]⟩ ++ s = ⟨(format (k : Int) s.data.toList).toArray⟩ := by rw [cat3, hfin, hnm]
    have HF := Lib.hid hfin2
    have s1 : nm.size + 1 ≤ 9223372036854775807 := by omega
    have s2 : nm.size + 1 + s.size ≤ 9223372036854775807 := by omega
    have s3 : ¬ 9223372036854775807 < nm.size + 1 := by omega
    have s4 : ¬ 9223372036854775807 < nm.size + 1 + s.size := by omega
    have HN := Lib.hid hnm; clear hfin hfin2 hnm hln h0
    have h7 : k ≤ 5 := by omega
    go_enter Tryd.func18, Tryd.ntmps18
    go_wp2_with fail
    refine (RefValid_any _ _ _ HS.out).mono ?_
    rintro e w2 ⟨rfl, hb2⟩
    have H3 := (H2.below hb2).drew
    have d0 := (H2.below hb2).a0
    have d1 := (H2.below hb2).a1
    go_wp2
    go_region_held3 (fun W => W.cell? ⟨w.heap.size, 0, none⟩ = some (.int .i64 (k : Int)) ∧ W.cell? ⟨w.heap.size, 1, none⟩ = some (.string s) ∧ Two w w.heap.size (k : Int) s W)
      (first | exact ⟨H3.a0, H3.a1, H3⟩ | (rename_i h8; exact ⟨h8.a0, h8.a1, h8⟩))
      (first | (go_at_call 43; refine (SpaceName_two (w := w) (b := w.heap.size) (sp := (k : Int)) (s := s) k h7 ?_ HN.out).mono ?_; (assumption); rintro e w' ⟨rfl, _⟩))
    have h8 : Two w w.heap.size (k : Int) s w' := by assumption
    go_wp2
    go_ret
    exact ⟨ret_str HF.out, h8.bl⟩
end Go.Proofs.YtaapdhpfjiaeaaaDoor.Ti
