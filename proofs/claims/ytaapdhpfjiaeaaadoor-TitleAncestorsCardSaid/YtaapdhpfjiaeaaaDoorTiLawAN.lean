/-
  The law TitleAncestors, for every title.
-/
import Derived.Test.YtaapdhpfjiaeaaaDoorTiSameT
import Derived.Test.YtaapdhpfjiaeaaaDoorTiKnown
namespace Go.Proofs.YtaapdhpfjiaeaaaDoor.Ti
open Go.RowKit

theorem anc_long (sp : Int) (s : ByteArray) (w : World) (ht : Tb w) (h : 400 < s.size) :
    Calls Tryd.prog 9 #[.agg #[.int .i64 sp, .string s]] w fun e w' => e = .returned (.bool true) ∧ Below w.heap.size w w' := by
  have h1 : (400 : Int) < (s.size : Int) := by omega
  have hbel : Below w.heap.size w (w.alloc (.cells #[.int .i64 sp, .string s] 24)) := (Below.refl _ w).alloc (Nat.le_refl _) _
  have HB := Lib.hid hbel; clear hbel
  go_enter Tryd.func9, Tryd.ntmps9
  go_wp2_with fail
  refine (known_any _ (ht.below HB.out)).mono ?_
  rintro e w1 ⟨rfl, hb⟩
  go_wp2
  go_ret
  exact ⟨rfl, HB.out.trans (hb.mono HB.out.size)⟩

/-- What the law's round holds on to. -/
structure Hl (w : World) (B g c k : Nat) (sp : Int) (s x : ByteArray) (L : List Ttl) (W : World) : Prop where
  b1 : W.cell? ⟨B, 1, none⟩ = some (.string s)
  e0 : W.cell? ⟨g, k * 2, none⟩ = some (.int .i64 sp)
  e1 : W.cell? ⟨g, k * 2 + 1, none⟩ = some (.string x)
  rd : RdT W (.slice (some ⟨g, 0, none⟩) k c) L
  bl : Below w.heap.size w W
  tb : Tb W
  lB : B < W.heap.size
  lg : g < W.heap.size
section
variable {w W W' : World} {B g c k : Nat} {sp : Int} {s x : ByteArray} {L : List Ttl}
theorem Hl.below (h : Hl w B g c k sp s x L W) (hb : Below W.heap.size W W') : Hl w B g c k sp s x L W' :=
  ⟨(hb.cell (p := ⟨B, 1, none⟩) h.lB).trans h.b1, (hb.cell (p := ⟨g, k * 2, none⟩) h.lg).trans h.e0, (hb.cell (p := ⟨g, k * 2 + 1, none⟩) h.lg).trans h.e1, h.rd.below hb,
   h.bl.trans (hb.mono h.bl.size), h.tb.below hb, Nat.lt_of_lt_of_le h.lB hb.size, Nat.lt_of_lt_of_le h.lg hb.size⟩
theorem Hl.drew (h : Hl w B g c k sp s x L W) : Hl w B g c k sp s x L W.drew := h.below (Below.refl _ _).drew
theorem Valid_hl (h : Hl w B g c k sp s x L W) (hx : x.size ≤ maxLen) (hv : valid sp x.data.toList = true) : Calls Tryd.prog 15 #[.agg #[.int .i64 sp, .string x]] W fun e w' => e = .returned (.bool true) ∧ Hl w B g c k sp s x L w' :=
  (Valid_any sp x W hx h.tb).mono fun _ _ ⟨a, b⟩ => ⟨by rw [a, hv], h.below b⟩
theorem Anc_hl (h : Hl w B g c k sp s x L W) (hx : x.size ≤ 65536) (hv : ancestors sp x.data.toList = L) : Calls Tryd.prog 21 #[.agg #[.int .i64 sp, .string x]] W fun e w' => ∃ v, e = .returned v ∧ RdT w' v L ∧ Hl w B g c k sp s x L w' :=
  (Anc_any sp x W h.tb hx).mono fun _ _ ⟨v, a, b, d⟩ => ⟨v, a, by rw [← hv]; exact b.rd, h.below d⟩
theorem Same_hl {v : Value} (h : Hl w B g c k sp s x L W) (hr : RdT W v L) : Calls Tryd.prog 22 #[v, .slice (some ⟨g, 0, none⟩) k c] W fun e w' => e = .returned (.bool true) ∧ Hl w B g c k sp s x L w' :=
  (SameTitles_any _ _ L L W hr h.rd).mono fun _ _ ⟨a, n, b⟩ => ⟨by rw [a, decide_eq_true rfl], by subst b; exact h.below (below_drewN (Below.refl _ _) n)⟩
end

set_option maxRecDepth 100000 in
set_option maxHeartbeats 4000000 in
theorem anc_short (sp : Int) (s : ByteArray) (w : World) (ht : Tb w) (h : s.size ≤ 400) :
    Calls Tryd.prog 9 #[.agg #[.int .i64 sp, .string s]] w fun e w' => e = .returned (.bool true) ∧ Below w.heap.size w w' := by
  have h1 : ¬ (400 : Int) < (s.size : Int) := by omega
  have hbel : Below w.heap.size w (w.alloc (.cells #[.int .i64 sp, .string s] 24)) := (Below.refl _ w).alloc (Nat.le_refl _) _
  have HB := Lib.hid hbel; clear hbel
  go_enter Tryd.func9, Tryd.ntmps9
  go_wp2_with fail
  refine (Anc_any _ _ _ (ht.below HB.out) (by omega)).mono ?_
  rintro e w1 ⟨v1, rfl, ho1, hb1⟩
  have hs1 := hb1.size
  simp at hs1
  have c0 : w1.cell? ⟨w.heap.size, 0, none⟩ = some (.int .i64 sp) := by rw [hb1.cell (p := ⟨w.heap.size, 0, none⟩) (by simp)]; simp
  have c1 : w1.cell? ⟨w.heap.size, 1, none⟩ = some (.string s) := by rw [hb1.cell (p := ⟨w.heap.size, 1, none⟩) (by simp)]; simp
  have HW : Hid (Below w.heap.size w w1) := Lib.hid (HB.out.trans (hb1.mono HB.out.size))
  have HO := Lib.hid ho1.rd
  clear ho1 hb1 HB
  go_wp2_with fail
  refine (AncR_any _ _ _ (by omega)).mono ?_
  rintro e w2 ⟨v2, rfl, ho2, hb2⟩
  have d1 : w2.cell? ⟨w.heap.size, 1, none⟩ = some (.string s) := (hb2.cell (p := ⟨w.heap.size, 1, none⟩) (by show w.heap.size < _; omega)).trans c1
  have r1 : Hid (RdT w2 v1 (ancestors sp s.data.toList)) := Lib.hid (HO.out.below hb2)
  have r2 := Lib.hid ho2.rd
  have HW2 : Hid (Below w.heap.size w w2) := Lib.hid (HW.out.trans (hb2.mono HW.out.size))
  have hs2 := hb2.size
  clear ho2 hb2 HO HW c0 c1
  go_wp2_with fail
  refine (SameTitles_any _ _ _ _ _ r1.out r2.out).mono ?_
  rintro e w3 ⟨rfl, n3, rfl⟩
  rw [decide_eq_true rfl]
  clear r2
  have D1 := Lib.hid d1; clear d1
  have hT : ∀ i, i < (ancestors sp s.data.toList).length → ∃ x : List UInt8, (ancestors sp s.data.toList)[i]? = some (sp, x) ∧ valid sp x = true ∧ x.length < s.data.toList.length ∧ ancestors sp x = (ancestors sp s.data.toList).take i ∧ x.length ≤ 100 := fun i hi => anc_take hi
  generalize ancestors sp s.data.toList = T at r1 hT
  have HT := Lib.hid hT; clear hT
  obtain ⟨A, c, rfl, l1, m1, q1⟩ := r1.out.ex
  unfold maxLen at m1
  have R1 := r1; clear r1
  have Q1 := Lib.hid q1; clear q1
  have hwB : w.heap.size < w2.heap.size := by omega
  generalize hB : w.heap.size = B at D1 hwB ⊢
  go_wp2
  go_loopw [4] (fun i wr => ∃ k : Nat, i = .int .i64 k ∧ k ≤ T.length ∧ Hid (Below w2.heap.size w2 wr)) (fun i _ => T.length - (intOf i).toNat)
  case atStart => exact ⟨0, rfl, Nat.zero_le _, Lib.hid (below_drewN (Below.refl _ _) n3)⟩
  case round =>
    obtain ⟨k, rfl, hk, hb⟩ := hrel
    by_cases hlt : k < T.length
    · have hki : (k : Int) < (T.length : Int) := by omega
      obtain ⟨g, rfl, hg, q⟩ := Q1.out (by omega)
      obtain ⟨x, hx, hv, hxl, han, hx100⟩ := HT.out k hlt
      obtain ⟨x1, x2⟩ := q k (sp, x) hx
      simp only at x1 x2
      generalize hX : (⟨x.toArray⟩ : ByteArray) = X at x2
      have hXd : X.data.toList = x := by rw [← hX]
      have hXs : X.size = x.length := by rw [← hX]; rfl
      have hXlt : X.size < s.size := by rw [hXs]; exact hxl
      have hX1 : X.size ≤ 100 := by omega
      have HX1 : Hid (X.size ≤ maxLen) := Lib.hid (by unfold maxLen; omega)
      have HV : Hid (valid sp X.data.toList = true) := Lib.hid (by rw [hXd]; exact hv)
      have HA : Hid (ancestors sp X.data.toList = T.take k) := Lib.hid (by rw [hXd]; exact han)
      have hrd : RdT w2 (.slice (some ⟨g, 0, none⟩) k c) (T.take k) := R1.out.front (by omega)
      have H0 : Hl wr B g c k sp s X (T.take k) wr := by
        have hz := hb.out.size
        exact ⟨(hb.out.cell (p := ⟨B, 1, none⟩) hwB).trans D1.out, (hb.out.cell (p := ⟨g, k * 2, none⟩) hg).trans x1, (hb.out.cell (p := ⟨g, k * 2 + 1, none⟩) hg).trans x2, hrd.below hb.out, Below.refl _ _, (ht.below HW2.out).below hb.out, by omega, by omega⟩
      have hcmp : ¬ (s.size : Int) ≤ (X.size : Int) := by omega
      have hcmp' : ¬ s.size ≤ X.size := by omega
      have hkc : k ≤ c := by omega
      have hkc' : (k : Int) ≤ (c : Int) := by omega
      have H3 := H0.drew
      clear H0 q hx hv hxl han hx100 x1 x2 hX hXd hXs hrd
      generalize T.take k = L at H3 HA
      go_wp2
      go_region_held3 (fun W => W.cell? ⟨B, 1, none⟩ = some (.string s) ∧ W.cell? ⟨g, k * 2, none⟩ = some (.int .i64 sp) ∧ W.cell? ⟨g, k * 2 + 1, none⟩ = some (.string X) ∧ Hl wr B g c k sp s X L W)
        (first | exact ⟨H3.b1, H3.e0, H3.e1, H3⟩ | (rename_i h8; exact ⟨h8.b1, h8.e0, h8.e1, h8⟩))
        (first
          | (go_at_call 15; refine (Valid_hl (w := wr) (B := B) (g := g) (c := c) (k := k) (s := s) (L := L) ?_ HX1.out HV.out).mono ?_; (assumption); rintro e w' ⟨rfl, _⟩)
          | (go_at_call 21; refine (Anc_hl (w := wr) (B := B) (g := g) (c := c) (k := k) (s := s) (L := L) ?_ (by omega) HA.out).mono ?_; (assumption); rintro e w' ⟨v9, rfl, hr9, _⟩)
          | (go_at_call 22; refine (Same_hl (w := wr) (B := B) (g := g) (c := c) (k := k) (sp := sp) (s := s) (x := X) (L := L) ?_ ?_).mono ?_; (assumption); (assumption); rintro e w' ⟨rfl, _⟩))
      have h8 : Hl wr B g c k sp s X L w' := by assumption
      go_wp2
      go_roundw
      case rel => exact ⟨k + 1, by go_num, by omega, Lib.hid (hb.out.trans (h8.bl.mono hb.out.size))⟩
      case measure => simp [intOf]; omega
    · have hki : ¬ (k : Int) < (T.length : Int) := by omega
      go_wp2_with fail
      refine (known_any _ ((ht.below HW2.out).below hb.out)).mono ?_
      rintro e w5 ⟨rfl, hb5⟩
      go_wp2
      go_ret
      exact ⟨rfl, HW2.out.trans ((hb.out.mono HW2.out.size).trans (hb5.mono (Nat.le_trans HW2.out.size hb.out.size)))⟩
theorem anc_any (sp : Int) (s : ByteArray) (w : World) (_hs : s.size ≤ maxLen) (ht : Tb w) :
    Calls Tryd.prog 9 #[.agg #[.int .i64 sp, .string s]] w fun e w' => e = .returned (.bool true) ∧ Below w.heap.size w w' := by
  by_cases h : 400 < s.size
  · exact anc_long sp s w ht h
  · exact anc_short sp s w ht (by omega)
end Go.Proofs.YtaapdhpfjiaeaaaDoor.Ti
