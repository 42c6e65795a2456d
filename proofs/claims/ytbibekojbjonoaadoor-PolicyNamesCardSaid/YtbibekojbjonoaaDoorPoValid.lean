/-
  The contract of Validate of package policy.
-/
import Derived.Test.YtbibekojbjonoaaDoorPoVal
namespace Go.Proofs.YtbibekojbjonoaaDoor.Po
open Go.RowKit Go.Shelf
set_option linter.unusedVariables false
set_option linter.unusedSimpArgs false

/-- The box of a policy in block b, and what its slices read as. -/
structure Bx (w0 : World) (b : Nat) (gv rv dv : Value) (P : Pol) (w : World) : Prop where
  bl : Below b w0 w
  bx : w.heap[b]? = some (.cells #[gv, rv, dv] 29)
  rd : RdP w b gv rv dv P
  tb : Tb w
theorem Bx.step {w0 : World} {b : Nat} {gv rv dv : Value} {P : Pol} {w w' : World} (h : Bx w0 b gv rv dv P w) (hb : Below w.heap.size w w') : Bx w0 b gv rv dv P w' := by
  have hlt := (Array.getElem?_eq_some_iff.1 h.bx).1
  exact ⟨h.bl.trans (hb.mono (by omega)), (hb.block _ hlt).trans h.bx, h.rd.below hb (by omega), h.tb.below hb⟩
theorem Bx.lt {w0 : World} {b : Nat} {gv rv dv : Value} {P : Pol} {w : World} (h : Bx w0 b gv rv dv P w) : b < w.heap.size := (Array.getElem?_eq_some_iff.1 h.bx).1
theorem Bx.new {w : World} {gv rv dv : Value} {P : Pol} (h : RdP w w.heap.size gv rv dv P) (ht : Tb w) : Bx w w.heap.size gv rv dv P (w.alloc (.cells #[gv, rv, dv] 29)) := by
  have hb : Below w.heap.size w (w.alloc (.cells #[gv, rv, dv] 29)) := (Below.refl _ _).alloc (Nat.le_refl _) _
  exact ⟨hb, heap_alloc_new w _, h.below hb (Nat.le_refl _), ht.below hb⟩
theorem Bx.g {w0 : World} {b : Nat} {gv rv dv : Value} {P : Pol} {w : World} (h : Bx w0 b gv rv dv P w) : RdG w w.heap.size gv P.gs := h.rd.gs.more (Nat.le_of_lt h.lt)
theorem Bx.r {w0 : World} {b : Nat} {gv rv dv : Value} {P : Pol} {w : World} (h : Bx w0 b gv rv dv P w) : RdR w w.heap.size rv P.rs := h.rd.rs.more (Nat.le_of_lt h.lt)
theorem Bx.d {w0 : World} {b : Nat} {gv rv dv : Value} {P : Pol} {w : World} (h : Bx w0 b gv rv dv P w) : RdD w w.heap.size dv P.ds := h.rd.ds.more (Nat.le_of_lt h.lt)
theorem Bx.c0 {w0 : World} {b : Nat} {gv rv dv : Value} {P : Pol} {w : World} (h : Bx w0 b gv rv dv P w) : w.cell? ⟨b, 0, none⟩ = some gv := cell_heap h.bx rfl
theorem Bx.c1 {w0 : World} {b : Nat} {gv rv dv : Value} {P : Pol} {w : World} (h : Bx w0 b gv rv dv P w) : w.cell? ⟨b, 1, none⟩ = some rv := cell_heap h.bx rfl
theorem Bx.c2 {w0 : World} {b : Nat} {gv rv dv : Value} {P : Pol} {w : World} (h : Bx w0 b gv rv dv P w) : w.cell? ⟨b, 2, none⟩ = some dv := cell_heap h.bx rfl
theorem val_large {P : Pol} (h : 24 < P.gs.length ∨ 64 < P.rs.length ∨ 64 < P.ds.length) : validate P = 3 := by unfold validate; rw [if_pos h]
theorem val_small {P : Pol} (h : ¬ (24 < P.gs.length ∨ 64 < P.rs.length ∨ 64 < P.ds.length)) : validate P = if gsErr P.gs 0 P.gs = 0 then (if firstE (rulErr P.gs) P.rs = 0 then firstE (gudErr P.gs) P.ds else firstE (rulErr P.gs) P.rs) else gsErr P.gs 0 P.gs := by unfold validate; rw [if_neg h]
set_option maxRecDepth 100000 in
set_option maxHeartbeats 8000000 in
theorem Validate_any (gv rv dv : Value) (P : Pol) (w : World) (hv : RdP w w.heap.size gv rv dv P) (hf : FitP P) (ht : Tb w) :
    Calls Tryd.prog 10 #[.agg #[gv, rv, dv]] w fun e w' => e = .returned (.int .i64 (validate P : Nat)) ∧ Below w.heap.size w w' := by
  obtain ⟨A1, n1, A2, n2, A3, n3, rfl, rfl, rfl, l1, l2, l3, m1, m2, m3⟩ := hv.form
  have HBx := Lib.hid (Bx.new hv ht)
  have HF := Lib.hid hf
  unfold maxLen at m1 m2 m3
  clear hv hf ht
  by_cases k1 : 24 < P.gs.length
  · have HE := Lib.hid (val_large (.inl k1))
    have d1 : decide ((24 : Int) < (P.gs.length : Int)) = true := decide_eq_true (by omega)
    clear k1
    go_enter Tryd.func10, Tryd.ntmps10
    go_wp2
    go_ret
    exact ⟨ret_int (by rw [HE.out]; rfl), HBx.out.bl⟩
  · have d1 : decide ((24 : Int) < (P.gs.length : Int)) = false := decide_eq_false (by omega)
    by_cases k2 : 64 < P.rs.length
    · have HE := Lib.hid (val_large (.inr (.inl k2)))
      have d2 : decide ((64 : Int) < (P.rs.length : Int)) = true := decide_eq_true (by omega)
      clear k1 k2
      go_enter Tryd.func10, Tryd.ntmps10
      go_wp2
      go_ret
      exact ⟨ret_int (by rw [HE.out]; rfl), HBx.out.bl⟩
    · have d2 : decide ((64 : Int) < (P.rs.length : Int)) = false := decide_eq_false (by omega)
      by_cases k3 : 64 < P.ds.length
      · have HE := Lib.hid (val_large (.inr (.inr k3)))
        have d3 : decide ((64 : Int) < (P.ds.length : Int)) = true := decide_eq_true (by omega)
        clear k1 k2 k3
        go_enter Tryd.func10, Tryd.ntmps10
        go_wp2
        go_ret
        exact ⟨ret_int (by rw [HE.out]; rfl), HBx.out.bl⟩
      · have d3 : decide ((64 : Int) < (P.ds.length : Int)) = false := decide_eq_false (by omega)
        have HE := Lib.hid (val_small (P := P) (by omega))
        obtain ⟨V, hV⟩ : ∃ V, validate P = V := ⟨_, rfl⟩
        rw [hV] at HE ⊢
        clear hV k2 k3
        go_enter Tryd.func10, Tryd.ntmps10
        go_wp2
        clear d1 d2 d3
        go_loopw [25] (fun i wr => ∃ k : Nat, k ≤ P.gs.length ∧ i = .int .i64 k ∧ Hid (gsErr P.gs 0 P.gs = gsErr P.gs k (P.gs.drop k)) ∧ Hid (Bx w w.heap.size (.slice A1 P.gs.length n1) (.slice A2 P.rs.length n2) (.slice A3 P.ds.length n3) P wr)) (fun i _ => P.gs.length - (intOf i).toNat)
        case atStart => exact ⟨0, Nat.zero_le _, rfl, Lib.hid rfl, HBx⟩
        case round =>
          obtain ⟨k, hk, rfl, HA, HW⟩ := hrel
          have q0 := HW.out.c0
          by_cases hlt : k < P.gs.length
          · have hki : (k : Int) < (P.gs.length : Int) := by omega
            have HS := Lib.hid (gsErr_drop P.gs k hlt HA.out)
            have HH := Lib.hid (gsErr_hit P.gs k hlt HA.out)
            have HC := Lib.hid (checkGroup_any _ P.gs k wr hlt HW.out.g (HF.out.gs _ (List.getElem_mem hlt)))
            obtain ⟨E, hE⟩ : ∃ E, groupErr P.gs k P.gs[k] = E := ⟨_, rfl⟩
            rw [hE] at HC HS HH
            clear hE
            by_cases h0 : E = 0
            · have h0' : ((E : Int) != 0) = false := by rw [bne_eq_false_iff_eq]; omega
              have HS2 := Lib.hid (HS.out h0)
              clear h0 HS HH
              go_wp2_with fail
              with_reducible refine (HC.out).mono ?_
              rintro e w1 ⟨rfl, hb⟩
              have HB := Lib.hid (HW.out.step hb)
              clear hb
              go_wp2
              go_roundw
              case rel => exact ⟨k + 1, by omega, by go_num, HS2, HB⟩
              case measure => simp [intOf]; omega
            · have h0' : ((E : Int) != 0) = true := by rw [bne_iff_ne]; omega
              have HH2 := Lib.hid (HH.out h0)
              have HV : Hid (V = E) := Lib.hid (by rw [HE.out, HH2.out, if_neg h0])
              clear h0 HS HH HH2
              go_wp2_with fail
              with_reducible refine (HC.out).mono ?_
              rintro e w1 ⟨rfl, hb⟩
              have HB := Lib.hid (HW.out.step hb)
              clear hb
              go_wp2
              go_ret
              exact ⟨ret_int (by rw [HV.out]), HB.out.bl⟩
          · have hg0 := gsErr_end P.gs k hlt HA.out
            have HE2 : Hid (V = if firstE (rulErr P.gs) P.rs = 0 then firstE (gudErr P.gs) P.ds else firstE (rulErr P.gs) P.rs) := Lib.hid (by rw [HE.out, if_pos hg0])
            have q1 := HW.out.c1
            have q2 := HW.out.c2
            have HC := Lib.hid (firstRule_any _ _ P.gs P.rs wr HW.out.g HW.out.r HF.out.rs HW.out.tb)
            obtain ⟨E, hE⟩ : ∃ E, firstE (rulErr P.gs) P.rs = E := ⟨_, rfl⟩
            rw [hE] at HC HE2
            clear hE hg0 HE
            by_cases h0 : E = 0
            · have h0' : ((E : Int) != 0) = false := by rw [bne_eq_false_iff_eq]; omega
              have HV : Hid (V = firstE (gudErr P.gs) P.ds) := Lib.hid (by rw [HE2.out, if_pos h0])
              clear h0 HE2
              go_wp2_with fail
              with_reducible refine (HC.out).mono ?_
              rintro e w1 ⟨rfl, hb⟩
              have HB := Lib.hid (HW.out.step hb)
              have HD := Lib.hid (firstGuard_any _ _ P.gs P.ds w1 HB.out.g HB.out.d HF.out.ds HB.out.tb)
              clear hb q0 q1 q2
              have q0 := HB.out.c0
              have q2 := HB.out.c2
              go_wp2_with fail
              with_reducible refine (HD.out).mono ?_
              rintro e w2 ⟨rfl, hb2⟩
              have HB2 := Lib.hid (HB.out.step hb2)
              clear hb2
              go_wp2
              go_ret
              exact ⟨ret_int (by rw [HV.out]), HB2.out.bl⟩
            · have h0' : ((E : Int) != 0) = true := by rw [bne_iff_ne]; omega
              have HV : Hid (V = E) := Lib.hid (by rw [HE2.out, if_neg h0])
              clear h0 HE2
              go_wp2_with fail
              with_reducible refine (HC.out).mono ?_
              rintro e w1 ⟨rfl, hb⟩
              have HB := Lib.hid (HW.out.step hb)
              clear hb
              go_wp2
              go_ret
              exact ⟨ret_int (by rw [HV.out]), HB.out.bl⟩
end Go.Proofs.YtbibekojbjonoaaDoor.Po
