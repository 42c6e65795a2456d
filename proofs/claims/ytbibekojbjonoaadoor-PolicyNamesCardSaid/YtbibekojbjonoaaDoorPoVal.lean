/-
  The contracts of checkGuard, firstError over rules and guards, and Validate of package policy.
-/
import Derived.Test.YtbibekojbjonoaaDoorPoRul
namespace Go.Proofs.YtbibekojbjonoaaDoor.Po
open Go.RowKit Go.Shelf
set_option linter.unusedVariables false
set_option linter.unusedSimpArgs false

structure FitD (d : Gud) : Prop where
  tn : Fits d.tn
  se : Fits d.se
set_option maxRecDepth 100000 in
set_option maxHeartbeats 2000000 in
theorem checkGuard_any (v : Value) (gs : List Grp) (d : Gud) (w : World) (hv : RdG w w.heap.size v gs) (hf : FitD d) (ht : Tb w) :
    Calls Tryd.prog 17 #[v, .agg #[.bool d.st, .string (bsl d.gr), .int .i64 d.sp, .string (bsl d.tn), .string (bsl d.se)]] w fun e w' => e = .returned (.int .i64 (gudErr gs d : Nat)) ∧ Below w.heap.size w w' := by
  have hb0 : Below w.heap.size w (w.alloc (.cells #[.bool d.st, .string (bsl d.gr), .int .i64 d.sp, .string (bsl d.tn), .string (bsl d.se)] 36)) := (Below.refl _ _).alloc (Nat.le_refl _) _
  have HB := Lib.hid hb0
  have HK := Lib.hid (heap_alloc_new w (Obj.cells #[.bool d.st, .string (bsl d.gr), .int .i64 d.sp, .string (bsl d.tn), .string (bsl d.se)] 36))
  have HX := Lib.hid (exists_any v gs d.gr _ ((hv.below hb0 (Nat.le_refl _)).more hb0.size))
  have HV := Lib.hid (fun W (h : Tb W) => TValid d.sp d.tn W hf.tn h)
  have HS := Lib.hid (fun W => validSection_any d.se W hf.se)
  have HTb := Lib.hid (ht.below hb0)
  obtain ⟨E, hE⟩ : ∃ E, gudErr gs d = E := ⟨_, rfl⟩
  have hE2 : E = if has gs d.gr then (if Ti.valid d.sp d.tn && secOK d.se then 0 else 7) else 4 := by rw [← hE]; rfl
  rw [hE]
  clear hE hv hf ht
  obtain ⟨st, gr, sp, tn, se⟩ := d
  simp only at hE2 HB HK HX HV HS HTb ⊢
  clear hb0
  cases hh : has gs gr
  · have HE : Hid (E = 4) := Lib.hid (by rw [hE2, if_neg (by rw [hh]; exact Bool.false_ne_true)])
    rw [hh] at HX
    clear hE2 hh
    go_enter Tryd.func17, Tryd.ntmps17
    go_wp2_with fail
    with_reducible refine (HX.out).mono ?_
    rintro e w1 ⟨rfl, hb⟩
    have HB2 := Lib.hid (HB.out.trans (hb.mono HB.out.size))
    clear hb
    go_wp2
    go_ret
    exact ⟨ret_int (by rw [HE.out]; rfl), HB2.out⟩
  · have hE3 : E = if Ti.valid sp tn && secOK se then 0 else 7 := by rw [hE2, if_pos hh]
    rw [hh] at HX
    clear hE2 hh
    cases hvl : Ti.valid sp tn
    · have HE : Hid (E = 7) := Lib.hid (by rw [hE3, hvl]; rfl)
      rw [hvl] at HV
      clear hE3 hvl
      go_enter Tryd.func17, Tryd.ntmps17
      go_wp2_with fail
      with_reducible refine (HX.out).mono ?_
      rintro e w1 ⟨rfl, hb⟩
      have HB2 := Lib.hid (HB.out.trans (hb.mono HB.out.size))
      have hq := (hb.block _ (Array.getElem?_eq_some_iff.1 HK.out).1).trans HK.out
      have c2 : w1.cell? ⟨w.heap.size, 2, none⟩ = some (.int .i64 sp) := cell_heap hq rfl
      have c3 : w1.cell? ⟨w.heap.size, 3, none⟩ = some (.string (bsl tn)) := cell_heap hq rfl
      have HVc := Lib.hid (HV.out w1 (HTb.out.below hb))
      clear hb hq
      go_wp2_with fail
      with_reducible refine (HVc.out).mono ?_
      rintro e w2 ⟨rfl, hb3⟩
      have HB3 := Lib.hid (HB2.out.trans (hb3.mono HB2.out.size))
      clear hb3
      go_wp2
      go_ret
      exact ⟨ret_int (by rw [HE.out]; rfl), HB3.out⟩
    · have hE4 : E = if secOK se then 0 else 7 := by rw [hE3, hvl, Bool.true_and]
      rw [hvl] at HV
      have HE : Hid (∀ b, secOK se = b → E = if b then 0 else 7) := Lib.hid (fun b e => by rw [hE4, e])
      clear hE3 hE4 hvl
      generalize hso : secOK se = b at HS
      have HE2 := Lib.hid (HE.out b hso)
      clear hso HE
      cases b
      all_goals
        go_enter Tryd.func17, Tryd.ntmps17
        go_wp2_with fail
        with_reducible refine (HX.out).mono ?_
        rintro e w1 ⟨rfl, hb⟩
        have HB2 := Lib.hid (HB.out.trans (hb.mono HB.out.size))
        have hq := (hb.block _ (Array.getElem?_eq_some_iff.1 HK.out).1).trans HK.out
        have HQ := Lib.hid hq
        have c2 : w1.cell? ⟨w.heap.size, 2, none⟩ = some (.int .i64 sp) := cell_heap hq rfl
        have c3 : w1.cell? ⟨w.heap.size, 3, none⟩ = some (.string (bsl tn)) := cell_heap hq rfl
        have HVc := Lib.hid (HV.out w1 (HTb.out.below hb))
        clear hb hq
        go_wp2_with fail
        with_reducible refine (HVc.out).mono ?_
        rintro e w2 ⟨rfl, hb3⟩
        have HB3 := Lib.hid (HB2.out.trans (hb3.mono HB2.out.size))
        have hq2 := (hb3.block _ (Array.getElem?_eq_some_iff.1 HQ.out).1).trans HQ.out
        have c4 : w2.cell? ⟨w.heap.size, 4, none⟩ = some (.string (bsl se)) := cell_heap hq2 rfl
        clear hb3 hq2
        go_wp2_with fail
        with_reducible refine (HS.out _).mono ?_
        rintro e w4 ⟨rfl, hb5⟩
        have HB5 := Lib.hid (HB3.out.trans (hb5.mono HB3.out.size))
        clear hb5
        go_wp2
        go_ret
        exact ⟨ret_int (by rw [HE2.out]; rfl), HB5.out⟩
set_option maxRecDepth 100000 in
set_option maxHeartbeats 2000000 in
theorem firstRule_any (v mv : Value) (gs : List Grp) (rs : List Rul) (w : World) (hv : RdG w w.heap.size v gs) (hm : RdR w w.heap.size mv rs) (hf : ∀ m ∈ rs, Fits m.tn) (ht : Tb w) :
    Calls Tryd.prog 14 #[v, mv, .func (.func 15) #[] #[]] w fun e w' => e = .returned (.int .i64 (firstE (rulErr gs) rs : Nat)) ∧ Below w.heap.size w w' := by
  obtain ⟨A, c, rfl, hl1, hl2, hr⟩ := hm.ex
  unfold maxLen at hl2
  have HR := Lib.hid hr
  have HF := Lib.hid hf
  have HV := Lib.hid hv
  have HT := Lib.hid ht
  clear hr hm hf hv ht
  go_enter Tryd.func14, Tryd.ntmps14
  go_wp2
  go_loopw [12] (fun i wr => ∃ k : Nat, k ≤ rs.length ∧ i = .int .i64 k ∧ Hid (firstE (rulErr gs) rs = firstE (rulErr gs) (rs.drop k)) ∧ Hid (Below w.heap.size w wr)) (fun i _ => rs.length - (intOf i).toNat)
  case atStart => exact ⟨0, Nat.zero_le _, rfl, Lib.hid rfl, Lib.hid (Below.refl _ _)⟩
  case round =>
    obtain ⟨k, hk, rfl, HA, HW⟩ := hrel
    by_cases hlt : k < rs.length
    · obtain ⟨g, o, rfl, hg, q⟩ := HR.out (by omega)
      have hki : (k : Int) < (rs.length : Int) := by omega
      have q0 := q k rs[k] (List.getElem?_eq_getElem hlt) 0 _ rfl
      have q1 := q k rs[k] (List.getElem?_eq_getElem hlt) 1 _ rfl
      have q2 := q k rs[k] (List.getElem?_eq_getElem hlt) 2 _ rfl
      have q3 := q k rs[k] (List.getElem?_eq_getElem hlt) 3 _ rfl
      have q4 := q k rs[k] (List.getElem?_eq_getElem hlt) 4 _ rfl
      have q5 := q k rs[k] (List.getElem?_eq_getElem hlt) 5 _ rfl
      simp only [Nat.add_zero] at q0
      have hc : ∀ j, wr.cell? ⟨g, j, none⟩ = w.cell? ⟨g, j, none⟩ := fun j => HW.out.cell (p := ⟨g, j, none⟩) hg
      rw [← hc] at q0 q1 q2 q3 q4 q5
      have HS := Lib.hid (firstE_drop (rulErr gs) rs k hlt HA.out)
      have HH := Lib.hid (firstE_hit (rulErr gs) rs k hlt HA.out)
      have hfit := HF.out rs[k] (List.getElem_mem hlt)
      have HFt := Lib.hid hfit
      generalize rs[k] = x at q0 q1 q2 q3 q4 q5 HS HH HFt
      clear hc q hfit
      have hb0 : Below w.heap.size w (wr.alloc (.cells #[.bool x.al, .int .i64 x.ri, .string (bsl x.gr), .int .i64 x.kd, .int .i64 x.sp, .string (bsl x.tn)] 48)) := HW.out.alloc HW.out.size _
      have HB0 := Lib.hid hb0
      have HC := Lib.hid (checkRule_any v gs x _ ((HV.out.below hb0 (Nat.le_refl _)).more hb0.size) HFt.out (HT.out.below hb0))
      obtain ⟨E, hE⟩ : ∃ E, rulErr gs x = E := ⟨_, rfl⟩
      rw [hE] at HC HS HH
      clear hE HFt hb0
      by_cases h0 : E = 0
      · have h0' : ((E : Int) != 0) = false := by rw [bne_eq_false_iff_eq]; omega
        have HS2 := Lib.hid (HS.out h0)
        clear h0 HS HH
        go_wp2_with fail
        with_reducible refine (HC.out).mono ?_
        rintro e w1 ⟨rfl, hb⟩
        have HB := Lib.hid (HB0.out.trans (hb.mono HB0.out.size))
        clear hb
        go_wp2
        go_roundw
        case rel => exact ⟨k + 1, by omega, by go_num, HS2, HB⟩
        case measure => simp [intOf]; omega
      · have h0' : ((E : Int) != 0) = true := by rw [bne_iff_ne]; omega
        have HH2 := Lib.hid (HH.out h0)
        clear h0 HS HH
        go_wp2_with fail
        with_reducible refine (HC.out).mono ?_
        rintro e w1 ⟨rfl, hb⟩
        go_wp2
        go_ret
        exact ⟨ret_int (by rw [HH2.out]), HB0.out.trans (hb.mono HB0.out.size)⟩
    · have HE := Lib.hid (firstE_end (rulErr gs) rs k hlt HA.out)
      go_wp2
      go_ret
      exact ⟨ret_int (by rw [HE.out]; rfl), HW.out⟩
set_option maxRecDepth 100000 in
set_option maxHeartbeats 2000000 in
theorem firstGuard_any (v mv : Value) (gs : List Grp) (ds : List Gud) (w : World) (hv : RdG w w.heap.size v gs) (hm : RdD w w.heap.size mv ds) (hf : ∀ m ∈ ds, FitD m) (ht : Tb w) :
    Calls Tryd.prog 16 #[v, mv, .func (.func 17) #[] #[]] w fun e w' => e = .returned (.int .i64 (firstE (gudErr gs) ds : Nat)) ∧ Below w.heap.size w w' := by
  obtain ⟨A, c, rfl, hl1, hl2, hr⟩ := hm.ex
  unfold maxLen at hl2
  have HR := Lib.hid hr
  have HF := Lib.hid hf
  have HV := Lib.hid hv
  have HT := Lib.hid ht
  clear hr hm hf hv ht
  go_enter Tryd.func16, Tryd.ntmps16
  go_wp2
  go_loopw [12] (fun i wr => ∃ k : Nat, k ≤ ds.length ∧ i = .int .i64 k ∧ Hid (firstE (gudErr gs) ds = firstE (gudErr gs) (ds.drop k)) ∧ Hid (Below w.heap.size w wr)) (fun i _ => ds.length - (intOf i).toNat)
  case atStart => exact ⟨0, Nat.zero_le _, rfl, Lib.hid rfl, Lib.hid (Below.refl _ _)⟩
  case round =>
    obtain ⟨k, hk, rfl, HA, HW⟩ := hrel
    by_cases hlt : k < ds.length
    · obtain ⟨g, o, rfl, hg, q⟩ := HR.out (by omega)
      have hki : (k : Int) < (ds.length : Int) := by omega
      have q0 := q k ds[k] (List.getElem?_eq_getElem hlt) 0 _ rfl
      have q1 := q k ds[k] (List.getElem?_eq_getElem hlt) 1 _ rfl
      have q2 := q k ds[k] (List.getElem?_eq_getElem hlt) 2 _ rfl
      have q3 := q k ds[k] (List.getElem?_eq_getElem hlt) 3 _ rfl
      have q4 := q k ds[k] (List.getElem?_eq_getElem hlt) 4 _ rfl
      simp only [Nat.add_zero] at q0
      have hc : ∀ j, wr.cell? ⟨g, j, none⟩ = w.cell? ⟨g, j, none⟩ := fun j => HW.out.cell (p := ⟨g, j, none⟩) hg
      rw [← hc] at q0 q1 q2 q3 q4
      have HS := Lib.hid (firstE_drop (gudErr gs) ds k hlt HA.out)
      have HH := Lib.hid (firstE_hit (gudErr gs) ds k hlt HA.out)
      have hfit := HF.out ds[k] (List.getElem_mem hlt)
      have HFt := Lib.hid hfit
      generalize ds[k] = x at q0 q1 q2 q3 q4 HS HH HFt
      clear hc q hfit
      have hb0 : Below w.heap.size w (wr.alloc (.cells #[.bool x.st, .string (bsl x.gr), .int .i64 x.sp, .string (bsl x.tn), .string (bsl x.se)] 36)) := HW.out.alloc HW.out.size _
      have HB0 := Lib.hid hb0
      have HC := Lib.hid (checkGuard_any v gs x _ ((HV.out.below hb0 (Nat.le_refl _)).more hb0.size) HFt.out (HT.out.below hb0))
      obtain ⟨E, hE⟩ : ∃ E, gudErr gs x = E := ⟨_, rfl⟩
      rw [hE] at HC HS HH
      clear hE HFt hb0
      by_cases h0 : E = 0
      · have h0' : ((E : Int) != 0) = false := by rw [bne_eq_false_iff_eq]; omega
        have HS2 := Lib.hid (HS.out h0)
        clear h0 HS HH
        go_wp2_with fail
        with_reducible refine (HC.out).mono ?_
        rintro e w1 ⟨rfl, hb⟩
        have HB := Lib.hid (HB0.out.trans (hb.mono HB0.out.size))
        clear hb
        go_wp2
        go_roundw
        case rel => exact ⟨k + 1, by omega, by go_num, HS2, HB⟩
        case measure => simp [intOf]; omega
      · have h0' : ((E : Int) != 0) = true := by rw [bne_iff_ne]; omega
        have HH2 := Lib.hid (HH.out h0)
        clear h0 HS HH
        go_wp2_with fail
        with_reducible refine (HC.out).mono ?_
        rintro e w1 ⟨rfl, hb⟩
        go_wp2
        go_ret
        exact ⟨ret_int (by rw [HH2.out]), HB0.out.trans (hb.mono HB0.out.size)⟩
    · have HE := Lib.hid (firstE_end (gudErr gs) ds k hlt HA.out)
      go_wp2
      go_ret
      exact ⟨ret_int (by rw [HE.out]; rfl), HW.out⟩
structure FitP (P : Pol) : Prop where
  gs : ∀ g ∈ P.gs, FitG g
  rs : ∀ r ∈ P.rs, Fits r.tn
  ds : ∀ d ∈ P.ds, FitD d
theorem RdP.form {w : World} {B : Nat} {gv rv dv : Value} {P : Pol} (h : RdP w B gv rv dv P) : ∃ A1 c1 A2 c2 A3 c3, gv = .slice A1 P.gs.length c1 ∧ rv = .slice A2 P.rs.length c2 ∧ dv = .slice A3 P.ds.length c3 ∧ P.gs.length ≤ c1 ∧ P.rs.length ≤ c2 ∧ P.ds.length ≤ c3 ∧ c1 ≤ maxLen ∧ c2 ≤ maxLen ∧ c3 ≤ maxLen := by
  obtain ⟨A1, c1, e1, l1, m1, _⟩ := h.gs.ex
  obtain ⟨A2, c2, e2, l2, m2, _⟩ := h.rs.ex
  obtain ⟨A3, c3, e3, l3, m3, _⟩ := h.ds.ex
  exact ⟨A1, c1, A2, c2, A3, c3, e1, e2, e3, l1, l2, l3, m1, m2, m3⟩
end Go.Proofs.YtbibekojbjonoaaDoor.Po
