/-
  The contracts of validScope, checkRule, validSection and checkGuard of package policy.
-/
import Derived.Test.YtbibekojbjonoaaDoorPoGrp
namespace Go.Proofs.YtbibekojbjonoaaDoor.Po
open Go.RowKit Go.Shelf
set_option linter.unusedVariables false
set_option linter.unusedSimpArgs false

theorem eql_ttl (sp : Int) (tn : By) (w : World) : (binOp .eql 34 (.agg #[.int .i64 sp, .string (bsl tn)]) (.agg #[.int .i64 0, .string ⟨#[]⟩])).run Tryd.prog w = .ok (.bool (decide (sp = 0 ∧ tn = []))) w := by
  have h : (Op.equalIn 10000 34 (.agg #[.int .i64 sp, .string (bsl tn)]) (.agg #[.int .i64 0, .string ⟨#[]⟩])).run Tryd.prog w = .ok (decide (sp = 0 ∧ tn = [])) w := by
    have e : ((bsl tn).toList == (⟨#[]⟩ : ByteArray).toList) = decide (tn = []) := str_beq tn []
    rw [show (10000 : Nat) = 9998 + 1 + 1 from rfl, run_equalIn_agg _ _ _ _ _ (by kernel_rfl) (by kernel_rfl)]
    go_simp
    by_cases h1 : sp = 0 <;> by_cases h2 : tn = [] <;> simp [h1, h2, bsl_toList]
  rw [run_eql_struct, h]
  simp
theorem TValid (sp : Int) (tn : By) (w : World) (h : Fits tn) (ht : Tb w) : Calls Tryd.prog 28 #[.agg #[.int .i64 sp, .string (bsl tn)]] w fun e w' => e = .returned (.bool (Ti.valid sp tn)) ∧ Below w.heap.size w w' :=
  Ti.Valid_any sp (bsl tn) w (by rw [bsl_size]; exact h) ht.ti
set_option maxRecDepth 100000 in
set_option maxHeartbeats 2000000 in
theorem validScope_any (kd sp : Int) (tn : By) (w : World) (h : Fits tn) (ht : Tb w) : Calls Tryd.prog 27 #[.agg #[.int .i64 kd, .int .i64 sp, .string (bsl tn)]] w fun e w' => e = .returned (.bool (scopeOK kd sp tn)) ∧ Below w.heap.size w w' := by
  have HB : Hid (Below w.heap.size w (w.alloc (.cells #[.int .i64 kd, .int .i64 sp, .string (bsl tn)] 46))) := Lib.hid ((Below.refl _ _).alloc (Nat.le_refl _) _)
  have HT := Lib.hid (TValid sp tn _ h (ht.below HB.out))
  by_cases k1 : kd = 1
  · have HR : Hid (scopeOK kd sp tn = decide (sp = 0 ∧ tn = [])) := Lib.hid (by unfold scopeOK; rw [if_pos k1])
    have d1 : ((kd : Int) == 1) = true := by rw [beq_iff_eq]; exact k1
    have heq := fun W => eql_ttl sp tn W
    generalize decide (sp = 0 ∧ tn = []) = b at HR heq
    clear k1
    go_enter Tryd.func27, Tryd.ntmps27
    go_wp2
    go_ret
    exact ⟨ret_bool HR.out.symm, HB.out⟩
  · have d1 : ((kd : Int) == 1) = false := by rw [beq_eq_false_iff_ne]; exact k1
    by_cases k2 : kd = 2
    · have HR : Hid (scopeOK kd sp tn = decide (0 ≤ sp ∧ sp < 6 ∧ tn = [])) := Lib.hid (by unfold scopeOK; rw [if_neg k1, if_pos k2])
      have d2 : ((kd : Int) == 2) = true := by rw [beq_iff_eq]; exact k2
      by_cases s1 : 0 ≤ sp
      · by_cases s2 : sp < 6
        · by_cases s3 : tn = []
          · have HR2 : Hid (scopeOK kd sp tn = true) := Lib.hid (by rw [HR.out, decide_eq_true ⟨s1, s2, s3⟩])
            have t1 := lit_eq s3
            clear k1 k2 HR s3
            go_enter Tryd.func27, Tryd.ntmps27
            go_wp2
            go_ret
            exact ⟨ret_bool HR2.out.symm, HB.out⟩
          · have HR2 : Hid (scopeOK kd sp tn = false) := Lib.hid (by rw [HR.out, decide_eq_false (fun h => s3 h.2.2)])
            obtain ⟨t1, t2⟩ := empty_no (s := bsl tn) (by rw [bsl_size]; exact List.length_pos_iff.2 s3)
            clear k1 k2 HR s3
            go_enter Tryd.func27, Tryd.ntmps27
            go_wp2
            go_ret
            exact ⟨ret_bool HR2.out.symm, HB.out⟩
        · have HR2 : Hid (scopeOK kd sp tn = false) := Lib.hid (by rw [HR.out, decide_eq_false (fun h => s2 h.2.1)])
          have d3 : decide (sp < 6) = false := decide_eq_false s2
          clear k1 k2 HR s2
          go_enter Tryd.func27, Tryd.ntmps27
          go_wp2
          go_ret
          exact ⟨ret_bool HR2.out.symm, HB.out⟩
      · have HR2 : Hid (scopeOK kd sp tn = false) := Lib.hid (by rw [HR.out, decide_eq_false (fun h => s1 h.1)])
        have d3 : decide (0 ≤ sp) = false := decide_eq_false s1
        clear k1 k2 HR s1
        go_enter Tryd.func27, Tryd.ntmps27
        go_wp2
        go_ret
        exact ⟨ret_bool HR2.out.symm, HB.out⟩
    · have d2 : ((kd : Int) == 2) = false := by rw [beq_eq_false_iff_ne]; exact k2
      by_cases k3 : kd = 3
      · have HR : Hid (scopeOK kd sp tn = Ti.valid sp tn) := Lib.hid (by unfold scopeOK; rw [if_neg k1, if_neg k2, if_pos k3])
        have d3 : ((kd : Int) == 3) = true := by rw [beq_iff_eq]; exact k3
        generalize Ti.valid sp tn = b at HR HT
        clear k1 k2 k3
        go_enter Tryd.func27, Tryd.ntmps27
        go_wp2_with fail
        with_reducible refine (HT.out).mono ?_
        rintro e w1 ⟨rfl, hb⟩
        have HB2 := Lib.hid (HB.out.trans (hb.mono HB.out.size))
        clear hb
        go_wp2
        go_ret
        exact ⟨ret_bool HR.out.symm, HB2.out⟩
      · have HR : Hid (scopeOK kd sp tn = false) := Lib.hid (by unfold scopeOK; rw [if_neg k1, if_neg k2, if_neg k3])
        have d3 : ((kd : Int) == 3) = false := by rw [beq_eq_false_iff_ne]; exact k3
        clear k1 k2 k3
        go_enter Tryd.func27, Tryd.ntmps27
        go_wp2
        go_ret
        exact ⟨ret_bool HR.out.symm, HB.out⟩
set_option maxRecDepth 100000 in
set_option maxHeartbeats 2000000 in
theorem checkRule_any (v : Value) (gs : List Grp) (r : Rul) (w : World) (hv : RdG w w.heap.size v gs) (hf : Fits r.tn) (ht : Tb w) :
    Calls Tryd.prog 15 #[v, .agg #[.bool r.al, .int .i64 r.ri, .string (bsl r.gr), .int .i64 r.kd, .int .i64 r.sp, .string (bsl r.tn)]] w fun e w' => e = .returned (.int .i64 (rulErr gs r : Nat)) ∧ Below w.heap.size w w' := by
  have hb0 : Below w.heap.size w (w.alloc (.cells #[.bool r.al, .int .i64 r.ri, .string (bsl r.gr), .int .i64 r.kd, .int .i64 r.sp, .string (bsl r.tn)] 48)) := (Below.refl _ _).alloc (Nat.le_refl _) _
  have HB := Lib.hid hb0
  have HK := Lib.hid (heap_alloc_new w (Obj.cells #[.bool r.al, .int .i64 r.ri, .string (bsl r.gr), .int .i64 r.kd, .int .i64 r.sp, .string (bsl r.tn)] 48))
  have HX := Lib.hid (exists_any v gs r.gr _ ((hv.below hb0 (Nat.le_refl _)).more hb0.size))
  have HS := Lib.hid (fun W (h : Tb W) => validScope_any r.kd r.sp r.tn W hf h)
  have HTb := Lib.hid (ht.below hb0)
  obtain ⟨E, hE⟩ : ∃ E, rulErr gs r = E := ⟨_, rfl⟩
  have hE2 : E = if r.ri < 1 ∨ 5 < r.ri then 2 else if has gs r.gr then (if scopeOK r.kd r.sp r.tn then 0 else 7) else 4 := by rw [← hE]; rfl
  rw [hE]
  clear hE hv hf ht
  obtain ⟨al, ri, gr, kd, sp, tn⟩ := r
  simp only at hE2 HB HK HX HS HTb ⊢
  clear hb0
  by_cases r1 : ri < 1
  · have HE : Hid (E = 2) := Lib.hid (by rw [hE2, if_pos (.inl r1)])
    clear hE2
    go_enter Tryd.func15, Tryd.ntmps15
    go_wp2
    go_ret
    exact ⟨ret_int (by rw [HE.out]; rfl), HB.out⟩
  · have d1 : decide (ri < 1) = false := decide_eq_false r1
    by_cases r2 : 5 < ri
    · have HE : Hid (E = 2) := Lib.hid (by rw [hE2, if_pos (.inr r2)])
      clear hE2 r1
      go_enter Tryd.func15, Tryd.ntmps15
      go_wp2
      go_ret
      exact ⟨ret_int (by rw [HE.out]; rfl), HB.out⟩
    · have d2 : decide (5 < ri) = false := decide_eq_false r2
      have hE3 : E = if has gs gr then (if scopeOK kd sp tn then 0 else 7) else 4 := by rw [hE2, if_neg (fun h => h.elim r1 r2)]
      cases hh : has gs gr
      · have HE : Hid (E = 4) := Lib.hid (by rw [hE3, if_neg (by rw [hh]; exact Bool.false_ne_true)])
        rw [hh] at HX
        clear hE2 hE3 hh r1 r2
        go_enter Tryd.func15, Tryd.ntmps15
        go_wp2_with fail
        with_reducible refine (HX.out).mono ?_
        rintro e w1 ⟨rfl, hb⟩
        have HB2 := Lib.hid (HB.out.trans (hb.mono HB.out.size))
        clear hb
        go_wp2
        go_ret
        exact ⟨ret_int (by rw [HE.out]; rfl), HB2.out⟩
      · have hE4 : E = if scopeOK kd sp tn then 0 else 7 := by rw [hE3, if_pos hh]
        rw [hh] at HX
        have HE : Hid (∀ b, scopeOK kd sp tn = b → E = if b then 0 else 7) := Lib.hid (fun b e => by rw [hE4, e])
        clear hE2 hE3 hE4 hh r1 r2
        generalize hso : scopeOK kd sp tn = b at HS
        have HE2 := Lib.hid (HE.out b hso)
        clear hso HE
        cases b
        all_goals
          have HE3 := Lib.hid (HE2.out)
          clear HE2
          go_enter Tryd.func15, Tryd.ntmps15
          go_wp2_with fail
          with_reducible refine (HX.out).mono ?_
          rintro e w1 ⟨rfl, hb⟩
          have HB2 := Lib.hid (HB.out.trans (hb.mono HB.out.size))
          have hq := (hb.block _ (Array.getElem?_eq_some_iff.1 HK.out).1).trans HK.out
          have c3 : w1.cell? ⟨w.heap.size, 3, none⟩ = some (.int .i64 kd) := cell_heap hq rfl
          have c4 : w1.cell? ⟨w.heap.size, 4, none⟩ = some (.int .i64 sp) := cell_heap hq rfl
          have c5 : w1.cell? ⟨w.heap.size, 5, none⟩ = some (.string (bsl tn)) := cell_heap hq rfl
          have HSc := Lib.hid (HS.out w1 (HTb.out.below hb))
          clear hb hq
          go_wp2_with fail
          with_reducible refine (HSc.out).mono ?_
          rintro e w2 ⟨rfl, hb3⟩
          have HB3 := Lib.hid (HB2.out.trans (hb3.mono HB2.out.size))
          clear hb3
          go_wp2
          go_ret
          exact ⟨ret_int (by rw [HE3.out]; rfl), HB3.out⟩
/-! ### Sections -/
theorem any_no : ∀ l : By, Lib.containsAny l [10, 124] = l.any fun c => c == 10 || c == 124
  | [] => rfl
  | c :: r => by
    have ih := any_no r
    unfold Lib.containsAny at ih ⊢
    rw [List.any_cons, ← ih, Lib.indexAny]
    have hc : ([10, 124] : By).contains c = (c == 10 || c == 124) := by simp only [List.contains_cons, List.contains_nil, Bool.or_false]
    rw [hc]
    have hge := Lib.indexAny_ge [10, 124] r
    cases (c == 10 || c == 124)
    · simp only [Bool.false_eq_true, if_false, Bool.false_or]
      by_cases h : Lib.indexAny r [10, 124] = -1
      · rw [h]; rfl
      · have : (Lib.indexAny r [10, 124] == -1) = false := by rw [beq_eq_false_iff_ne]; exact h
        rw [this]
        simp only [Bool.false_eq_true, if_false]
        rw [Bool.eq_iff_iff, decide_eq_true_iff, decide_eq_true_iff]
        omega
    · simp
theorem asc_nb : Pa.Asc ⟨#[10, 124]⟩ := by
  intro j b hb
  match j, hb with
  | 0, hb => simp at hb; subst hb; decide
  | 1, hb => simp at hb; subst hb; decide
  | n + 2, hb => simp at hb
theorem AnyNb (l : By) (w : World) (hs : l.length ≤ 4294967200) : Calls Tryd.prog 46 #[.string (bsl l), .string ⟨#[10, 124]⟩] w fun e w' => e = .returned (.bool (l.any fun c => c == 10 || c == 124)) ∧ Below w.heap.size w w' := by
  have := Pa.ContainsAny_two (bsl l) ⟨#[10, 124]⟩ w asc_nb rfl (by rw [bsl_size]; omega)
  rw [← any_no]
  exact this
set_option maxRecDepth 100000 in
set_option maxHeartbeats 2000000 in
theorem validSection_any (l : By) (w : World) (hs : Fits l) : Calls Tryd.prog 29 #[.string (bsl l)] w fun e w' => e = .returned (.bool (secOK l)) ∧ Below w.heap.size w w' := by
  have hz : ((bsl l).size : Int) ≤ 9223372036854775807 := by rw [bsl_size]; unfold Fits maxLen at hs; omega
  by_cases h1 : l.length ≤ 100
  · have d1 : decide (((bsl l).size : Int) ≤ 100) = true := decide_eq_true (by rw [bsl_size]; omega)
    have HR : Hid (secOK l = (!(l.any fun c => c == 10 || c == 124) && decide (tr l = l))) := Lib.hid (by unfold secOK; rw [decide_eq_true h1, Bool.true_and])
    have HA := Lib.hid (AnyNb l w (by omega))
    have HT := Lib.hid (fun W => TrimL l W (by omega))
    generalize (l.any fun c => c == 10 || c == 124) = b at HR HA
    clear h1 hs
    cases b
    · by_cases h2 : tr l = l
      · have HR2 : Hid (secOK l = true) := Lib.hid (by rw [HR.out, decide_eq_true h2]; rfl)
        have t2 := bsl_eq' h2
        clear HR h2
        go_enter Tryd.func29, Tryd.ntmps29
        go_wp2_with fail
        with_reducible refine (HA.out).mono ?_
        rintro e w1 ⟨rfl, hb⟩
        have HB := Lib.hid hb
        clear hb
        go_wp2_with fail
        with_reducible refine (HT.out _).mono ?_
        rintro e w2 ⟨rfl, hb2⟩
        have HB2 := Lib.hid (HB.out.trans (hb2.mono HB.out.size))
        clear hb2
        go_wp2
        go_ret
        exact ⟨ret_bool HR2.out.symm, HB2.out⟩
      · have HR2 : Hid (secOK l = false) := Lib.hid (by rw [HR.out, decide_eq_false h2]; rfl)
        have t2 := bsl_ne h2
        clear HR h2
        go_enter Tryd.func29, Tryd.ntmps29
        go_wp2_with fail
        with_reducible refine (HA.out).mono ?_
        rintro e w1 ⟨rfl, hb⟩
        have HB := Lib.hid hb
        clear hb
        go_wp2_with fail
        with_reducible refine (HT.out _).mono ?_
        rintro e w2 ⟨rfl, hb2⟩
        have HB2 := Lib.hid (HB.out.trans (hb2.mono HB.out.size))
        clear hb2
        go_wp2
        go_ret
        exact ⟨ret_bool HR2.out.symm, HB2.out⟩
    · have HR2 : Hid (secOK l = false) := Lib.hid (by rw [HR.out]; rfl)
      clear HR
      go_enter Tryd.func29, Tryd.ntmps29
      go_wp2_with fail
      with_reducible refine (HA.out).mono ?_
      rintro e w1 ⟨rfl, hb⟩
      have HB := Lib.hid hb
      clear hb
      go_wp2
      go_ret
      exact ⟨ret_bool HR2.out.symm, HB.out⟩
  · have d1 : decide (((bsl l).size : Int) ≤ 100) = false := decide_eq_false (by rw [bsl_size]; omega)
    have HR : Hid (secOK l = false) := Lib.hid (by unfold secOK; rw [decide_eq_false h1]; rfl)
    clear h1 hs
    go_enter Tryd.func29, Tryd.ntmps29
    go_wp2
    go_ret
    exact ⟨ret_bool HR.out.symm, Below.refl _ _⟩
end Go.Proofs.YtbibekojbjonoaaDoor.Po
