/-
  The contract of checkGroup of package policy.
-/
import Derived.Test.YtbibekojbjonoaaDoorPoChk
import Derived.Deep.RegionHeld3
namespace Go.Proofs.YtbibekojbjonoaaDoor.Po
open Go.RowKit Go.Shelf
set_option linter.unusedVariables false
set_option linter.unusedSimpArgs false

theorem Sub.take {w : World} {B : Nat} {L : List Gv} {l : List Grp} (h : Sub w B L l) (k : Nat) : Sub w B (L.take k) (l.take k) := by
  refine ⟨by rw [List.length_take, List.length_take, h.1], fun i p g hp hg => ?_⟩
  rw [List.getElem?_take] at hp hg
  split at hp
  · rename_i hi
    rw [if_pos hi] at hg
    exact h.2 i p g hp hg
  · cases hp
theorem Rd.take {α : Type} {k : Nat} {enc : α → List Value} {w : World} {B : Nat} {A : Option Addr} {n c : Nat} {l : List α} (h : Rd k enc w B (.slice A n c) l) (i : Nat) (hi : i ≤ l.length) : Rd k enc w B (.slice A i c) (l.take i) := by
  obtain ⟨A2, c2, e, h2, h3, h4⟩ := h.ex
  injection e with e1 e2 e3
  subst e1; subst e3
  have hl : (l.take i).length = i := by rw [List.length_take]; omega
  refine ⟨A, c, by rw [hl], by rw [hl]; omega, h3, fun hn => ?_⟩
  obtain ⟨g, o, h5, h6, h7⟩ := h4 (by omega)
  refine ⟨g, o, h5, h6, fun j x hx => h7 j x ?_⟩
  rw [List.getElem?_take] at hx
  split at hx
  · exact hx
  · cases hx
theorem RdG.take {w : World} {B : Nat} {A : Option Addr} {n c : Nat} {l : List Grp} (h : RdG w B (.slice A n c) l) (i : Nat) (hi : i ≤ l.length) : RdG w B (.slice A i c) (l.take i) := by
  obtain ⟨L, h1, h2⟩ := h
  exact ⟨L.take i, h1.take i (by rw [h2.1]; exact hi), h2.take i⟩
structure FitG (g : Grp) : Prop where
  nm : Fits g.nm
  ms : ∀ m ∈ g.ms, Fits m
set_option maxRecDepth 100000 in
set_option maxHeartbeats 4000000 in
theorem checkGroup_any (v : Value) (gs : List Grp) (i : Nat) (w : World) (hi : i < gs.length) (hv : RdG w w.heap.size v gs) (hf : FitG gs[i]) :
    Calls Tryd.prog 13 #[v, .int .i64 (i : Int)] w fun e w' => e = .returned (.int .i64 (groupErr gs i gs[i] : Nat)) ∧ Below w.heap.size w w' := by
  obtain ⟨A, c, rfl, hl1, hl2, hr⟩ := hv.ex
  unfold maxLen at hl2
  obtain ⟨g, o, rfl, hg, q⟩ := hr (by omega)
  obtain ⟨m, q1, q2, q3⟩ := q i gs[i] (List.getElem?_eq_getElem hi)
  obtain ⟨Am, cm, rfl, n1, n2, _⟩ := q3.ex
  have HM := Lib.hid q3
  have HV := Lib.hid hv
  have HTk := Lib.hid (hv.take i (by omega))
  have HD : Hid (groupErr gs i gs[i] = if isName gs[i].nm then (if has (gs.take i) gs[i].nm then 5 else if 24 < gs[i].ms.length then 3 else firstE (memErr gs) gs[i].ms) else 1) := Lib.hid rfl
  obtain ⟨hf1, hf2⟩ := hf
  have HF2 := Lib.hid hf2
  have HN := Lib.hid (fun W => IsNameL gs[i].nm W hf1)
  have i1 : (i : Int) < (gs.length : Int) := by omega
  have i2 : (0 : Int) ≤ (i : Int) := by omega
  have i3 : (i : Int) ≤ (c : Int) := by omega
  obtain ⟨E, hE⟩ : ∃ E, groupErr gs i gs[i] = E := ⟨_, rfl⟩
  rw [hE] at HD ⊢
  have n3 : (gs[i].ms.length : Int) ≤ 9223372036854775807 := by unfold maxLen at n2; omega
  generalize gs[i].nm = x at q1 HD HN
  generalize gs[i].ms = ms at q2 HM HD HF2 n3
  clear hE hv hr q q3 hf1 hf2 n1 n2
  have hB : Below w.heap.size w (w.alloc (.cells #[.string (bsl x), .slice Am ms.length cm] 58)) := (Below.refl _ _).alloc (Nat.le_refl _) _
  have HB := Lib.hid hB
  have HVa := Lib.hid ((HV.out.below hB (Nat.le_refl _)).more hB.size)
  have HTa := Lib.hid ((HTk.out.below hB (Nat.le_refl _)).more hB.size)
  have HMa := Lib.hid ((HM.out.below hB (Nat.le_refl _)).more hB.size)
  have HK := Lib.hid (heap_alloc_new w (Obj.cells #[.string (bsl x), .slice Am ms.length cm] 58))
  clear hB HV HM HTk
  cases hn : isName x
  · rw [hn] at HN
    have HE : Hid (E = 1) := Lib.hid (by rw [HD.out, if_neg (by rw [hn]; exact Bool.false_ne_true)])
    clear hn HD
    go_enter Tryd.func13, Tryd.ntmps13
    go_wp2_with fail
    with_reducible refine (HN.out _).mono ?_
    rintro e w1 ⟨rfl, rfl⟩
    go_wp2
    go_ret
    exact ⟨ret_int (by rw [HE.out]; rfl), HB.out⟩
  · rw [hn] at HN
    have HE : Hid (E = if has (gs.take i) x then 5 else if 24 < ms.length then 3 else firstE (memErr gs) ms) := Lib.hid (by rw [HD.out, if_pos hn])
    clear hn HD
    have HX := Lib.hid (fun W (h : RdG W W.heap.size (.slice (some ⟨g, o, none⟩) i c) (gs.take i)) => exists_any (.slice (some ⟨g, o, none⟩) i c) (gs.take i) x W h)
    cases hh : has (gs.take i) x
    · have HE2 : Hid (E = if 24 < ms.length then 3 else firstE (memErr gs) ms) := Lib.hid (by rw [HE.out, if_neg (by rw [hh]; exact Bool.false_ne_true)])
      rw [hh] at HX
      clear hh HE
      by_cases h24 : 24 < ms.length
      · have HE3 : Hid (E = 3) := Lib.hid (by rw [HE2.out, if_pos h24])
        have d24 : (24 : Int) < (ms.length : Int) := by omega
        clear h24 HE2
        go_enter Tryd.func13, Tryd.ntmps13
        go_wp2_with fail
        with_reducible refine (HN.out _).mono ?_
        rintro e w1 ⟨rfl, rfl⟩
        go_wp2_with fail
        generalize hW1 : w.alloc (.cells #[.string (bsl x), .slice Am ms.length cm] 58) = W1 at HB HVa HTa HMa HK ⊢
        have HC := Lib.hid (HX.out W1.drew (HTa.out.keep fun _ _ => rfl))
        have c0 : W1.cell? ⟨w.heap.size, 0, none⟩ = some (.string (bsl x)) := cell_heap HK.out rfl
        have hlt : w.heap.size < W1.heap.size := (Array.getElem?_eq_some_iff.1 HK.out).1
        clear hW1 q1 q2 HX
        go_region_with (with_reducible refine (HC.out).mono ?_; rintro e w3 ⟨rfl, hb3⟩)
        all_goals
          have hb4 : Below W1.heap.size W1 w3 := (Below.refl _ _).drew.trans hb3
          have c1 : w3.cell? ⟨w.heap.size, 1, none⟩ = some (.slice Am ms.length cm) := (hb4.cell (p := ⟨w.heap.size, 1, none⟩) hlt).trans (cell_heap HK.out rfl)
          have HB4 := Lib.hid (HB.out.trans (hb4.mono HB.out.size))
          clear hb3 hb4 c0
          go_wp2
          go_ret
          exact ⟨ret_int (by rw [HE3.out]; rfl), HB4.out⟩
      · have HE3 : Hid (E = firstE (memErr gs) ms) := Lib.hid (by rw [HE2.out, if_neg h24])
        have d24 : ¬ (24 : Int) < (ms.length : Int) := by omega
        clear h24 HE2
        go_enter Tryd.func13, Tryd.ntmps13
        go_wp2_with fail
        with_reducible refine (HN.out _).mono ?_
        rintro e w1 ⟨rfl, rfl⟩
        go_wp2_with fail
        generalize hW1 : w.alloc (.cells #[.string (bsl x), .slice Am ms.length cm] 58) = W1 at HB HVa HTa HMa HK ⊢
        have HC := Lib.hid (HX.out W1.drew (HTa.out.keep fun _ _ => rfl))
        have c0 : W1.cell? ⟨w.heap.size, 0, none⟩ = some (.string (bsl x)) := cell_heap HK.out rfl
        have hlt : w.heap.size < W1.heap.size := (Array.getElem?_eq_some_iff.1 HK.out).1
        clear hW1 q1 q2 HX
        go_region_with (with_reducible refine (HC.out).mono ?_; rintro e w3 ⟨rfl, hb3⟩)
        all_goals
          have hb4 : Below W1.heap.size W1 w3 := (Below.refl _ _).drew.trans hb3
          have c1 : w3.cell? ⟨w.heap.size, 1, none⟩ = some (.slice Am ms.length cm) := (hb4.cell (p := ⟨w.heap.size, 1, none⟩) hlt).trans (cell_heap HK.out rfl)
          have HB4 := Lib.hid (HB.out.trans (hb4.mono HB.out.size))
          have HF := Lib.hid (firstMember_any (.slice (some ⟨g, o, none⟩) gs.length c) (.slice Am ms.length cm) gs ms w3 ((HVa.out.below hb4 (Nat.le_refl _)).more hb4.size) ((HMa.out.below hb4 (Nat.le_refl _)).more hb4.size) HF2.out)
          clear hb3 hb4 c0
          go_wp2_with fail
          with_reducible refine (HF.out).mono ?_
          rintro e w5 ⟨rfl, hb5⟩
          have HB5 := Lib.hid (HB4.out.trans (hb5.mono HB4.out.size))
          clear hb5
          go_wp2
          go_ret
          exact ⟨ret_int (by rw [HE3.out]), HB5.out⟩
    · have HE2 : Hid (E = 5) := Lib.hid (by rw [HE.out, if_pos hh])
      rw [hh] at HX
      clear hh HE
      go_enter Tryd.func13, Tryd.ntmps13
      go_wp2_with fail
      with_reducible refine (HN.out _).mono ?_
      rintro e w1 ⟨rfl, rfl⟩
      go_wp2_with fail
      generalize hW1 : w.alloc (.cells #[.string (bsl x), .slice Am ms.length cm] 58) = W1 at HB HVa HTa HMa HK ⊢
      have HC := Lib.hid (HX.out W1.drew (HTa.out.keep fun _ _ => rfl))
      have c0 : W1.cell? ⟨w.heap.size, 0, none⟩ = some (.string (bsl x)) := cell_heap HK.out rfl
      clear hW1 q1 q2 HX
      go_region_with (with_reducible refine (HC.out).mono ?_; rintro e w3 ⟨rfl, hb3⟩)
      all_goals
        have HB4 := Lib.hid (HB.out.trans (((Below.refl _ _).drew.trans hb3).mono HB.out.size))
        clear hb3
        go_wp2
        go_ret
        exact ⟨ret_int (by rw [HE2.out]; rfl), HB4.out⟩
end Go.Proofs.YtbibekojbjonoaaDoor.Po
