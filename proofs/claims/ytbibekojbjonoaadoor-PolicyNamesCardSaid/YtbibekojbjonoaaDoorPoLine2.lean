/-
  The contract of readLine of package policy: lines that state a rule or a guard.
-/
import Derived.Test.YtbibekojbjonoaaDoorPoLine
namespace Go.Proofs.YtbibekojbjonoaaDoor.Po
open Go.RowKit Go.Shelf
set_option linter.unusedVariables false
set_option linter.unusedSimpArgs false

set_option maxRecDepth 100000 in
set_option maxHeartbeats 8000000 in
theorem readLine_allow {lo gp : Nat} {P : Pol} {gv rv dv : Value} {L : List Gv} (l : By) (w : World) (h : PS lo gp w P gv rv dv L) (ht : Tb w) (ha : (cw l).1 = wAllow) (hs : l.length ≤ 100000) (hz : P.rs.length ≤ 100000) :
    Calls Tryd.prog 12 #[.pointer (some ⟨gp, 0, none⟩), .string (bsl l)] w fun e w' => e = .returned (.bool (ruleOK (cw l).2)) ∧ (∃ rv', PS lo gp w' ⟨P.gs, P.rs ++ [mkRul true (cw l).2], P.ds⟩ gv rv' dv L) ∧ Fr lo gp w w' := by
  obtain ⟨i0, hi0, hz0, hz1, hz2⟩ := info_parts rulInfo
  have hl := cw_len l
  have HC := Lib.hid (cutWord_any l w (by omega))
  rw [ha] at HC
  have HP := Lib.hid (fun W => HasHash wAllow W)
  have HG := Lib.hid (fun W ht => readRule_any (cw l).2 W (by omega) ht)
  generalize (cw l).2 = r at HC HG ⊢
  generalize ruleOK r = ok at HG ⊢
  have hx : RulV (mkRul false r) = .agg #[.bool false, .int .i64 (mkRul true r).ri, .string (bsl (mkRul true r).gr), .int .i64 (mkRul true r).kd, .int .i64 (mkRul true r).sp, .string (bsl (mkRul true r).tn)] := rfl
  rw [hx] at HG
  clear hx
  have HE : Hid (encR (mkRul true r) = [.bool true, .int .i64 (mkRul true r).ri, .string (bsl (mkRul true r).gr), .int .i64 (mkRul true r).kd, .int .i64 (mkRul true r).sp, .string (bsl (mkRul true r).tn)]) := Lib.hid rfl
  generalize mkRul true r = x at HG HE ⊢
  obtain ⟨A, c, rfl⟩ := OwnR.form h.orr
  have HH := Lib.hid h
  have HT := Lib.hid ht
  have hgl := h.lt
  have hls := h.ls
  clear h ha hl ht
  rw [show (bsl wAllow) = ⟨#[97, 108, 108, 111, 119]⟩ from rfl] at HC HP
  rw [show Lib.hasPrefix wAllow [35] = false from by decide] at HP
  go_enter Tryd.func12, Tryd.ntmps12
  go_wp2_with fail
  with_reducible refine (HC.out).mono ?_
  rintro e w1 ⟨rfl, hb1⟩
  have H1 := Lib.hid (HH.out.step hb1)
  have T1 := Lib.hid (HT.out.below hb1)
  have F1 : Hid (Fr lo gp w w1) := Lib.hid (Fr.of hb1 hls)
  have hs1 := hb1.size
  clear hb1 HH HC HT
  go_wp2_with fail
  with_reducible refine (HP.out _).mono ?_
  rintro e w2 ⟨rfl, hw2⟩
  have hw3 := hw2.symm
  subst hw3
  clear hw2
  go_wp2_with fail
  with_reducible refine (HG.out _ T1.out).mono ?_
  rintro e w2 ⟨rfl, hb2⟩
  have H2 := Lib.hid (H1.out.step hb2)
  have F2 : Hid (Fr lo gp w w2) := Lib.hid (F1.out.trans (Fr.of hb2 (by omega)))
  have hs2 := hb2.size
  clear hb2 H1 F1 HG T1
  go_wp2_with fail
  have hb3 : Below w2.heap.size w2 (w2.alloc (.cells #[.bool true, .int .i64 x.ri, .string (bsl x.gr), .int .i64 x.kd, .int .i64 x.sp, .string (bsl x.tn)] 48)) := (Below.refl _ _).alloc (Nat.le_refl _) _
  have H3 := Lib.hid (H2.out.step hb3)
  have F3 : Hid (Fr lo gp w (w2.alloc (.cells #[.bool true, .int .i64 x.ri, .string (bsl x.gr), .int .i64 x.kd, .int .i64 x.sp, .string (bsl x.tn)] 48))) := Lib.hid (F2.out.trans (Fr.of hb3 (by omega)))
  have hog2 : ∀ g, (Value.slice A P.rs.length c).ownBlock = some g → g < w2.heap.size := fun g e => (World.ownsRow.lt H2.out.orr g e).2
  have hk3 := heap_alloc_new w2 (Obj.cells #[.bool true, .int .i64 x.ri, .string (bsl x.gr), .int .i64 x.kd, .int .i64 x.sp, .string (bsl x.tn)] 48)
  have hs3 := hb3.size
  clear hb3 H2 F2
  generalize w2.heap.size = bg at hk3 hs3 hs2 hog2 ⊢
  generalize w2.alloc (.cells #[.bool true, .int .i64 x.ri, .string (bsl x.gr), .int .i64 x.kd, .int .i64 x.sp, .string (bsl x.tn)] 48) = W3 at H3 F3 hk3 hs3 ⊢
  have k0 : W3.cell? ⟨gp, 1, none⟩ = some (.slice A P.rs.length c) := cell_heap H3.out.bx rfl
  have k1 : W3.cell? ⟨bg, 0, none⟩ = some (.bool true) := cell_heap hk3 rfl
  have k2 : W3.cell? ⟨bg, 1, none⟩ = some (.int .i64 x.ri) := cell_heap hk3 rfl
  have k3 : W3.cell? ⟨bg, 2, none⟩ = some (.string (bsl x.gr)) := cell_heap hk3 rfl
  have k4 : W3.cell? ⟨bg, 3, none⟩ = some (.int .i64 x.kd) := cell_heap hk3 rfl
  have k5 : W3.cell? ⟨bg, 4, none⟩ = some (.int .i64 x.sp) := cell_heap hk3 rfl
  have k6 : W3.cell? ⟨bg, 5, none⟩ = some (.string (bsl x.tn)) := cell_heap hk3 rfl
  have lg : gp < W3.heap.size := (Array.getElem?_eq_some_iff.1 H3.out.bx).1
  have lb : bg < W3.heap.size := (Array.getElem?_eq_some_iff.1 hk3).1
  have ng : (Value.slice A P.rs.length c).ownBlock ≠ some gp := fun e => by have := (own_cells H3.out.orr gp e).1; omega
  have kfa : ∀ o, (W3.alloc o).frozen? ⟨gp, 1, none⟩ = false := fun o => by
    have : (W3.alloc o).heap[gp]? = some (.cells #[gv, .slice A P.rs.length c, dv] 29) := (Below.heap_alloc W3 o gp lg).trans H3.out.bx
    simp [World.frozen?, this]
  have kca : ∀ o, (W3.alloc o).cell? ⟨gp, 1, none⟩ = some (.slice A P.rs.length c) := fun o => by
    have : (W3.alloc o).heap[gp]? = some (.cells #[gv, .slice A P.rs.length c, dv] 29) := (Below.heap_alloc W3 o gp lg).trans H3.out.bx
    exact cell_heap this rfl
  have l3 : lo ≤ W3.heap.size := H3.out.ls
  have HO := Lib.hid H3.out.orr
  unfold OwnR at HO
  clear hk3 hs3 hs2 hs1 hog2
  go_region_law ((refine step_append_lies _ (by rfl) _ _ _ (by rfl) lo 48 i0 _ 6 64 Tryd.underlying26 hi0 hz0 hz1 hz2 rfl (by omega) (.slice A P.rs.length c) P.rs.length (P.rs.flatMap encR) (by rfl) ((World.ownsRow.alloc HO.out _).drew) ⟨W3.heap.size, 0, none⟩ 1 1 [.bool true, .int .i64 x.ri, .string (bsl x.gr), .int .i64 x.kd, .int .i64 x.sp, .string (bsl x.tn)] (by rfl) (by rfl) (World.news_of_block (cs := #[.bool true, .int .i64 x.ri, .string (bsl x.gr), .int .i64 x.kd, .int .i64 x.sp, .string (bsl x.tn)]) (t := 48) (fr := (0, 0)) (heap_alloc_new W3 _)) (by simp [Value.oneCell']) (by omega) (by simp only [maxLen]; omega) (by omega) (by simp; omega) (W3.heap.size + 1) (by simp) ?_; intro gg cap w4 hown hgrow hat hlt; have k9 : w4.cell? ⟨gp, 1, none⟩ = some (.slice A P.rs.length c) := (hgrow.cell_far _ (by simp; omega) (Ne.symm ng)).trans (kca _); have kf9 : w4.frozen? ⟨gp, 1, none⟩ = false := (hgrow.frozen_far _ (by simp; omega) (Ne.symm ng)).trans (kfa _); clear hat hlt))
  all_goals
    have hbA : Below W3.heap.size W3 (W3.alloc (.cells #[.bool true, .int .i64 x.ri, .string (bsl x.gr), .int .i64 x.kd, .int .i64 x.sp, .string (bsl x.tn)] 48)).drew := ((Below.refl _ _).alloc (Nat.le_refl _) _).drew
    have hA := PS.addR (H3.out.step hbA) hgrow (snocR (p := x) (by rw [HE.out]; exact hown))
    have HA : Hid ((∃ rv', PS lo gp (w4.setCell ⟨gp, 1, none⟩ (.slice (some ⟨gg, 0, none⟩) (P.rs.length + 1) cap)) ⟨P.gs, P.rs ++ [x], P.ds⟩ gv rv' dv L) ∧ Fr lo gp w (w4.setCell ⟨gp, 1, none⟩ (.slice (some ⟨gg, 0, none⟩) (P.rs.length + 1) cap))) := Lib.hid ⟨⟨_, hA.1⟩, F3.out.trans ((Fr.of hbA l3).trans hA.2)⟩
    clear hbA hA hown hgrow k9 kf9 HO H3 F3 kfa kca
    go_wp2
    go_ret
    exact ⟨rfl, HA.out.1, HA.out.2⟩
set_option maxRecDepth 100000 in
set_option maxHeartbeats 8000000 in
theorem readLine_deny {lo gp : Nat} {P : Pol} {gv rv dv : Value} {L : List Gv} (l : By) (w : World) (h : PS lo gp w P gv rv dv L) (ht : Tb w) (ha : (cw l).1 = wDeny) (hs : l.length ≤ 100000) (hz : P.rs.length ≤ 100000) :
    Calls Tryd.prog 12 #[.pointer (some ⟨gp, 0, none⟩), .string (bsl l)] w fun e w' => e = .returned (.bool (ruleOK (cw l).2)) ∧ (∃ rv', PS lo gp w' ⟨P.gs, P.rs ++ [mkRul false (cw l).2], P.ds⟩ gv rv' dv L) ∧ Fr lo gp w w' := by
  obtain ⟨i0, hi0, hz0, hz1, hz2⟩ := info_parts rulInfo
  have hl := cw_len l
  have HC := Lib.hid (cutWord_any l w (by omega))
  rw [ha] at HC
  have HP := Lib.hid (fun W => HasHash wDeny W)
  have HG := Lib.hid (fun W ht => readRule_any (cw l).2 W (by omega) ht)
  generalize (cw l).2 = r at HC HG ⊢
  generalize ruleOK r = ok at HG ⊢
  have hx : RulV (mkRul false r) = .agg #[.bool false, .int .i64 (mkRul false r).ri, .string (bsl (mkRul false r).gr), .int .i64 (mkRul false r).kd, .int .i64 (mkRul false r).sp, .string (bsl (mkRul false r).tn)] := rfl
  rw [hx] at HG
  clear hx
  have HE : Hid (encR (mkRul false r) = [.bool false, .int .i64 (mkRul false r).ri, .string (bsl (mkRul false r).gr), .int .i64 (mkRul false r).kd, .int .i64 (mkRul false r).sp, .string (bsl (mkRul false r).tn)]) := Lib.hid rfl
  generalize mkRul false r = x at HG HE ⊢
  obtain ⟨A, c, rfl⟩ := OwnR.form h.orr
  have HH := Lib.hid h
  have HT := Lib.hid ht
  have hgl := h.lt
  have hls := h.ls
  clear h ha hl ht
  rw [show (bsl wDeny) = ⟨#[100, 101, 110, 121]⟩ from rfl] at HC HP
  rw [show Lib.hasPrefix wDeny [35] = false from by decide] at HP
  go_enter Tryd.func12, Tryd.ntmps12
  go_wp2_with fail
  with_reducible refine (HC.out).mono ?_
  rintro e w1 ⟨rfl, hb1⟩
  have H1 := Lib.hid (HH.out.step hb1)
  have T1 := Lib.hid (HT.out.below hb1)
  have F1 : Hid (Fr lo gp w w1) := Lib.hid (Fr.of hb1 hls)
  have hs1 := hb1.size
  clear hb1 HH HC HT
  go_wp2_with fail
  with_reducible refine (HP.out _).mono ?_
  rintro e w2 ⟨rfl, hw2⟩
  have hw3 := hw2.symm
  subst hw3
  clear hw2
  go_wp2_with fail
  with_reducible refine (HG.out _ T1.out).mono ?_
  rintro e w2 ⟨rfl, hb2⟩
  have H2 := Lib.hid (H1.out.step hb2)
  have F2 : Hid (Fr lo gp w w2) := Lib.hid (F1.out.trans (Fr.of hb2 (by omega)))
  have hs2 := hb2.size
  clear hb2 H1 F1 HG T1
  go_wp2_with fail
  have hb3 : Below w2.heap.size w2 (w2.alloc (.cells #[.bool false, .int .i64 x.ri, .string (bsl x.gr), .int .i64 x.kd, .int .i64 x.sp, .string (bsl x.tn)] 48)) := (Below.refl _ _).alloc (Nat.le_refl _) _
  have H3 := Lib.hid (H2.out.step hb3)
  have F3 : Hid (Fr lo gp w (w2.alloc (.cells #[.bool false, .int .i64 x.ri, .string (bsl x.gr), .int .i64 x.kd, .int .i64 x.sp, .string (bsl x.tn)] 48))) := Lib.hid (F2.out.trans (Fr.of hb3 (by omega)))
  have hog2 : ∀ g, (Value.slice A P.rs.length c).ownBlock = some g → g < w2.heap.size := fun g e => (World.ownsRow.lt H2.out.orr g e).2
  have hk3 := heap_alloc_new w2 (Obj.cells #[.bool false, .int .i64 x.ri, .string (bsl x.gr), .int .i64 x.kd, .int .i64 x.sp, .string (bsl x.tn)] 48)
  have hs3 := hb3.size
  clear hb3 H2 F2
  generalize w2.heap.size = bg at hk3 hs3 hs2 hog2 ⊢
  generalize w2.alloc (.cells #[.bool false, .int .i64 x.ri, .string (bsl x.gr), .int .i64 x.kd, .int .i64 x.sp, .string (bsl x.tn)] 48) = W3 at H3 F3 hk3 hs3 ⊢
  have k0 : W3.cell? ⟨gp, 1, none⟩ = some (.slice A P.rs.length c) := cell_heap H3.out.bx rfl
  have k1 : W3.cell? ⟨bg, 0, none⟩ = some (.bool false) := cell_heap hk3 rfl
  have k2 : W3.cell? ⟨bg, 1, none⟩ = some (.int .i64 x.ri) := cell_heap hk3 rfl
  have k3 : W3.cell? ⟨bg, 2, none⟩ = some (.string (bsl x.gr)) := cell_heap hk3 rfl
  have k4 : W3.cell? ⟨bg, 3, none⟩ = some (.int .i64 x.kd) := cell_heap hk3 rfl
  have k5 : W3.cell? ⟨bg, 4, none⟩ = some (.int .i64 x.sp) := cell_heap hk3 rfl
  have k6 : W3.cell? ⟨bg, 5, none⟩ = some (.string (bsl x.tn)) := cell_heap hk3 rfl
  have lg : gp < W3.heap.size := (Array.getElem?_eq_some_iff.1 H3.out.bx).1
  have lb : bg < W3.heap.size := (Array.getElem?_eq_some_iff.1 hk3).1
  have ng : (Value.slice A P.rs.length c).ownBlock ≠ some gp := fun e => by have := (own_cells H3.out.orr gp e).1; omega
  have kfa : ∀ o, (W3.alloc o).frozen? ⟨gp, 1, none⟩ = false := fun o => by
    have : (W3.alloc o).heap[gp]? = some (.cells #[gv, .slice A P.rs.length c, dv] 29) := (Below.heap_alloc W3 o gp lg).trans H3.out.bx
    simp [World.frozen?, this]
  have kca : ∀ o, (W3.alloc o).cell? ⟨gp, 1, none⟩ = some (.slice A P.rs.length c) := fun o => by
    have : (W3.alloc o).heap[gp]? = some (.cells #[gv, .slice A P.rs.length c, dv] 29) := (Below.heap_alloc W3 o gp lg).trans H3.out.bx
    exact cell_heap this rfl
  have l3 : lo ≤ W3.heap.size := H3.out.ls
  have HO := Lib.hid H3.out.orr
  unfold OwnR at HO
  clear hk3 hs3 hs2 hs1 hog2
  go_region_law ((refine step_append_lies _ (by rfl) _ _ _ (by rfl) lo 48 i0 _ 6 64 Tryd.underlying26 hi0 hz0 hz1 hz2 rfl (by omega) (.slice A P.rs.length c) P.rs.length (P.rs.flatMap encR) (by rfl) ((World.ownsRow.alloc HO.out _).drew) ⟨W3.heap.size, 0, none⟩ 1 1 [.bool false, .int .i64 x.ri, .string (bsl x.gr), .int .i64 x.kd, .int .i64 x.sp, .string (bsl x.tn)] (by rfl) (by rfl) (World.news_of_block (cs := #[.bool false, .int .i64 x.ri, .string (bsl x.gr), .int .i64 x.kd, .int .i64 x.sp, .string (bsl x.tn)]) (t := 48) (fr := (0, 0)) (heap_alloc_new W3 _)) (by simp [Value.oneCell']) (by omega) (by simp only [maxLen]; omega) (by omega) (by simp; omega) (W3.heap.size + 1) (by simp) ?_; intro gg cap w4 hown hgrow hat hlt; have k9 : w4.cell? ⟨gp, 1, none⟩ = some (.slice A P.rs.length c) := (hgrow.cell_far _ (by simp; omega) (Ne.symm ng)).trans (kca _); have kf9 : w4.frozen? ⟨gp, 1, none⟩ = false := (hgrow.frozen_far _ (by simp; omega) (Ne.symm ng)).trans (kfa _); clear hat hlt))
  all_goals
    have hbA : Below W3.heap.size W3 (W3.alloc (.cells #[.bool false, .int .i64 x.ri, .string (bsl x.gr), .int .i64 x.kd, .int .i64 x.sp, .string (bsl x.tn)] 48)).drew := ((Below.refl _ _).alloc (Nat.le_refl _) _).drew
    have hA := PS.addR (H3.out.step hbA) hgrow (snocR (p := x) (by rw [HE.out]; exact hown))
    have HA : Hid ((∃ rv', PS lo gp (w4.setCell ⟨gp, 1, none⟩ (.slice (some ⟨gg, 0, none⟩) (P.rs.length + 1) cap)) ⟨P.gs, P.rs ++ [x], P.ds⟩ gv rv' dv L) ∧ Fr lo gp w (w4.setCell ⟨gp, 1, none⟩ (.slice (some ⟨gg, 0, none⟩) (P.rs.length + 1) cap))) := Lib.hid ⟨⟨_, hA.1⟩, F3.out.trans ((Fr.of hbA l3).trans hA.2)⟩
    clear hbA hA hown hgrow k9 kf9 HO H3 F3 kfa kca
    go_wp2
    go_ret
    exact ⟨rfl, HA.out.1, HA.out.2⟩
end Go.Proofs.YtbibekojbjonoaaDoor.Po
