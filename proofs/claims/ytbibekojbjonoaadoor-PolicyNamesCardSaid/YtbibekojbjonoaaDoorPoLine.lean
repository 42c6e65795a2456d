/-
  The contract of readLine of package policy: a line that declares a group.
-/
import Derived.Test.YtbibekojbjonoaaDoorPoSt
namespace Go.Proofs.YtbibekojbjonoaaDoor.Po
open Go.RowKit Go.Shelf
set_option linter.unusedVariables false
set_option linter.unusedSimpArgs false

theorem OwnV.form {w : World} {base : Nat} {v : Value} {l : List Gv} (h : OwnV w base v l) : ∃ A c, v = .slice A l.length c := by
  obtain ⟨A, c, h1, _⟩ := h.rd.ex
  exact ⟨A, c, h1⟩
theorem OwnR.form {w : World} {base : Nat} {v : Value} {l : List Rul} (h : OwnR w base v l) : ∃ A c, v = .slice A l.length c := by
  obtain ⟨A, c, h1, _⟩ := h.rd.ex
  exact ⟨A, c, h1⟩
theorem OwnD.form {w : World} {base : Nat} {v : Value} {l : List Gud} (h : OwnD w base v l) : ∃ A c, v = .slice A l.length c := by
  obtain ⟨A, c, h1, _⟩ := h.rd.ex
  exact ⟨A, c, h1⟩
theorem HasHash (m : By) (w : World) : Calls Tryd.prog 20 #[.string (bsl m), .string ⟨#[35]⟩] w fun e w' => e = .returned (.bool (Lib.hasPrefix m [35])) ∧ w' = w :=
  Tryd.strings_HasPrefix (bsl m) ⟨#[35]⟩ w
set_option maxRecDepth 100000 in
set_option maxHeartbeats 8000000 in
theorem readLine_group {lo gp : Nat} {P : Pol} {gv rv dv : Value} {L : List Gv} (l : By) (w : World) (h : PS lo gp w P gv rv dv L) (ha : (cw l).1 = wGroup) (hs : l.length ≤ 100000) (hz : P.gs.length ≤ 100000) :
    Calls Tryd.prog 12 #[.pointer (some ⟨gp, 0, none⟩), .string (bsl l)] w fun e w' => e = .returned (.bool (grpOK (cw l).2)) ∧ (∃ gv' L', PS lo gp w' ⟨P.gs ++ [⟨(cw (cw l).2).1, words (cw (cw l).2).2⟩], P.rs, P.ds⟩ gv' rv dv L') ∧ Fr lo gp w w' := by
  obtain ⟨i0, hi0, hz0, hz1, hz2⟩ := info_parts grpInfo
  have hl := cw_len l
  have HC := Lib.hid (cutWord_any l w (by omega))
  rw [ha] at HC
  have HP := Lib.hid (fun W => HasHash wGroup W)
  have HG := Lib.hid (fun W => readGroup_any (cw l).2 W (by omega))
  generalize (cw l).2 = r at HC HG ⊢
  have HN := Lib.hid (fun (x : By) => (rfl : bsl x = bsl x))
  generalize (cw r).1 = nm at HG ⊢
  generalize words (cw r).2 = ms at HG ⊢
  generalize grpOK r = ok at HG ⊢
  have hzL : L.length ≤ 100000 := by rw [h.sb.1]; exact hz
  obtain ⟨A, c, rfl⟩ := h.og.form
  have HH := Lib.hid h
  have hgl := h.lt
  have hls := h.ls
  clear h ha hl hz HN
  have e0 : (bsl wGroup).toList = [103, 114, 111, 117, 112] := by rw [bsl_toList]; rfl
  have e1 : Lib.hasPrefix wGroup [35] = false := by decide
  rw [show (bsl wGroup) = ⟨#[103, 114, 111, 117, 112]⟩ from rfl] at HC HP
  rw [show Lib.hasPrefix wGroup [35] = false from by decide] at HP
  clear e0 e1
  go_enter Tryd.func12, Tryd.ntmps12
  go_wp2_with fail
  with_reducible refine (HC.out).mono ?_
  rintro e w1 ⟨rfl, hb1⟩
  have H1 := Lib.hid (HH.out.step hb1)
  have F1 : Hid (Fr lo gp w w1) := Lib.hid (Fr.of hb1 hls)
  have hs1 := hb1.size
  clear hb1 HH HC
  go_wp2_with fail
  with_reducible refine (HP.out _).mono ?_
  rintro e w2 ⟨rfl, hw2⟩
  have hw3 := hw2.symm
  subst hw3
  clear hw2
  go_wp2_with fail
  with_reducible refine (HG.out _).mono ?_
  rintro e w2 ⟨A2, c2, rfl, ho2, hb2⟩
  have H2 := Lib.hid (H1.out.step hb2)
  have F2 : Hid (Fr lo gp w w2) := Lib.hid (F1.out.trans (Fr.of hb2 (by omega)))
  have hs2 := hb2.size
  have O2 : Hid (OwnS w2 lo (.slice A2 ms.length c2) ms) := Lib.hid (row_mono ho2 (by omega))
  clear hb2 ho2 H1 F1 HG
  go_wp2_with fail
  have hb3 : Below w2.heap.size w2 (w2.alloc (.cells #[.string (bsl nm), .slice A2 ms.length c2] 58)) := (Below.refl _ _).alloc (Nat.le_refl _) _
  have H3 := Lib.hid (H2.out.step hb3)
  have F3 : Hid (Fr lo gp w (w2.alloc (.cells #[.string (bsl nm), .slice A2 ms.length c2] 58))) := Lib.hid (F2.out.trans (Fr.of hb3 (by omega)))
  have O3 := Lib.hid (O2.out.below hb3 (Nat.le_refl _))
  have hog2 : ∀ g, (Value.slice A L.length c).ownBlock = some g → g < w2.heap.size := fun g e => (World.ownsRow.lt H2.out.og g e).2
  have hk3 := heap_alloc_new w2 (Obj.cells #[.string (bsl nm), .slice A2 ms.length c2] 58)
  have hs3 := hb3.size
  clear hb3 H2 F2 O2
  generalize w2.heap.size = bg at hk3 hs3 hs2 hog2 ⊢
  generalize w2.alloc (.cells #[.string (bsl nm), .slice A2 ms.length c2] 58) = W3 at H3 F3 O3 hk3 hs3 ⊢
  have k0 : W3.cell? ⟨gp, 0, none⟩ = some (.slice A L.length c) := cell_heap H3.out.bx rfl
  have k1 : W3.cell? ⟨bg, 0, none⟩ = some (.string (bsl nm)) := cell_heap hk3 rfl
  have k2 : W3.cell? ⟨bg, 1, none⟩ = some (.slice A2 ms.length c2) := cell_heap hk3 rfl
  have lg : gp < W3.heap.size := (Array.getElem?_eq_some_iff.1 H3.out.bx).1
  have lb : bg < W3.heap.size := (Array.getElem?_eq_some_iff.1 hk3).1
  have ng : (Value.slice A L.length c).ownBlock ≠ some gp := fun e => by have := (own_cells H3.out.og gp e).1; omega
  have nb : (Value.slice A L.length c).ownBlock ≠ some bg := fun e => by have := hog2 bg e; omega
  have kf : W3.frozen? ⟨gp, 0, none⟩ = false := by simp [World.frozen?, H3.out.bx]
  have kfa : ∀ o, (W3.alloc o).frozen? ⟨gp, 0, none⟩ = false := fun o => by
    have : (W3.alloc o).heap[gp]? = some (.cells #[.slice A L.length c, rv, dv] 29) := (Below.heap_alloc W3 o gp lg).trans H3.out.bx
    simp [World.frozen?, this]
  have kca : ∀ o, (W3.alloc o).cell? ⟨gp, 0, none⟩ = some (.slice A L.length c) := fun o => by
    have : (W3.alloc o).heap[gp]? = some (.cells #[.slice A L.length c, rv, dv] 29) := (Below.heap_alloc W3 o gp lg).trans H3.out.bx
    exact cell_heap this rfl
  have l3 : lo ≤ W3.heap.size := H3.out.ls
  clear hog2
  have HO := Lib.hid H3.out.og
  unfold OwnV at HO
  clear hk3 hs3 hs2 hs1
  go_region_law ((refine step_append_lies _ (by rfl) _ _ _ (by rfl) lo 58 i0 _ 2 40 Tryd.underlying25 hi0 hz0 hz1 hz2 rfl (by omega) (.slice A L.length c) L.length (L.flatMap encG) (by rfl) ((World.ownsRow.alloc HO.out _).drew) ⟨W3.heap.size, 0, none⟩ 1 1 [.string (bsl nm), .slice A2 ms.length c2] (by rfl) (by rfl) (World.news_of_block (cs := #[.string (bsl nm), .slice A2 ms.length c2]) (t := 58) (fr := (0, 0)) (heap_alloc_new W3 _)) (by simp [Value.oneCell']) (by omega) (by simp only [maxLen]; omega) (by omega) (by simp; omega) (W3.heap.size + 1) (by simp) ?_; intro gg cap w4 hown hgrow hat hlt; have k4 : w4.cell? ⟨gp, 0, none⟩ = some (.slice A L.length c) := (hgrow.cell_far _ (by simp; omega) (Ne.symm ng)).trans (kca _); have kf4 : w4.frozen? ⟨gp, 0, none⟩ = false := (hgrow.frozen_far _ (by simp; omega) (Ne.symm ng)).trans (kfa _); clear hat hlt))
  all_goals
    have hbA : Below W3.heap.size W3 (W3.alloc (.cells #[.string (bsl nm), .slice A2 ms.length c2] 58)).drew := ((Below.refl _ _).alloc (Nat.le_refl _) _).drew
    have hA := PS.addG (H3.out.step hbA) (nm := nm) (ms := ms) (O3.out.below hbA (Nat.le_refl _)) hgrow (snocV (p := (nm, .slice A2 ms.length c2)) hown)
    have HA : Hid ((∃ gv' L', PS lo gp (w4.setCell ⟨gp, 0, none⟩ (.slice (some ⟨gg, 0, none⟩) (L.length + 1) cap)) ⟨P.gs ++ [⟨nm, ms⟩], P.rs, P.ds⟩ gv' rv dv L') ∧ Fr lo gp w (w4.setCell ⟨gp, 0, none⟩ (.slice (some ⟨gg, 0, none⟩) (L.length + 1) cap))) := Lib.hid ⟨⟨_, _, hA.1⟩, F3.out.trans ((Fr.of hbA l3).trans hA.2)⟩
    clear hbA hA hown hgrow k4 kf4 HO H3 F3 O3 kfa kca
    go_wp2
    go_ret
    exact ⟨rfl, HA.out.1, HA.out.2⟩
end Go.Proofs.YtbibekojbjonoaaDoor.Po
