/-
  The contracts of readGroup, readRule and readGuard of package policy.
-/
import Derived.Test.YtbibekojbjonoaaDoorPoRead
namespace Go.Proofs.YtbibekojbjonoaaDoor.Po
open Go.RowKit Go.Shelf
set_option linter.unusedVariables false
set_option linter.unusedSimpArgs false

def grpOK (l : By) : Bool := !decide ((cw l).1 = [])
def ruleOK (l : By) : Bool := knownR (cw l).1 && (scope (cw (cw l).2).2).ok
def gudOK (l : By) : Bool := decide ((Ti.parse (tr (Lib.cut (cw l).2 [124]).1)).2 = 0) && !forgot (cw l).2
def RulV (r : Rul) : Value := .agg #[.bool r.al, .int .i64 r.ri, .string (bsl r.gr), .int .i64 r.kd, .int .i64 r.sp, .string (bsl r.tn)]
def GudV (d : Gud) : Value := .agg #[.bool d.st, .string (bsl d.gr), .int .i64 d.sp, .string (bsl d.tn), .string (bsl d.se)]
theorem OwnS.form {w : World} {base : Nat} {v : Value} {l : List By} (h : OwnS w base v l) : ∃ A c, v = .slice A l.length c := by
  obtain ⟨A, c, h1, _⟩ := h.rd.ex
  exact ⟨A, c, h1⟩
set_option maxRecDepth 100000 in
set_option maxHeartbeats 4000000 in
theorem readGroup_any (l : By) (w : World) (hs : l.length ≤ 100000) : Calls Tryd.prog 21 #[.string (bsl l)] w fun e w' => ∃ A c, e = .returned (.tuple #[.agg #[.string (bsl (cw l).1), .slice A (words (cw l).2).length c], .bool (grpOK l)]) ∧ OwnS w' w.heap.size (.slice A (words (cw l).2).length c) (words (cw l).2) ∧ Below w.heap.size w w' := by
  have hb0 : ∀ cs, Below w.heap.size w (w.alloc (.cells cs 58)) := fun cs => (Below.refl _ _).alloc (Nat.le_refl _) _
  have HB0 := Lib.hid hb0
  have hl := cw_len l
  have HC := Lib.hid (fun W => cutWord_any l W (by omega))
  have HW := Lib.hid (fun W => words_any (cw l).2 W (by omega))
  have HG : Hid (grpOK l = !decide ((cw l).1 = [])) := Lib.hid rfl
  generalize grpOK l = ok at HG ⊢
  generalize (cw l).1 = a at HC HG
  generalize (cw l).2 = r at HC HW
  clear hb0 hl
  by_cases h0 : a = []
  · have HO : Hid (ok = false) := Lib.hid (by rw [HG.out, decide_eq_true h0]; rfl)
    rw [h0, show bsl ([] : By) = ⟨#[]⟩ from rfl] at HC ⊢
    clear h0 HG
    go_enter Tryd.func21, Tryd.ntmps21
    go_wp2_with fail
    with_reducible refine (HC.out _).mono ?_
    rintro e w1 ⟨rfl, hb⟩
    obtain ⟨hc, hf⟩ := bcell hb
    have hz : w.heap.size < w1.heap.size := by have := hb.size; simp at this; omega
    have HB := Lib.hid ((HB0.out _).trans (hb.mono (by simp)))
    clear hb
    go_wp2_with fail
    with_reducible refine (HW.out _).mono ?_
    rintro e w2 ⟨v, rfl, ho, hb2⟩
    obtain ⟨A, c, rfl⟩ := ho.form
    have HOw := Lib.hid ho
    obtain ⟨hc2, hf2⟩ := bcell hb2
    have hz2 : w.heap.size < w2.heap.size := by have := hb2.size; omega
    have HB2 := Lib.hid (HB.out.trans (hb2.mono HB.out.size))
    clear hb2 ho
    go_wp2
    refine bodyPost_ret (v := .tuple #[.agg #[.string ⟨#[]⟩, .slice A (words r).length c], .bool false]) (by simp [results, Tryd.results21, go_sem, hc, hc2, hz, hz2]) rfl ⟨A, c, by rw [HO.out], ?_, ?_⟩
    · exact row_mono (ownsRow_setCell_below (ownsRow_setCell_below HOw.out (a := ⟨w.heap.size, 0, none⟩) hz _) (a := ⟨w.heap.size, 1, none⟩) hz _) (Nat.le_of_lt hz)
    · exact (HB2.out.setCell (p := ⟨w.heap.size, 0, none⟩) (Nat.le_refl _) _).setCell (p := ⟨w.heap.size, 1, none⟩) (Nat.le_refl _) _
  · have HO : Hid (ok = true) := Lib.hid (by rw [HG.out, decide_eq_false h0]; rfl)
    obtain ⟨e1, e2⟩ := empty_no (s := bsl a) (by rw [bsl_size]; exact List.length_pos_iff.2 h0)
    clear h0 HG
    go_enter Tryd.func21, Tryd.ntmps21
    go_wp2_with fail
    with_reducible refine (HC.out _).mono ?_
    rintro e w1 ⟨rfl, hb⟩
    obtain ⟨hc, hf⟩ := bcell hb
    have hz : w.heap.size < w1.heap.size := by have := hb.size; simp at this; omega
    have HB := Lib.hid ((HB0.out _).trans (hb.mono (by simp)))
    clear hb
    go_wp2_with fail
    with_reducible refine (HW.out _).mono ?_
    rintro e w2 ⟨v, rfl, ho, hb2⟩
    obtain ⟨A, c, rfl⟩ := ho.form
    have HOw := Lib.hid ho
    obtain ⟨hc2, hf2⟩ := bcell hb2
    have hz2 : w.heap.size < w2.heap.size := by have := hb2.size; omega
    have HB2 := Lib.hid (HB.out.trans (hb2.mono HB.out.size))
    clear hb2 ho
    go_wp2
    refine bodyPost_ret (v := .tuple #[.agg #[.string (bsl a), .slice A (words r).length c], .bool true]) (by simp [results, Tryd.results21, go_sem, hc, hc2, hz, hz2]) rfl ⟨A, c, by rw [HO.out], ?_, ?_⟩
    · exact row_mono (ownsRow_setCell_below (ownsRow_setCell_below HOw.out (a := ⟨w.heap.size, 0, none⟩) hz _) (a := ⟨w.heap.size, 1, none⟩) hz _) (Nat.le_of_lt hz)
    · exact (HB2.out.setCell (p := ⟨w.heap.size, 0, none⟩) (Nat.le_refl _) _).setCell (p := ⟨w.heap.size, 1, none⟩) (Nat.le_refl _) _
set_option maxRecDepth 100000 in
set_option maxHeartbeats 8000000 in
theorem readRule_any (l : By) (w : World) (hs : l.length ≤ 100000) (ht : Tb w) : Calls Tryd.prog 22 #[.string (bsl l)] w fun e w' => e = .returned (.tuple #[RulV (mkRul false l), .bool (ruleOK l)]) ∧ Below w.heap.size w w' := by
  have hb0 : ∀ cs, Below w.heap.size w (w.alloc (.cells cs 48)) := fun cs => (Below.refl _ _).alloc (Nat.le_refl _) _
  have HB0 := Lib.hid hb0
  have HT0 := Lib.hid (fun cs => ht.below (hb0 cs))
  have hl := cw_len l
  have hl2 := cw_len (cw l).2
  have HC := Lib.hid (fun W => cutWord_any l W (by omega))
  have HC2 := Lib.hid (fun W => cutWord_any (cw l).2 W (by omega))
  have HR := Lib.hid (fun W h => readRight_any (cw l).1 W h)
  have HS := Lib.hid (fun W h => readScope_any (cw (cw l).2).2 W (by omega) h)
  have HG : Hid (ruleOK l = (knownR (cw l).1 && (scope (cw (cw l).2).2).ok)) := Lib.hid rfl
  have HM : Hid (RulV (mkRul false l) = .agg #[.bool false, .int .i64 (right (cw l).1 : Nat), .string (bsl (cw (cw l).2).1), .int .i64 ((scope (cw (cw l).2).2).kd : Nat), .int .i64 ((scope (cw (cw l).2).2).sp : Nat), .string (bsl (scope (cw (cw l).2).2).tn)]) := Lib.hid rfl
  generalize RulV (mkRul false l) = rv at HM ⊢
  generalize ruleOK l = ok at HG ⊢
  generalize scope (cw (cw l).2).2 = sc at HS HG HM
  generalize (cw (cw l).2).2 = r2 at HC2 HS
  generalize (cw (cw l).2).1 = g at HC2 HM
  generalize (cw l).2 = r at HC HC2
  generalize knownR (cw l).1 = kn at HR HG
  generalize right (cw l).1 = k at HR HM
  generalize (cw l).1 = a at HC HR
  obtain ⟨kd, sp, tn, so⟩ := sc
  unfold ScV at HS
  simp only at HS HG HM
  clear hb0 hl hl2 ht
  cases kn
  · go_enter Tryd.func22, Tryd.ntmps22
    go_wp2_with fail
    with_reducible refine (HC.out _).mono ?_
    rintro e w1 ⟨rfl, hb⟩
    obtain ⟨hc, hf⟩ := bcell hb
    have hz : w.heap.size < w1.heap.size := by have := hb.size; simp at this; omega
    have HB := Lib.hid ((HB0.out _).trans (hb.mono (by simp)))
    have HT1 := Lib.hid ((HT0.out _).below hb)
    clear hb
    go_wp2_with fail
    with_reducible refine (HR.out w1 HT1.out).mono ?_
    rintro e w2 ⟨rfl, rfl⟩
    go_wp2_with fail
    with_reducible refine (HC2.out _).mono ?_
    rintro e w3 ⟨rfl, hb3⟩
    obtain ⟨hc3, hf3⟩ := bcell hb3
    have hz3 : w.heap.size < w3.heap.size := by have := hb3.size; omega
    have HB3 := Lib.hid (HB.out.trans (hb3.mono HB.out.size))
    have HT3 := Lib.hid (HT1.out.below hb3)
    clear hb3
    go_wp2_with fail
    with_reducible refine (HS.out w3 HT3.out).mono ?_
    rintro e w4 ⟨rfl, hb4⟩
    obtain ⟨hc4, hf4⟩ := bcell hb4
    have hz4 : w.heap.size < w4.heap.size := by have := hb4.size; omega
    have HB4 := Lib.hid (HB3.out.trans (hb4.mono HB3.out.size))
    clear hb4
    go_wp2
    have hbf := fun u0 u1 u2 u3 u4 u5 o => ((((((HB4.out.setCell (p := ⟨w.heap.size, 0, none⟩) (Nat.le_refl _) u0).setCell (p := ⟨w.heap.size, 1, none⟩) (Nat.le_refl _) u1).setCell (p := ⟨w.heap.size, 2, none⟩) (Nat.le_refl _) u2).setCell (p := ⟨w.heap.size, 3, none⟩) (Nat.le_refl _) u3).setCell (p := ⟨w.heap.size, 4, none⟩) (Nat.le_refl _) u4).setCell (p := ⟨w.heap.size, 5, none⟩) (Nat.le_refl _) u5).alloc (by simp; omega) o
    exact bodyPost_ret (v := .tuple #[.agg #[.bool false, .int .i64 (k : Nat), .string (bsl g), .int .i64 (kd : Nat), .int .i64 (sp : Nat), .string (bsl tn)], .bool false]) (by simp [results, Tryd.results22, go_sem, hc, hc3, hc4, hz, hz3, hz4]) rfl ⟨by rw [HM.out, HG.out, Bool.false_and], hbf _ _ _ _ _ _ _⟩
  · go_enter Tryd.func22, Tryd.ntmps22
    go_wp2_with fail
    with_reducible refine (HC.out _).mono ?_
    rintro e w1 ⟨rfl, hb⟩
    obtain ⟨hc, hf⟩ := bcell hb
    have hz : w.heap.size < w1.heap.size := by have := hb.size; simp at this; omega
    have HB := Lib.hid ((HB0.out _).trans (hb.mono (by simp)))
    have HT1 := Lib.hid ((HT0.out _).below hb)
    clear hb
    go_wp2_with fail
    with_reducible refine (HR.out w1 HT1.out).mono ?_
    rintro e w2 ⟨rfl, rfl⟩
    go_wp2_with fail
    with_reducible refine (HC2.out _).mono ?_
    rintro e w3 ⟨rfl, hb3⟩
    obtain ⟨hc3, hf3⟩ := bcell hb3
    have hz3 : w.heap.size < w3.heap.size := by have := hb3.size; omega
    have HB3 := Lib.hid (HB.out.trans (hb3.mono HB.out.size))
    have HT3 := Lib.hid (HT1.out.below hb3)
    clear hb3
    go_wp2_with fail
    with_reducible refine (HS.out w3 HT3.out).mono ?_
    rintro e w4 ⟨rfl, hb4⟩
    obtain ⟨hc4, hf4⟩ := bcell hb4
    have hz4 : w.heap.size < w4.heap.size := by have := hb4.size; omega
    have HB4 := Lib.hid (HB3.out.trans (hb4.mono HB3.out.size))
    clear hb4
    go_wp2
    have hbf := fun u0 u1 u2 u3 u4 u5 o => ((((((HB4.out.setCell (p := ⟨w.heap.size, 0, none⟩) (Nat.le_refl _) u0).setCell (p := ⟨w.heap.size, 1, none⟩) (Nat.le_refl _) u1).setCell (p := ⟨w.heap.size, 2, none⟩) (Nat.le_refl _) u2).setCell (p := ⟨w.heap.size, 3, none⟩) (Nat.le_refl _) u3).setCell (p := ⟨w.heap.size, 4, none⟩) (Nat.le_refl _) u4).setCell (p := ⟨w.heap.size, 5, none⟩) (Nat.le_refl _) u5).alloc (by simp; omega) o
    exact bodyPost_ret (v := .tuple #[.agg #[.bool false, .int .i64 (k : Nat), .string (bsl g), .int .i64 (kd : Nat), .int .i64 (sp : Nat), .string (bsl tn)], .bool so]) (by simp [results, Tryd.results22, go_sem, hc, hc3, hc4, hz, hz3, hz4]) rfl ⟨by rw [HM.out, HG.out, Bool.true_and], hbf _ _ _ _ _ _ _⟩
end Go.Proofs.YtbibekojbjonoaaDoor.Po
