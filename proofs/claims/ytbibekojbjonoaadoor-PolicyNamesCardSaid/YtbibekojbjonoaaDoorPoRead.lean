/-
  The contracts of readRight, readScope and readGroup of package policy.
-/
import Derived.Test.YtbibekojbjonoaaDoorPoVal
namespace Go.Proofs.YtbibekojbjonoaaDoor.Po
open Go.RowKit Go.Shelf
set_option linter.unusedVariables false
set_option linter.unusedSimpArgs false

def rightF (w : By) : Nat → Nat → Nat
  | 0, _ => 0
  | n + 1, k => if rName k = w then k else rightF w n (k + 1)
def knownR (l : By) : Bool := decide (right l ≠ 0)
theorem int_of {a b : Int} (h : a = b) : Value.int .i64 a = .int .i64 b := by rw [h]
theorem bool_of {a b : Bool} (h : a = b) : Value.bool a = .bool b := by rw [h]
theorem right_eq (w : By) : right w = rightF w 5 1 := rfl
theorem right_cell {w : World} (h : Tb w) (k : Nat) (hk : k < 6) : w.cell? ⟨0, k, none⟩ = some (.string (bsl (rName k))) := by
  obtain ⟨t, fr, h⟩ := h.rn
  rw [cell_of_row _ _ _ _ _ _ h]
  match k, hk with
  | 0, _ => rfl
  | 1, _ => rfl
  | 2, _ => rfl
  | 3, _ => rfl
  | 4, _ => rfl
  | 5, _ => rfl
  | n + 6, h => omega
theorem rightF_yes {w : By} {n k : Nat} (h : rName k = w) : rightF w (n + 1) k = k := by rw [rightF, if_pos h]
theorem rightF_no {w : By} {n k : Nat} (h : rName k ≠ w) : rightF w (n + 1) k = rightF w n (k + 1) := by rw [rightF, if_neg h]
set_option maxRecDepth 100000 in
set_option maxHeartbeats 2000000 in
theorem readRight_any (l : By) (w : World) (ht : Tb w) : Calls Tryd.prog 37 #[.string (bsl l)] w fun e w' => e = .returned (.tuple #[.int .i64 (right l : Nat), .bool (knownR l)]) ∧ w = w' := by
  have HT := Lib.hid (fun k hk => right_cell ht k hk)
  go_enter Tryd.func37, Tryd.ntmps37
  go_wp2
  go_loop [4] (fun i => ∃ k : Nat, 1 ≤ k ∧ k ≤ 6 ∧ i = .int .i64 k ∧ Hid (right l = rightF l (6 - k) k)) (fun i => 6 - (intOf i).toNat)
  case atStart => exact ⟨1, Nat.le_refl _, by omega, rfl, Lib.hid (right_eq l)⟩
  case round =>
    obtain ⟨k, hk1, hk2, rfl, HA⟩ := hrel
    by_cases hlt : k < 6
    · have hki : (k : Int) < 6 := by omega
      have hk0 : (0 : Int) ≤ (k : Int) := by omega
      have q := HT.out k hlt
      obtain ⟨n, hn⟩ : ∃ n, 6 - k = n + 1 := ⟨5 - k, by omega⟩
      have hn2 : 6 - (k + 1) = n := by omega
      by_cases he : rName k = l
      · have he2 : right l = k := by rw [HA.out, hn, rightF_yes he]
        have HE : Hid (((right l : Nat) : Int) = (k : Int)) := Lib.hid (by rw [he2])
        have HE2 : Hid (knownR l = true) := Lib.hid (decide_eq_true (by rw [he2]; omega))
        clear he2
        have t := bsl_eq' he
        clear he hn hn2
        go_wp2
        go_ret2
        exact ⟨ret_two (int_of HE.out.symm) (bool_of HE2.out.symm), rfl⟩
      · have HE : Hid (right l = rightF l (6 - (k + 1)) (k + 1)) := Lib.hid (by rw [HA.out, hn, rightF_no he, hn2])
        have t := bsl_ne he
        clear he hn hn2
        go_wp2
        go_round
        case rel => exact ⟨k + 1, by omega, by omega, by go_num, HE⟩
        case measure => simp [intOf]; omega
    · have he2 : right l = 0 := by rw [HA.out, show 6 - k = 0 by omega]; rfl
      have HE : Hid (((right l : Nat) : Int) = 0) := Lib.hid (by rw [he2]; rfl)
      have HE2 : Hid (knownR l = false) := Lib.hid (decide_eq_false (by rw [he2]; omega))
      have d6 : decide ((k : Int) < 6) = false := decide_eq_false (by omega)
      clear he2
      go_wp2
      go_ret2
      exact ⟨ret_two (int_of HE.out.symm) (bool_of HE2.out.symm), rfl⟩
/-! ### Scopes -/
def spaceG (w : By) : Nat → Nat → Nat
  | 0, _ => 6
  | n + 1, k => if w = sName k then k else spaceG w n (k + 1)
theorem spaceW_eq (w : By) : spaceW w = spaceG w 6 0 := rfl
theorem spaceG_yes {w : By} {n k : Nat} (h : w = sName k) : spaceG w (n + 1) k = k := by rw [spaceG, if_pos h]
theorem spaceG_no {w : By} {n k : Nat} (h : w ≠ sName k) : spaceG w (n + 1) k = spaceG w n (k + 1) := by rw [spaceG, if_neg h]
def spaceAgg : Array Value := #[.string (bsl (sName 0)), .string (bsl (sName 1)), .string (bsl (sName 2)), .string (bsl (sName 3)), .string (bsl (sName 4)), .string (bsl (sName 5))]
theorem TParse (l : By) (w : World) (hs : l.length < 4294967200) (ht : Tb w) : Calls Tryd.prog 40 #[.string (bsl l)] w fun e w' => e = .returned (.tuple #[.agg #[.int .i64 ((Ti.parse l).1.1 : Nat), .string (bsl (Ti.parse l).1.2)], .int .i64 ((Ti.parse l).2 : Nat)]) ∧ Below w.heap.size w w' :=
  Ti.Parse_any (bsl l) w (by rw [bsl_size]; omega) ht.ti
theorem sc_all {l : By} (h : l = sAll) : scope l = ⟨1, 0, [], true⟩ := by unfold scope; rw [if_pos h]
theorem sc_space {l : By} (h : l ≠ sAll) (h6 : spaceW l < 6) : scope l = ⟨2, spaceW l, [], true⟩ := by unfold scope; rw [if_neg h, if_pos h6]
theorem sc_tree {l : By} (h : l ≠ sAll) (h6 : ¬ spaceW l < 6) : scope l = ⟨3, (Ti.parse l).1.1, (Ti.parse l).1.2, decide ((Ti.parse l).2 = 0)⟩ := by unfold scope; rw [if_neg h, if_neg h6]
theorem bcell {W W1 : World} (hb : Below W.heap.size W W1) : (∀ b o, b < W.heap.size → W1.cell? ⟨b, o, none⟩ = W.cell? ⟨b, o, none⟩) ∧ (∀ b o, b < W.heap.size → W1.frozen? ⟨b, o, none⟩ = W.frozen? ⟨b, o, none⟩) :=
  ⟨fun b o h => hb.cell (p := ⟨b, o, none⟩) h, fun b o h => hb.frozen (p := ⟨b, o, none⟩) h⟩
def ScV (s : Scp) : Value := .tuple #[.agg #[.int .i64 (s.kd : Nat), .int .i64 (s.sp : Nat), .string (bsl s.tn)], .bool s.ok]
theorem nat_eq0 (er : Nat) : ((er : Int) == 0) = decide (er = 0) := by
  by_cases h : er = 0
  · rw [decide_eq_true h, beq_iff_eq]; omega
  · rw [decide_eq_false h, beq_eq_false_iff_ne]; omega
theorem scv3 (a : Nat) (b : By) (er : Nat) : ScV ⟨3, a, b, decide (er = 0)⟩ = .tuple #[.agg #[.int .i64 3, .int .i64 (a : Nat), .string (bsl b)], .bool ((er : Int) == 0)] := by rw [nat_eq0]; rfl
theorem ix0 (w : World) : (Instr.index 95 (.agg spaceCells) (.int .i64 0)).run Tryd.prog w = .ok (.string (bsl (sName 0))) w := by kernel_rfl
theorem ix1 (w : World) : (Instr.index 95 (.agg spaceCells) (.int .i64 1)).run Tryd.prog w = .ok (.string (bsl (sName 1))) w := by kernel_rfl
theorem ix2 (w : World) : (Instr.index 95 (.agg spaceCells) (.int .i64 2)).run Tryd.prog w = .ok (.string (bsl (sName 2))) w := by kernel_rfl
theorem ix3 (w : World) : (Instr.index 95 (.agg spaceCells) (.int .i64 3)).run Tryd.prog w = .ok (.string (bsl (sName 3))) w := by kernel_rfl
theorem ix4 (w : World) : (Instr.index 95 (.agg spaceCells) (.int .i64 4)).run Tryd.prog w = .ok (.string (bsl (sName 4))) w := by kernel_rfl
theorem ix5 (w : World) : (Instr.index 95 (.agg spaceCells) (.int .i64 5)).run Tryd.prog w = .ok (.string (bsl (sName 5))) w := by kernel_rfl
theorem ixs (k : Nat) (hk : k < 6) (w : World) : (Instr.index 95 (.agg spaceCells) (.int .i64 (k : Int))).run Tryd.prog w = .ok (.string (bsl (sName k))) w := by
  have : k = 0 ∨ k = 1 ∨ k = 2 ∨ k = 3 ∨ k = 4 ∨ k = 5 := by omega
  rcases this with rfl | rfl | rfl | rfl | rfl | rfl
  · exact ix0 w
  · exact ix1 w
  · exact ix2 w
  · exact ix3 w
  · exact ix4 w
  · exact ix5 w
set_option maxRecDepth 100000 in
set_option maxHeartbeats 4000000 in
theorem readScope_any (l : By) (w : World) (hs : l.length < 4294967200) (ht : Tb w) : Calls Tryd.prog 38 #[.string (bsl l)] w fun e w' => e = .returned (ScV (scope l)) ∧ Below w.heap.size w w' := by
  obtain ⟨ts, fs, hsp⟩ := ht.ss
  have hb0 : ∀ cs, Below w.heap.size w (w.alloc (.cells cs 46)) := fun cs => (Below.refl _ _).alloc (Nat.le_refl _) _
  have HB0 := Lib.hid hb0
  have HP := Lib.hid (fun W h => TParse l W hs h)
  have HT0 := Lib.hid (fun cs => ht.below (hb0 cs))
  have HSp := Lib.hid (fun cs => ((hb0 cs).block _ ht.lt.2).trans hsp)
  clear hsp hb0 ht
  by_cases hall : l = sAll
  · have HE := Lib.hid (sc_all hall)
    have t1 : ((bsl l).toList == [60, 97, 108, 108, 62]) = true := lit_eq (b := sAll) hall
    clear hall
    go_enter Tryd.func38, Tryd.ntmps38
    go_wp2
    exact bodyPost_ret (v := ScV ⟨1, 0, [], true⟩) (by simp [results, Tryd.results38, go_sem]; rfl) rfl ⟨by rw [HE.out], HB0.out _⟩
  · have t1 : ((bsl l).toList == [60, 97, 108, 108, 62]) = false := lit_ne (b := sAll) hall
    have HSS := Lib.hid (fun h => sc_space hall h)
    have HST := Lib.hid (fun h => sc_tree hall h)
    have hsp0 := HSp.out #[.int .i64 0, .int .i64 0, .string ⟨#[]⟩]
    clear hall
    go_enter Tryd.func38, Tryd.ntmps38
    go_wp2_with (refine wpList_load_row rfl 95 _ rfl 1 rfl ts spaceCells fs _ hsp0 Tryd.underlying95 rfl (by kernel_rfl) ?_)
    clear hsp0 t1
    go_loop [12] (fun i => ∃ k : Nat, k ≤ 6 ∧ i = .int .i64 k ∧ Hid (spaceW l = spaceG l (6 - k) k)) (fun i => 6 - (intOf i).toNat)
    case atStart => exact ⟨0, Nat.zero_le _, rfl, Lib.hid (spaceW_eq l)⟩
    case round =>
      obtain ⟨k, hk, rfl, HA⟩ := hrel
      by_cases hlt : k < 6
      · have hki : (k : Int) < 6 := by omega
        have hix := fun W => ixs k hlt W
        obtain ⟨n, hn⟩ : ∃ n, 6 - k = n + 1 := ⟨5 - k, by omega⟩
        have hn2 : 6 - (k + 1) = n := by omega
        by_cases he : l = sName k
        · have hw : spaceW l = k := by rw [HA.out, hn, spaceG_yes he]
          have HE : Hid (scope l = ⟨2, k, [], true⟩) := Lib.hid (by rw [HSS.out (by rw [hw]; exact hlt), hw])
          have t := bsl_eq' he
          clear he hn hn2 hw
          go_wp2
          exact bodyPost_ret (v := ScV ⟨2, k, [], true⟩) (by simp [results, Tryd.results38, go_sem]; rfl) rfl ⟨by rw [HE.out], HB0.out _⟩
        · have HE : Hid (spaceW l = spaceG l (6 - (k + 1)) (k + 1)) := Lib.hid (by rw [HA.out, hn, spaceG_no he, hn2])
          have t := bsl_ne he
          clear he hn hn2
          go_wp2
          go_round
          case rel => exact ⟨k + 1, by omega, by go_num, HE⟩
          case measure => simp [intOf]; omega
      · have hw : spaceW l = 6 := by rw [HA.out, show 6 - k = 0 by omega]; rfl
        have HE := Lib.hid (HST.out (by omega))
        have d6 : decide ((k : Int) < 6) = false := decide_eq_false (by omega)
        clear hw HSS HST
        have HP2 := Lib.hid (HP.out _ (HT0.out #[.int .i64 0, .int .i64 0, .string ⟨#[]⟩]))
        generalize (Ti.parse l).1.1 = a at HP2 HE
        generalize (Ti.parse l).1.2 = b at HP2 HE
        generalize (Ti.parse l).2 = er at HP2 HE
        go_wp2_with fail
        with_reducible refine (HP2.out).mono ?_
        rintro e w1 ⟨rfl, hb⟩
        obtain ⟨hc, hf⟩ := bcell hb
        have hz : w.heap.size < w1.heap.size := by have := hb.size; simp at this; omega
        have HB := Lib.hid hb
        clear hb
        have hw : Below w.heap.size w w1 := (HB0.out _).trans (HB.out.mono (by simp))
        have HW := Lib.hid hw
        clear hw
        go_wp2
        exact bodyPost_ret (v := .tuple #[.agg #[.int .i64 3, .int .i64 (a : Nat), .string (bsl b)], .bool ((er : Int) == 0)]) (by simp [results, Tryd.results38, go_sem, hc, hz]) rfl ⟨by rw [HE.out, scv3], (((HW.out.setCell (p := ⟨w.heap.size, 0, none⟩) (Nat.le_refl _) _).setCell (p := ⟨w.heap.size, 1, none⟩) (Nat.le_refl _) _).setCell (p := ⟨w.heap.size, 2, none⟩) (Nat.le_refl _) _).alloc (by simp; omega) _⟩
end Go.Proofs.YtbibekojbjonoaaDoor.Po
