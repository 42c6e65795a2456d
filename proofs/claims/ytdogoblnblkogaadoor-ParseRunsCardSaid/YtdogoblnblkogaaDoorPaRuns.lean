/-
  The law ParseRuns, for every number.
-/
import Derived.Test.YtdogoblnblkogaaDoorPaNests
import Derived.BigRegion
namespace Go.Proofs.YtdogoblnblkogaaDoor.Pa
open Go.RowKit Go.Proofs.YtdogoblnblkogaaDoor.Tr
set_option linter.unusedVariables false

/-- A part of a list that is read. -/
theorem LX.sub {w : World} {X : Nat → Prop} {g o n c : Nat} {l : List Nd} (h : LX w X (.slice (some ⟨g, o, none⟩) n c) l) {i k : Nat} (hk : i + k ≤ l.length) : LX w X (.slice (some ⟨g, o + i * 5, none⟩) k (c - i)) ((l.drop i).take k) := by
  obtain ⟨d, h⟩ := h
  cases d with
  | zero => exact h.elim
  | succ d =>
    obtain ⟨hz, A, c', e, h2, h3, R⟩ := h
    injection e with e1 e2 e3
    subst e1 e2 e3
    have hl : ((l.drop i).take k).length = k := by rw [List.length_take, List.length_drop]; omega
    refine ⟨d + 1, Nat.le_trans (Nat.le_trans (sz_takeJ _ _) ?_) hz, _, _, by rw [hl], by rw [hl]; omega, by omega, fun hn => ?_⟩
    · have : Tr.sz l = Tr.sz (l.take i) + Tr.sz (l.drop i) := by rw [← sz_append, List.take_append_drop]
      omega
    · rw [hl] at hn
      obtain ⟨g', o', e, hg, q⟩ := R (by omega)
      cases e
      refine ⟨g, o + i * 5, rfl, hg, fun j hj m hm => ?_⟩
      rw [hl] at hj
      rw [List.getElem?_take_of_lt hj, List.getElem?_drop] at hm
      have := q (i + j) (by omega) m hm
      rw [show o + i * 5 + j * 5 = o + (i + j) * 5 by omega]
      exact this
theorem fol_go5 (f : Nat) {n : Nd} (h : n.kind = 5) : fol (f + 1) [n] = ((fol f n.kids).1 + 1, (fol f n.kids).2.1, (fol f n.kids).2.2) := by
  show (if n.kind = 5 then _ else _) = _
  exact if_pos h
theorem fol_go4 (f : Nat) {n : Nd} (h : n.kind = 4) : fol (f + 1) [n] = ((fol f n.kids).1, (fol f n.kids).2.1 + 1, (fol f n.kids).2.2) := by
  show (if n.kind = 5 then _ else if n.kind = 4 then _ else _) = _
  rw [if_neg (by omega), if_pos h]
theorem fol_stop (f : Nat) {l : List Nd} (h : ∀ n, l = [n] → n.kind ≠ 5 ∧ n.kind ≠ 4) : fol f l = (0, 0, l) := by
  cases f with
  | zero => rfl
  | succ f =>
    unfold fol
    split
    · rename_i n
      obtain ⟨h1, h2⟩ := h n rfl
      rw [if_neg h1, if_neg h2]
    · rfl
theorem LX.drew {w : World} {v : Value} {l : List Nd} (h : LX w (fun g => g < w.heap.size) v l) : LX w.drew (fun g => g < w.drew.heap.size) v l := h.imp (fun _ h => h) fun _ _ => rfl
theorem word_on (s : ByteArray) (w : World) (B : Nat) (hB : w.heap.size = B) (hs : s.size ≤ 1048576) : Calls Tryd.prog 13 #[.string s] w fun e w' => e = .returned (.slice (some ⟨B, 0, none⟩) 1 1) ∧ LX w' (fun g => g < w'.heap.size) (.slice (some ⟨B, 0, none⟩) 1 1) [.mk 1 0 s [] []] ∧ Below B w w' := by
  subst hB
  refine (word_any s w).mono ?_
  rintro e w' ⟨h1, h2⟩
  exact ⟨h1, by rw [← h2]; exact LX.word w s hs, by rw [← h2]; exact (Below.refl _ _).alloc (Nat.le_refl _) _⟩
structure RunF (m : Nat) (L : List Nd) : Prop where
  one : m % 3 = 1 → L.length = 3 ∧ L.take 1 = [.mk 1 0 ⟨#[123]⟩ [] []] ∧ L.drop 2 = [.mk 1 0 ⟨#[125]⟩ [] []]
  core : fol 40 (core m L) = (m / 3, (if m % 3 = 2 then 1 else 0), [.mk 1 0 ⟨#[97]⟩ [] []])
theorem RunF.of {m : Nat} {L : List Nd} (h : runOk m L = true) : RunF m L := by
  unfold runOk at h
  rw [Bool.and_eq_true, Bool.and_eq_true, Bool.and_eq_true] at h
  obtain ⟨h1, h2, h3, h4⟩ := h
  refine ⟨fun hm => ?_, ?_⟩
  · rw [if_pos hm, Bool.and_eq_true, Bool.and_eq_true] at h1
    obtain ⟨a, b, c⟩ := h1
    exact ⟨beq_iff_eq.1 a, isTx_eq b, isTx_eq c⟩
  · have e1 := isTx_eq h2
    have e2 : (fol 40 (Pa.core m L)).1 = m / 3 := beq_iff_eq.1 h3
    have e3 : (fol 40 (Pa.core m L)).2.1 = if m % 3 = 2 then 1 else 0 := beq_iff_eq.1 h4
    rw [← e1, ← e2, ← e3]
set_option maxRecDepth 100000 in
set_option maxHeartbeats 4000000 in
theorem ParseRuns_any (n : Int) (w : World) (ht : Tk.Tb w) : Calls Tryd.prog 5 #[.int .i64 n] w fun e w' => e = .returned (.bool true) ∧ Below w.heap.size w w' := by
  have HT := Lib.hid ht
  clear ht
  obtain ⟨k0, k3⟩ := and_low n 15 (by decide)
  obtain ⟨b, hb⟩ : ∃ b : Nat, bits BinOp.and IntKind.i64 n 15 = (b : Int) := ⟨(bits BinOp.and IntKind.i64 n 15).toNat, by have : (0 : Int) ≤ bits BinOp.and IntKind.i64 n 15 := k0; omega⟩
  have k0' : bits BinOp.and IntKind.i64 n 15 ≤ 15 := k3
  obtain ⟨m, hm⟩ : ∃ m : Nat, (2 + (b : Int)) = (m : Int) := ⟨2 + b, by omega⟩
  have hm2 : 2 ≤ m := by omega
  have hm17 : m ≤ 17 := by omega
  have HR1 := Lib.hid (rep_any ⟨#[123]⟩ 1 m w rfl (by omega) (by omega))
  have HC := Lib.hid (RunF.of (run_ok hm2 (by omega)))
  clear k0 k3 k0'
  go_enter Tryd.func5, Tryd.ntmps5
  go_wp2_with fail
  refine HR1.out.mono ?_
  rintro e w1 ⟨S1, rfl, z1, h1, b1⟩
  have B1 := Lib.hid b1
  clear b1 HR1
  go_wp2_with fail
  refine (rep_any ⟨#[125]⟩ 1 m w1 rfl (by omega) (by omega)).mono ?_
  rintro e w2 ⟨S2, rfl, z2, h2, b2⟩
  have B2 := Lib.hid (B1.out.trans (b2.mono B1.out.size))
  clear b2 B1
  have hz : ((S1 ++ ⟨#[97]⟩) ++ S2).size ≤ 8192 := by rw [ByteArray.size_append, ByteArray.size_append]; show S1.size + 1 + _ ≤ _; omega
  have HL : Hid (((S1 ++ ⟨#[97]⟩) ++ S2).data.toList = runT m) := Lib.hid (by
    rw [show ((S1 ++ ⟨#[97]⟩) ++ S2).data.toList = S1.data.toList ++ ([97] ++ S2.data.toList) by simp, h1.out, h2.out]; rfl)
  clear h1 h2
  go_wp2_with fail
  refine (Parse_any _ w2 (HT.out.below B2.out) hz).mono ?_
  rintro e w3 ⟨v, d, rfl, l3, b3⟩
  replace l3 := Eq.mp (congrArg (fun q => LRx d w3 (In w2.heap.size w3) v (tree (toks q))) HL.out) l3
  clear hz HL
  generalize tree (toks (runT m)) = L at l3 HC
  have B3 := Lib.hid (B2.out.trans (b3.mono B2.out.size))
  have L3 := Lib.hid (LRx.lx l3)
  clear l3 b3 B2
  by_cases hr : m % 3 = 1
  · obtain ⟨hl3, ht1, ht2⟩ := HC.out.one hr
    obtain ⟨x, y, z, rfl⟩ : ∃ x y z, L = [x, y, z] := by
      match L, hl3 with
      | [x, y, z], _ => exact ⟨x, y, z, rfl⟩
    obtain ⟨g, o, c, vk, va, rfl, c1, c2, hg, -⟩ := L3.out.at0
    have on3 : ∀ (v : Value) (l : List Nd), LX w3 (fun g => g < w3.heap.size) v l → ∀ w' : World, Below w3.heap.size w3.drew w' → LX w' (fun g => g < w'.heap.size) v l := fun v l h w' hb => h.drew.on hb
    have SA := Lib.hid (on3 (.slice (some ⟨g, o, none⟩) 1 c) [.mk 1 0 ⟨#[123]⟩ [] []] (by rw [← ht1]; exact L3.out.sub (i := 0) (k := 1) (by simp)))
    have SB := Lib.hid (on3 (.slice (some ⟨g, o + 10, none⟩) 1 (c - 2)) [.mk 1 0 ⟨#[125]⟩ [] []] (by rw [← ht2]; exact L3.out.sub (i := 2) (k := 1) (by simp)))
    have SC := Lib.hid (on3 (.slice (some ⟨g, o + 5, none⟩) 1 (c - 1)) [y] (L3.out.sub (i := 1) (k := 1) (by simp)))
    clear on3
    have hd3 : Hid (w3.drew.heap.size = w3.heap.size) := Lib.hid rfl
    have Z1 : (⟨#[123]⟩ : ByteArray).size ≤ 1048576 := by decide
    have Z2 : (⟨#[125]⟩ : ByteArray).size ≤ 1048576 := by decide
    have hri : (m : Int) % 3 = 1 := by omega
    have c0 : core m [x, y, z] = [y] := by unfold core; rw [if_pos hr]; rfl
    obtain ⟨P, hP⟩ : ∃ P, m / 3 = P := ⟨_, rfl⟩
    obtain ⟨C, hCq⟩ : ∃ C, (if m % 3 = 2 then 1 else 0) = C := ⟨_, rfl⟩
    have HF0 := HC.out.core
    rw [hP, hCq] at HF0
    have hC1 : C ≤ 1 := by rw [← hCq]; split <;> omega
    have hCc := Lib.hid hCq.symm
    have hPi : (m : Int) / 3 = (P : Int) := by omega
    clear hCq
    rw [c0] at HF0
    have HF := Lib.hid HF0
    clear HF0 c0 HC hP
    go_wp2
    go_region_with (first
      | (go_at_call 13; (with_reducible refine (word_on ⟨#[123]⟩ w3.drew w3.heap.size hd3.out Z1).mono ?_); rintro e w4 ⟨rfl, hl4, hb4⟩)
      | (go_at_call 11; (with_reducible refine (equal_same (SA.out w4 hb4) hl4).mono ?_); rintro e w5 ⟨rfl, hb5⟩)
      | (go_at_call 13; (with_reducible refine (word_on ⟨#[125]⟩ w5 w5.heap.size rfl Z2).mono ?_); rintro e w6 ⟨rfl, hl6, hb6⟩)
      | (go_at_call 11; (with_reducible refine (equal_same (((SB.out w4 hb4).on hb5).on hb6) hl6).mono ?_); rintro e w7 ⟨rfl, hb7⟩))
    all_goals
      have d3 : Below w3.heap.size w3 w3.drew := by exact (Below.refl _ _).drew
      have BQ := Lib.hid (B3.out.trans (d3.mono B3.out.size))
      have BQ4 := Lib.hid (BQ.out.trans (hb4.mono BQ.out.size))
      have BQ5 := Lib.hid (BQ4.out.trans (hb5.mono BQ4.out.size))
      have BQ6 := Lib.hid (BQ5.out.trans (hb6.mono BQ5.out.size))
      have BQ := Lib.hid (BQ6.out.trans (hb7.mono BQ6.out.size))
      have LL := Lib.hid ((((SC.out w4 hb4).on hb5).on hb6).on hb7)
      clear BQ4 BQ5 BQ6 SA SB SC hl4 hl6 hb4 hb5 hb6 hb7 d3
      go_wp2
      go_loopw [3, 5, 6] (fun vl pv cv wr => ∃ (p q : Nat) (M : List Nd), pv = .int .i64 p ∧ cv = .int .i64 q ∧ Hid (fol (40 - (p + q)) M = (P - p, C - q, [.mk 1 0 ⟨#[97]⟩ [] []])) ∧ p ≤ P ∧ q ≤ C ∧ Hid (LX w7 (fun g => g < w7.heap.size) vl M) ∧ wr = w7) (fun _ pv cv _ => 40 - ((intOf pv).toNat + (intOf cv).toNat))
      case atStart => exact ⟨0, 0, _, rfl, rfl, HF, Nat.zero_le _, Nat.zero_le _, LL, rfl⟩
      case round =>
        obtain ⟨p, q, M, rfl, rfl, hf, hp, hq, hl, rfl⟩ := hrel
        by_cases hs : ∃ x, M = [x] ∧ (x.kind = 5 ∨ x.kind = 4)
        · obtain ⟨x, rfl, hk⟩ := hs
          obtain ⟨g', o', c', vk', va', rfl, d1, d2, hg', a1, a2, a3, a4, a5, f1, lk, la⟩ := hl.out.at0
          simp only [List.length_singleton] at d1
          rcases hk with hk | hk
          · have e1 := hf.out
            rw [show 40 - (p + q) = (40 - (p + 1 + q)) + 1 by omega, fol_go5 _ hk] at e1
            injection e1 with e1 e2
            have hp1 : p + 1 ≤ P := by omega
            have hf2 : Hid (fol (40 - (p + 1 + q)) x.kids = (P - (p + 1), C - q, [.mk 1 0 ⟨#[97]⟩ [] []])) := Lib.hid (Prod.ext (show _ = P - (p + 1) by omega) e2)
            have lv2 := Lib.hid (show LX wr (fun g => g < wr.heap.size) vk' x.kids from lk)
            rw [hk] at a1
            clear hf hl lk la e1 e2
            obtain ⟨A3, c5, rfl⟩ := lv2.out.form
            go_wp2
            go_roundw
            case rel => exact ⟨p + 1, q, x.kids, by go_num, rfl, hf2, hp1, hq, lv2, trivial⟩
            case measure => simp [intOf]; omega
          · have e1 := hf.out
            rw [show 40 - (p + q) = (40 - (p + (q + 1))) + 1 by omega, fol_go4 _ hk] at e1
            injection e1 with e1 e2
            injection e2 with e2 e3
            have hq1 : q + 1 ≤ C := by omega
            have hf2 : Hid (fol (40 - (p + (q + 1))) x.kids = (P - p, C - (q + 1), [.mk 1 0 ⟨#[97]⟩ [] []])) := Lib.hid (Prod.ext e1 (Prod.ext (show _ = C - (q + 1) by omega) e3))
            have lv2 := Lib.hid (show LX wr (fun g => g < wr.heap.size) vk' x.kids from lk)
            rw [hk] at a1
            clear hf hl lk la e1 e2 e3
            obtain ⟨A3, c5, rfl⟩ := lv2.out.form
            go_wp2
            go_roundw
            case rel => exact ⟨p, q + 1, x.kids, rfl, by go_num, hf2, hp, hq1, lv2, trivial⟩
            case measure => simp [intOf]; omega
        · have e1 := hf.out
          rw [fol_stop _ (fun x hx => ⟨fun h => hs ⟨x, hx, .inl h⟩, fun h => hs ⟨x, hx, .inr h⟩⟩)] at e1
          injection e1 with e1 e2
          injection e2 with e2 e3
          obtain rfl : p = P := by omega
          obtain rfl : q = C := by omega
          have hl' := hl
          rw [e3] at hl'
          obtain ⟨x, rfl, hk⟩ : ∃ x, M = [x] ∧ x.kind = 1 := ⟨_, e3, rfl⟩
          obtain ⟨g', o', c', vk', va', rfl, d1, d2, hg', a1, a2, a3, a4, a5, f1, lk, la⟩ := hl.out.at0
          simp only [List.length_singleton] at d1
          rw [hk] at a1
          replace hl : Hid (LX wr (fun g => g < wr.heap.size) (.slice (some ⟨g', o', none⟩) [x].length c') [.mk 1 0 ⟨#[97]⟩ [] []]) := hl'
          clear hf e1 e2 e3 hs lk la hl' hk
          by_cases h2 : m % 3 = 2
          · exact absurd hr (by omega)
          · have h2i : ((m : Int) % 3 == 2) = false := by rw [beq_eq_false_iff_ne]; omega
            obtain rfl : q = 0 := hCc.out.trans (if_neg h2)
            go_wp2_with fail
            refine (word_any _ wr).mono ?_
            rintro e w5 ⟨rfl, e5⟩
            have b5 : Below wr.heap.size wr w5 := by rw [← e5]; exact (Below.refl _ _).alloc (Nat.le_refl _) _
            have LA : LX w5 (fun g => g < w5.heap.size) (.slice (some ⟨wr.heap.size, 0, none⟩) 1 1) [.mk 1 0 ⟨#[97]⟩ [] []] := by rw [← e5]; exact LX.word wr _ (by decide)
            have L5 := Lib.hid (And.intro (hl.out.on b5) LA)
            have B5 := Lib.hid (BQ.out.trans (b5.mono BQ.out.size))
            clear e5 b5 LA hl
            go_wp2_with fail
            refine (equal_same L5.out.1 L5.out.2).mono ?_
            rintro e w6 ⟨rfl, b6⟩
            have B6 := Lib.hid (B5.out.trans (b6.mono B5.out.size))
            clear b6 L5
            go_wp2_with fail
            refine (known_any w6 (HT.out.below B6.out)).mono ?_
            rintro e w7 ⟨rfl, b7⟩
            have B7 := Lib.hid (B6.out.trans (b7.mono B6.out.size))
            clear b7
            go_wp2_with fail
            go_ret
            exact ⟨rfl, B7.out⟩
  · have hri : ((m : Int) % 3 == 1) = false := by rw [beq_eq_false_iff_ne]; omega
    have c0 : core m L = L := by unfold core; rw [if_neg hr]
    obtain ⟨P, hP⟩ : ∃ P, m / 3 = P := ⟨_, rfl⟩
    obtain ⟨C, hCq⟩ : ∃ C, (if m % 3 = 2 then 1 else 0) = C := ⟨_, rfl⟩
    have HF0 := HC.out.core
    rw [hP, hCq] at HF0
    have hC1 : C ≤ 1 := by rw [← hCq]; split <;> omega
    have hCc := Lib.hid hCq.symm
    have hPi : (m : Int) / 3 = (P : Int) := by omega
    clear hCq
    rw [c0] at HF0
    have HF := Lib.hid HF0
    clear HF0 c0 HC hP
    have LL := L3
    have BQ := B3
    obtain ⟨A, c, hv⟩ := L3.out.form
    subst hv
    go_wp2
    go_loopw [3, 5, 6] (fun vl pv cv wr => ∃ (p q : Nat) (M : List Nd), pv = .int .i64 p ∧ cv = .int .i64 q ∧ Hid (fol (40 - (p + q)) M = (P - p, C - q, [.mk 1 0 ⟨#[97]⟩ [] []])) ∧ p ≤ P ∧ q ≤ C ∧ Hid (LX w3 (fun g => g < w3.heap.size) vl M) ∧ wr = w3) (fun _ pv cv _ => 40 - ((intOf pv).toNat + (intOf cv).toNat))
    case atStart => exact ⟨0, 0, _, rfl, rfl, HF, Nat.zero_le _, Nat.zero_le _, LL, rfl⟩
    case round =>
      obtain ⟨p, q, M, rfl, rfl, hf, hp, hq, hl, rfl⟩ := hrel
      by_cases hs : ∃ x, M = [x] ∧ (x.kind = 5 ∨ x.kind = 4)
      · obtain ⟨x, rfl, hk⟩ := hs
        obtain ⟨g', o', c', vk', va', rfl, d1, d2, hg', a1, a2, a3, a4, a5, f1, lk, la⟩ := hl.out.at0
        simp only [List.length_singleton] at d1
        rcases hk with hk | hk
        · have e1 := hf.out
          rw [show 40 - (p + q) = (40 - (p + 1 + q)) + 1 by omega, fol_go5 _ hk] at e1
          injection e1 with e1 e2
          have hp1 : p + 1 ≤ P := by omega
          have hf2 : Hid (fol (40 - (p + 1 + q)) x.kids = (P - (p + 1), C - q, [.mk 1 0 ⟨#[97]⟩ [] []])) := Lib.hid (Prod.ext (show _ = P - (p + 1) by omega) e2)
          have lv2 := Lib.hid (show LX wr (fun g => g < wr.heap.size) vk' x.kids from lk)
          rw [hk] at a1
          clear hf hl lk la e1 e2
          obtain ⟨A3, c5, rfl⟩ := lv2.out.form
          go_wp2
          go_roundw
          case rel => exact ⟨p + 1, q, x.kids, by go_num, rfl, hf2, hp1, hq, lv2, trivial⟩
          case measure => simp [intOf]; omega
        · have e1 := hf.out
          rw [show 40 - (p + q) = (40 - (p + (q + 1))) + 1 by omega, fol_go4 _ hk] at e1
          injection e1 with e1 e2
          injection e2 with e2 e3
          have hq1 : q + 1 ≤ C := by omega
          have hf2 : Hid (fol (40 - (p + (q + 1))) x.kids = (P - p, C - (q + 1), [.mk 1 0 ⟨#[97]⟩ [] []])) := Lib.hid (Prod.ext e1 (Prod.ext (show _ = C - (q + 1) by omega) e3))
          have lv2 := Lib.hid (show LX wr (fun g => g < wr.heap.size) vk' x.kids from lk)
          rw [hk] at a1
          clear hf hl lk la e1 e2 e3
          obtain ⟨A3, c5, rfl⟩ := lv2.out.form
          go_wp2
          go_roundw
          case rel => exact ⟨p, q + 1, x.kids, rfl, by go_num, hf2, hp, hq1, lv2, trivial⟩
          case measure => simp [intOf]; omega
      · have e1 := hf.out
        rw [fol_stop _ (fun x hx => ⟨fun h => hs ⟨x, hx, .inl h⟩, fun h => hs ⟨x, hx, .inr h⟩⟩)] at e1
        injection e1 with e1 e2
        injection e2 with e2 e3
        obtain rfl : p = P := by omega
        obtain rfl : q = C := by omega
        have hl' := hl
        rw [e3] at hl'
        obtain ⟨x, rfl, hk⟩ : ∃ x, M = [x] ∧ x.kind = 1 := ⟨_, e3, rfl⟩
        obtain ⟨g', o', c', vk', va', rfl, d1, d2, hg', a1, a2, a3, a4, a5, f1, lk, la⟩ := hl.out.at0
        simp only [List.length_singleton] at d1
        rw [hk] at a1
        replace hl : Hid (LX wr (fun g => g < wr.heap.size) (.slice (some ⟨g', o', none⟩) [x].length c') [.mk 1 0 ⟨#[97]⟩ [] []]) := hl'
        clear hf e1 e2 e3 hs lk la hl' hk
        by_cases h2 : m % 3 = 2
        · have h2i : (m : Int) % 3 = 2 := by omega
          obtain rfl : q = 1 := hCc.out.trans (if_pos h2)
          go_wp2_with fail
          refine (word_any _ wr).mono ?_
          rintro e w5 ⟨rfl, e5⟩
          have b5 : Below wr.heap.size wr w5 := by rw [← e5]; exact (Below.refl _ _).alloc (Nat.le_refl _) _
          have LA : LX w5 (fun g => g < w5.heap.size) (.slice (some ⟨wr.heap.size, 0, none⟩) 1 1) [.mk 1 0 ⟨#[97]⟩ [] []] := by rw [← e5]; exact LX.word wr _ (by decide)
          have L5 := Lib.hid (And.intro (hl.out.on b5) LA)
          have B5 := Lib.hid (BQ.out.trans (b5.mono BQ.out.size))
          clear e5 b5 LA hl
          go_wp2_with fail
          refine (equal_same L5.out.1 L5.out.2).mono ?_
          rintro e w6 ⟨rfl, b6⟩
          have B6 := Lib.hid (B5.out.trans (b6.mono B5.out.size))
          clear b6 L5
          go_wp2_with fail
          refine (known_any w6 (HT.out.below B6.out)).mono ?_
          rintro e w7 ⟨rfl, b7⟩
          have B7 := Lib.hid (B6.out.trans (b7.mono B6.out.size))
          clear b7
          go_wp2_with fail
          go_ret
          exact ⟨rfl, B7.out⟩
        · have h2i : ((m : Int) % 3 == 2) = false := by rw [beq_eq_false_iff_ne]; omega
          obtain rfl : q = 0 := hCc.out.trans (if_neg h2)
          go_wp2_with fail
          refine (word_any _ wr).mono ?_
          rintro e w5 ⟨rfl, e5⟩
          have b5 : Below wr.heap.size wr w5 := by rw [← e5]; exact (Below.refl _ _).alloc (Nat.le_refl _) _
          have LA : LX w5 (fun g => g < w5.heap.size) (.slice (some ⟨wr.heap.size, 0, none⟩) 1 1) [.mk 1 0 ⟨#[97]⟩ [] []] := by rw [← e5]; exact LX.word wr _ (by decide)
          have L5 := Lib.hid (And.intro (hl.out.on b5) LA)
          have B5 := Lib.hid (BQ.out.trans (b5.mono BQ.out.size))
          clear e5 b5 LA hl
          go_wp2_with fail
          refine (equal_same L5.out.1 L5.out.2).mono ?_
          rintro e w6 ⟨rfl, b6⟩
          have B6 := Lib.hid (B5.out.trans (b6.mono B5.out.size))
          clear b6 L5
          go_wp2_with fail
          refine (known_any w6 (HT.out.below B6.out)).mono ?_
          rintro e w7 ⟨rfl, b7⟩
          have B7 := Lib.hid (B6.out.trans (b7.mono B6.out.size))
          clear b7
          go_wp2_with fail
          go_ret
          exact ⟨rfl, B7.out⟩
end Go.Proofs.YtdogoblnblkogaaDoor.Pa
