/-
  The contracts of the reference's digits and value.
  Plain facts for the contract of the reference's Parse: what its conditions say of the form of a decimal.
  The contract of the reference's Parse: one walk for each sign and each way.
  The contract of the reference's Parse: texts with a point.
  The contract of the reference's Parse: texts with a point.
  The contract of the reference's Parse: texts with a point.
  The contract of the reference's Parse: texts with a point.
  The contract of the reference's Parse.
-/
import Derived.Test.YtfocokjihbenmaaGreatDoorNuPs
import Derived.Test.YtfocokjihbenmaaGreatDoorNuAd
import Derived.Deep.RegionWith
namespace Go.Proofs.YtfocokjihbenmaaGreatDoor.Nu
open Go.RowKit
set_option linter.unusedVariables false

def run1 (l : List UInt8) (i : Nat) : Nat := i + ((l.drop i).takeWhile isD).length
theorem run1_yes {l : List UInt8} {i : Nat} {x : UInt8} (hx : l[i]? = some x) (h : isD x = true) : run1 l (i + 1) = run1 l i := by
  obtain ⟨hi, he⟩ := List.getElem?_eq_some_iff.1 hx
  unfold run1
  rw [List.drop_eq_getElem_cons hi, he, List.takeWhile_cons_of_pos h, List.length_cons]
  omega
theorem run1_no {l : List UInt8} {i : Nat} {x : UInt8} (hx : l[i]? = some x) (h : isD x = false) : run1 l i = i := by
  obtain ⟨hi, he⟩ := List.getElem?_eq_some_iff.1 hx
  unfold run1
  rw [List.drop_eq_getElem_cons hi, he, List.takeWhile_cons_of_neg (by rw [h]; exact Bool.false_ne_true)]
  rfl
theorem run1_end {l : List UInt8} {i : Nat} (h : l.length ≤ i) : run1 l i = i := by
  unfold run1
  rw [List.drop_eq_nil_of_le h]
  rfl
set_option maxRecDepth 100000 in
set_option maxHeartbeats 1000000 in
theorem digits_any (s : ByteArray) (i : Nat) (w : World) (hs : s.size ≤ 1000) (hi : i ≤ s.size) : Calls Tryz.prog 79 #[.string s, .int .i64 (i : Int)] w fun e w' => e = .returned (.int .i64 (run1 s.data.toList i : Int)) ∧ w = w' := by
  go_enter Tryz.func79, Tryz.ntmps79
  go_wp2
  go_loop [1] (fun x => ∃ j : Nat, j ≤ s.size ∧ x = .int .i64 (j : Int) ∧ Hid (run1 s.data.toList j = run1 s.data.toList i)) (fun x => s.size - (intOf x).toNat)
  case atStart => exact ⟨i, hi, rfl, Lib.hid rfl⟩
  case round =>
    obtain ⟨j, hj, rfl, HR⟩ := hrel
    have hsz := Lib.size_eq s
    by_cases hlt : j < s.size
    · obtain ⟨x, hx⟩ : ∃ x : UInt8, s[j]'hlt = x := ⟨_, rfl⟩
      have hxl : s.data.toList[j]? = some x := by rw [← hx]; exact Lib.data_getElem? s j hlt
      have hd : decide ((j : Int) < (s.size : Int)) = true := decide_eq_true (by omega)
      by_cases h1 : x.toNat < 48
      · have HN := Lib.hid (run1_no hxl (decide_eq_false (by omega : ¬ (48 ≤ x.toNat ∧ x.toNat ≤ 57))))
        have d1 : decide ((48 : Int) ≤ (x.toNat : Int)) = false := decide_eq_false (by omega)
        clear hxl h1 hsz
        go_wp2
        go_ret
        exact ⟨by rw [← HR.out, HN.out]; rfl, rfl⟩
      · have d1 : decide ((48 : Int) ≤ (x.toNat : Int)) = true := decide_eq_true (by omega)
        by_cases h2 : 57 < x.toNat
        · have HN := Lib.hid (run1_no hxl (decide_eq_false (by omega : ¬ (48 ≤ x.toNat ∧ x.toNat ≤ 57))))
          have d2 : decide ((x.toNat : Int) ≤ (57 : Int)) = false := decide_eq_false (by omega)
          clear hxl h1 h2 hsz
          go_wp2
          go_ret
          exact ⟨by rw [← HR.out, HN.out]; rfl, rfl⟩
        · have d2 : decide ((x.toNat : Int) ≤ (57 : Int)) = true := decide_eq_true (by omega)
          have HY := Lib.hid (run1_yes hxl (decide_eq_true (by omega : 48 ≤ x.toNat ∧ x.toNat ≤ 57)))
          clear hxl h1 h2 hsz
          go_wp2
          go_round
          case rel => exact ⟨j + 1, by omega, by go_num, Lib.hid (by rw [HY.out, HR.out])⟩
          case measure => simp [intOf]; omega
    · obtain rfl : j = s.size := by omega
      have HN := Lib.hid (run1_end (l := s.data.toList) (i := s.size) (by omega))
      clear hsz
      go_wp2
      go_ret
      exact ⟨by rw [← HR.out, HN.out]; rfl, rfl⟩
theorem step_u8 {x : UInt8} {y : Nat} (hx : isD x = true) (hy : x.toNat - 48 = y) : IntKind.u8.wrap ((x.toNat : Int) - 48) = (y : Int) ∧ y ≤ 9 := by
  have h : 48 ≤ x.toNat ∧ x.toNat ≤ 57 := of_decide_eq_true hx
  refine ⟨?_, by omega⟩
  rw [IntKind.wrap_u8]
  omega
theorem step_n10 {v y : Nat} (hv : v < 100000000000000000) (hy : y ≤ 9) : IntKind.i64.wrap ((v : Int) * 10) = (v : Int) * 10 ∧ IntKind.i64.wrap ((v : Int) * 10 + (y : Int)) = ((10 * v + y : Nat) : Int) ∧ IntKind.i64.wrap (y : Int) = (y : Int) := by
  refine ⟨IntWalk.i64_in _ (by omega), ?_, IntWalk.i64_in _ (by omega)⟩
  rw [IntWalk.i64_in _ (by omega)]
  omega
set_option maxRecDepth 100000 in
set_option maxHeartbeats 1000000 in
theorem value_any (s : ByteArray) (w : World) (hs : s.size ≤ 18) (ha : s.data.toList.all isD = true) : Calls Tryz.prog 80 #[.string s] w fun e w' => e = .returned (.int .i64 (val s.data.toList : Int)) ∧ w = w' := by
  have HA := Lib.hid ha
  have HZ := Lib.hid (Lib.size_eq s)
  clear ha
  go_enter Tryz.func80, Tryz.ntmps80
  go_wp2
  go_loop [3, 4] (fun x y => ∃ j v : Nat, j ≤ s.size ∧ x = .int .i64 (v : Int) ∧ y = .int .i64 (j : Int) ∧ Hid (v = val (s.data.toList.take j))) (fun _ y => s.size - (intOf y).toNat)
  case atStart => exact ⟨0, 0, Nat.zero_le _, rfl, rfl, Lib.hid rfl⟩
  case round =>
    obtain ⟨j, v, hj, rfl, rfl, HR⟩ := hrel
    by_cases hlt : j < s.size
    · obtain ⟨x, hx⟩ : ∃ x : UInt8, s[j]'hlt = x := ⟨_, rfl⟩
      have hxl : s.data.toList[j]? = some x := by rw [← hx]; exact Lib.data_getElem? s j hlt
      have hd : decide ((j : Int) < (s.size : Int)) = true := decide_eq_true (by omega)
      obtain ⟨y, hy⟩ : ∃ y, x.toNat - 48 = y := ⟨_, rfl⟩
      obtain ⟨f1, f2⟩ := step_u8 (digit_at HA.out hxl) hy
      have hv2 : v < 100000000000000000 := by rw [HR.out]; exact val_take_lt HA.out (by omega)
      obtain ⟨g1, g2, g3⟩ := step_n10 hv2 f2
      have HV2 : Hid (10 * v + y = val (s.data.toList.take (j + 1))) := Lib.hid (by rw [val_step hxl, HR.out, hy])
      clear hxl hy f2 hv2 HR
      go_wp2
      go_round
      case rel => exact ⟨j + 1, 10 * v + y, by omega, rfl, by go_num, HV2⟩
      case measure => simp [intOf]; omega
    · obtain rfl : j = s.size := by omega
      have HN : Hid (v = val s.data.toList) := Lib.hid (by rw [HR.out, List.take_of_length_le (by rw [← HZ.out]; exact Nat.le_refl _)])
      clear HR
      go_wp2
      go_ret
      exact ⟨by rw [← HN.out]; rfl, rfl⟩
end Go.Proofs.YtfocokjihbenmaaGreatDoor.Nu

namespace Go.Proofs.YtfocokjihbenmaaGreatDoor.Nu

theorem run1_zero (l : List UInt8) : run1 l 0 = (l.takeWhile isD).length := by unfold run1; rw [Nat.zero_add, List.drop_zero]
theorem tw_le (l : List UInt8) : (l.takeWhile isD).length ≤ l.length := (List.takeWhile_sublist _).length_le
theorem tw_mem : ∀ {l : List UInt8} {x : UInt8}, x ∈ l.takeWhile isD → isD x = true
  | [], _, h => by cases h
  | b :: l, x, h => by
    by_cases hb : isD b = true
    · rw [List.takeWhile_cons_of_pos hb] at h
      rcases List.mem_cons.1 h with rfl | h
      · exact hb
      · exact tw_mem h
    · rw [List.takeWhile_cons_of_neg hb] at h
      cases h
theorem tw_digits (l : List UInt8) : (l.takeWhile isD).all isD = true := List.all_eq_true.2 fun _ hx => tw_mem hx
theorem tw_all {l : List UInt8} (h : (l.takeWhile isD).length = l.length) : l.all isD = true := by
  have : l.takeWhile isD = l := (List.takeWhile_prefix isD).eq_of_length h
  rw [← this]
  exact tw_digits l
theorem tw_of : ∀ {l : List UInt8}, l.all isD = true → (l.takeWhile isD).length = l.length
  | [], _ => rfl
  | b :: l, h => by
    rw [List.all_cons, Bool.and_eq_true] at h
    rw [List.takeWhile_cons_of_pos h.1, List.length_cons, List.length_cons, tw_of h.2]
/-- All digits. -/
theorem pb_all (neg : Bool) {l : List UInt8} (h : run1 l 0 = l.length) : pbody neg l = if 1 ≤ l.length ∧ l.length ≤ 9 then fit (if neg then -(val l : Int) else (val l : Int)) 1 else ⟨0, 0, 1⟩ := by
  rw [run1_zero] at h
  have ha := tw_all h
  unfold pbody
  rw [cut_none l ha]
  dsimp only
  by_cases hl : 1 ≤ l.length ∧ l.length ≤ 9
  · have hi : idB l [] false = true := by show adB l = true; rw [adB_in hl, ha]
    rw [if_pos hi, if_pos hl, List.append_nil]
    rfl
  · have hi : idB l [] false = false := by show adB l = false; exact adB_len hl
    rw [if_neg (by rw [hi]; exact Bool.false_ne_true), if_neg hl]
theorem tw_split : ∀ l : List UInt8, l.takeWhile isD ++ l.drop (l.takeWhile isD).length = l
  | [] => rfl
  | b :: l => by
    by_cases hb : isD b = true
    · rw [List.takeWhile_cons_of_pos hb, List.length_cons, List.drop_succ_cons, List.cons_append, tw_split l]
    · rw [List.takeWhile_cons_of_neg hb]
      rfl
theorem valFrom_lin : ∀ (l : List UInt8) (a : Nat), valFrom a l = a * 10 ^ l.length + val l
  | [], a => by simp [valFrom, val]
  | x :: l, a => by
    have e1 : valFrom a (x :: l) = valFrom (10 * a + (x.toNat - 48)) l := rfl
    have e2 : val (x :: l) = valFrom (10 * 0 + (x.toNat - 48)) l := rfl
    rw [e1, e2, valFrom_lin l (10 * a + (x.toNat - 48)), valFrom_lin l (10 * 0 + (x.toNat - 48)), List.length_cons, Nat.pow_succ]
    have : (10 * a + (x.toNat - 48)) * 10 ^ l.length = a * (10 ^ l.length * 10) + (x.toNat - 48) * 10 ^ l.length := by
      rw [Nat.add_mul, Nat.mul_comm 10 a, Nat.mul_assoc, Nat.mul_comm 10]
    rw [this, Nat.mul_zero, Nat.zero_add, Nat.add_assoc]
/-- Digits, a point, and a tail. -/
theorem pb_point (neg : Bool) {l r : List UInt8} (h : l.drop (run1 l 0) = 46 :: r) :
    pbody neg l = if run1 l 0 ≤ 9 ∧ (r.takeWhile isD).length = r.length ∧ 1 ≤ r.length ∧ r.length ≤ 9 then
      fit (if neg then -((val (l.takeWhile isD) * 10 ^ r.length + val r : Nat) : Int) else ((val (l.takeWhile isD) * 10 ^ r.length + val r : Nat) : Int)) (pw r.length) else ⟨0, 0, 1⟩ := by
  rw [run1_zero] at h ⊢
  have hs := tw_split l
  rw [h] at hs
  have hd := tw_digits l
  generalize l.takeWhile isD = a at *
  subst hs
  unfold pbody
  rw [cut_point a r hd]
  dsimp only
  by_cases hc : a.length ≤ 9 ∧ (r.takeWhile isD).length = r.length ∧ 1 ≤ r.length ∧ r.length ≤ 9
  · obtain ⟨c1, c2, c3, c4⟩ := hc
    have hr := tw_all c2
    have hi : idB a r true = true := by
      unfold idB
      rw [if_pos rfl, adB_in ⟨c3, c4⟩, hr, Bool.and_true, Bool.or_eq_true]
      by_cases ha : a = []
      · exact .inl (by rw [ha]; rfl)
      · exact .inr (by rw [adB_in ⟨List.length_pos_iff.2 ha, c1⟩, hd])
    rw [if_pos hi, if_pos (show a.length ≤ 9 ∧ (r.takeWhile isD).length = r.length ∧ 1 ≤ r.length ∧ r.length ≤ 9 from ⟨c1, c2, c3, c4⟩)]
    have : val (a ++ r) = val a * 10 ^ r.length + val r := by
      show valFrom 0 (a ++ r) = _
      rw [valFrom_append, valFrom_lin r]
      rfl
    simp only [this]
  · have hi : idB a r true = false := by
      rw [Bool.eq_false_iff]
      intro hh
      unfold idB at hh
      rw [if_pos rfl, Bool.and_eq_true, Bool.or_eq_true] at hh
      obtain ⟨h1, h2⟩ := hh
      have k2 := adB_ok h2
      have k3 : 1 ≤ r.length := by
        unfold adB at h2
        rw [Bool.and_eq_true, decide_eq_true_iff] at h2
        exact h2.1.1
      have k1 : a.length ≤ 9 := by
        rcases h1 with h1 | h1
        · rw [List.isEmpty_iff.1 h1]; exact Nat.zero_le _
        · exact (adB_ok h1).2
      exact hc ⟨k1, tw_of k2.1, k3, k2.2⟩
    rw [if_neg (by rw [hi]; exact Bool.false_ne_true), if_neg hc]
theorem cut_fst : ∀ (a : List UInt8) (c : UInt8) (r : List UInt8), a.all isD = true → c ≠ 46 → ∃ t, (cut (a ++ c :: r)).1 = a ++ c :: t
  | [], c, r, _, hc => by
    refine ⟨(cut r).1, ?_⟩
    show (cut (c :: r)).1 = _
    rw [cut, if_neg hc]
    rfl
  | x :: a, c, r, h, hc => by
    rw [List.all_cons, Bool.and_eq_true] at h
    obtain ⟨t, ht⟩ := cut_fst a c r h.2 hc
    have hx : x ≠ 46 := by rintro rfl; rw [isD_46] at h; exact absurd h.1 Bool.false_ne_true
    refine ⟨t, ?_⟩
    show (cut (x :: (a ++ c :: r))).1 = _
    rw [cut, if_neg hx]
    show x :: (cut (a ++ c :: r)).1 = _
    rw [ht]
    rfl
/-- Digits, then a byte that is neither a digit nor a point. -/
theorem pb_else (neg : Bool) {l r : List UInt8} {c : UInt8} (h : l.drop (run1 l 0) = c :: r) (hc : c ≠ 46) (hd : isD c = false) : pbody neg l = ⟨0, 0, 1⟩ := by
  rw [run1_zero] at h
  have hs := tw_split l
  rw [h] at hs
  have ha := tw_digits l
  obtain ⟨t, ht⟩ := cut_fst _ c r ha hc
  rw [hs] at ht
  have hn : adB (cut l).1 = false := by
    rw [ht, Bool.eq_false_iff]
    intro hh
    have := (adB_ok hh).1
    rw [List.all_append, List.all_cons, hd] at this
    simp at this
  have he : (cut l).1.isEmpty = false := by rw [ht]; simp
  unfold pbody
  have hi : idB (cut l).1 (cut l).2.1 (cut l).2.2 = false := by
    unfold idB
    rw [hn, he]
    split <;> rfl
  rw [if_neg (by rw [hi]; exact Bool.false_ne_true)]
open Go.RowKit in
theorem Power_q2 (k : Nat) (w : World) (h : k ≤ 9) : Calls Tryz.prog 81 #[.int .i64 (k : Int)] w fun e w' => e = .returned (.int .i64 (pw k)) ∧ w' = w :=
  (Power_any k w h).mono fun _ _ ⟨he, hw⟩ => ⟨he, hw.symm⟩
end Go.Proofs.YtfocokjihbenmaaGreatDoor.Nu

namespace Go.Proofs.YtfocokjihbenmaaGreatDoor.Nu
open Go.RowKit
set_option linter.unusedVariables false

set_option maxRecDepth 100000 in
set_option maxHeartbeats 4000000 in
theorem RP_all_n (s : ByteArray) (w : World) (hs : s.size ≤ 100) (x : UInt8) (h0 : 0 < s.size) (hx : s[0]'h0 = x) (hx1 : x.toNat ≠ 43) (hx2 : x.toNat ≠ 45) (hall : run1 s.data.toList 0 = s.data.toList.length) (hok : s.size ≤ 9) (hok1 : 1 ≤ s.size) :
    Calls Tryz.prog 39 #[.string s] w fun e w' => e = .returned (.tuple #[.agg #[.int .i64 (pbody false s.data.toList).n, .int .i64 (pbody false s.data.toList).d], .int .i64 (pbody false s.data.toList).e]) ∧ Below w.heap.size w w' := by
  have hsz := Lib.size_eq s
  have q0 : decide ((0 : Int) < (s.size : Int)) = true := decide_eq_true (by omega)
  have q1 : ((x.toNat : Int) == 43) = false := beq_eq_false_iff_ne.2 (by omega)
  have q2 : ((x.toNat : Int) == 45) = false := beq_eq_false_iff_ne.2 (by omega)
  have HA : Hid (pbody false s.data.toList = fit (val s.data.toList : Int) 1) := Lib.hid (by rw [pb_all false hall, if_pos ⟨by omega, by omega⟩]; rfl)
  have hda := tw_all (by rw [← run1_zero]; exact hall)
  have hv := val_18 hda (by omega)
  have CD := Lib.hid (fun w => digits_any s 0 w (by omega) (Nat.zero_le _))
  rw [hall, ← hsz] at CD
  have CV := Lib.hid (fun w => value_any s w (by omega) hda)
  generalize val s.data.toList = V at *
  have CF := Lib.hid (fun w => form_any (V : Int) 1 w (by omega) (by omega) (by decide))
  have e1 : IntKind.i64.wrap (1 * (V : Int)) = (V : Int) := by rw [IntWalk.i64_in _ (by omega)]; omega
  have e1' : IntKind.i64.wrap (V : Int) = (V : Int) := IntWalk.i64_in _ (by omega)
  have q3 : decide ((9 : Int) < (s.size : Int)) = false := decide_eq_false (by omega)
  have q4 : ((s.size : Int) == 0) = false := beq_eq_false_iff_ne.2 (by omega)
  have q5 : decide ((s.size : Int) < (s.size : Int)) = false := decide_eq_false (by omega)
  clear hsz hall hda hv hok hok1 hx1 hx2
  go_enter Tryz.func39, Tryz.ntmps39
  go_wp2_with fail
  refine (CD.out _).mono ?_
  rintro e w' ⟨rfl, rfl⟩
  go_wp2_with fail
  refine (CV.out _).mono ?_
  rintro e w' ⟨rfl, rfl⟩
  go_wp2_with fail
  refine (CF.out _).mono ?_
  rintro e w1 ⟨rfl, hb⟩
  obtain ⟨hc, hf⟩ := bcell hb
  have z0 := size1 hb
  have HB := Lib.hid (below1 hb)
  go_wp2
  exact bodyPost_ret (v := .tuple #[.agg #[.int .i64 (fit (V : Int) 1).n, .int .i64 (fit (V : Int) 1).d], .int .i64 (fit (V : Int) 1).e]) (by simp [results, Tryz.results39, go_sem, hc]) rfl ⟨by rw [HA.out], below_two HB.out _ _⟩
set_option maxRecDepth 100000 in
set_option maxHeartbeats 4000000 in
theorem RP_long_n (s : ByteArray) (w : World) (hs : s.size ≤ 100) (x : UInt8) (h0 : 0 < s.size) (hx : s[0]'h0 = x) (hx1 : x.toNat ≠ 43) (hx2 : x.toNat ≠ 45) (hall : run1 s.data.toList 0 = s.data.toList.length) (hbad : 9 < s.size) :
    Calls Tryz.prog 39 #[.string s] w fun e w' => e = .returned (.tuple #[.agg #[.int .i64 (pbody false s.data.toList).n, .int .i64 (pbody false s.data.toList).d], .int .i64 (pbody false s.data.toList).e]) ∧ Below w.heap.size w w' := by
  have hsz := Lib.size_eq s
  have q0 : decide ((0 : Int) < (s.size : Int)) = true := decide_eq_true (by omega)
  have q1 : ((x.toNat : Int) == 43) = false := beq_eq_false_iff_ne.2 (by omega)
  have q2 : ((x.toNat : Int) == 45) = false := beq_eq_false_iff_ne.2 (by omega)
  have HA : Hid (pbody false s.data.toList = ⟨0, 0, 1⟩) := Lib.hid (by rw [pb_all false hall, if_neg (by omega)])
  have CD := Lib.hid (fun w => digits_any s 0 w (by omega) (Nat.zero_le _))
  rw [hall, ← hsz] at CD
  have q3 : decide ((9 : Int) < (s.size : Int)) = true := decide_eq_true (by omega)
  clear hsz hall hbad hx1 hx2
  go_enter Tryz.func39, Tryz.ntmps39
  go_wp2_with fail
  refine (CD.out _).mono ?_
  rintro e w' ⟨rfl, rfl⟩
  go_wp2
  exact bodyPost_ret (v := .tuple #[.agg #[.int .i64 0, .int .i64 0], .int .i64 1]) (by simp [results, Tryz.results39, go_sem]) rfl ⟨by rw [HA.out], (Below.refl _ _).alloc (Nat.le_refl _) _⟩
set_option maxRecDepth 100000 in
set_option maxHeartbeats 4000000 in
theorem RP_else_n (s : ByteArray) (w : World) (hs : s.size ≤ 100) (x : UInt8) (h0 : 0 < s.size) (hx : s[0]'h0 = x) (hx1 : x.toNat ≠ 43) (hx2 : x.toNat ≠ 45) (I : Nat) (hI : run1 s.data.toList 0 = I) (y : UInt8) (h1 : I < s.size) (hy : s[I]'h1 = y) (hy1 : y.toNat ≠ 46) (HA : Hid (pbody false s.data.toList = ⟨0, 0, 1⟩)) :
    Calls Tryz.prog 39 #[.string s] w fun e w' => e = .returned (.tuple #[.agg #[.int .i64 (pbody false s.data.toList).n, .int .i64 (pbody false s.data.toList).d], .int .i64 (pbody false s.data.toList).e]) ∧ Below w.heap.size w w' := by
  have hsz := Lib.size_eq s
  have q0 : decide ((0 : Int) < (s.size : Int)) = true := decide_eq_true (by omega)
  have q1 : ((x.toNat : Int) == 43) = false := beq_eq_false_iff_ne.2 (by omega)
  have q2 : ((x.toNat : Int) == 45) = false := beq_eq_false_iff_ne.2 (by omega)
  have CD := Lib.hid (fun w => digits_any s 0 w (by omega) (Nat.zero_le _))
  rw [hI] at CD
  have q3 : decide ((I : Int) < (s.size : Int)) = true := decide_eq_true (by omega)
  have q4 : ((y.toNat : Int) == 46) = false := beq_eq_false_iff_ne.2 (by omega)
  have q5 : ((I : Int) == (s.size : Int)) = false := beq_eq_false_iff_ne.2 (by omega)
  clear hsz hI hy1 hx1 hx2
  go_enter Tryz.func39, Tryz.ntmps39
  go_wp2_with fail
  refine (CD.out _).mono ?_
  rintro e w' ⟨rfl, rfl⟩
  go_wp2
  exact bodyPost_ret (v := .tuple #[.agg #[.int .i64 0, .int .i64 0], .int .i64 1]) (by simp [results, Tryz.results39, go_sem]) rfl ⟨by rw [HA.out], (Below.refl _ _).alloc (Nat.le_refl _) _⟩
set_option maxRecDepth 100000 in
set_option maxHeartbeats 4000000 in
theorem RP_all_p (s : ByteArray) (w : World) (hs : s.size ≤ 100) (x : UInt8) (h0 : 0 < s.size) (hx : s[0]'h0 = x) (hx1 : x.toNat = 43) (r : ByteArray) (hr : s.extract 1 s.size = r) (hrs : r.size + 1 = s.size) (hall : run1 r.data.toList 0 = r.data.toList.length) (hok : r.size ≤ 9) (hok1 : 1 ≤ r.size) :
    Calls Tryz.prog 39 #[.string s] w fun e w' => e = .returned (.tuple #[.agg #[.int .i64 (pbody false r.data.toList).n, .int .i64 (pbody false r.data.toList).d], .int .i64 (pbody false r.data.toList).e]) ∧ Below w.heap.size w w' := by
  have hsz := Lib.size_eq r
  have q0 : decide ((0 : Int) < (s.size : Int)) = true := decide_eq_true (by omega)
  have q1 : ((x.toNat : Int) == 43) = true := beq_iff_eq.2 (by omega)
  have q2 : ((x.toNat : Int) == 45) = false := beq_eq_false_iff_ne.2 (by omega)
  have HA : Hid (pbody false r.data.toList = fit (val r.data.toList : Int) 1) := Lib.hid (by rw [pb_all false hall, if_pos ⟨by omega, by omega⟩]; rfl)
  have hda := tw_all (by rw [← run1_zero]; exact hall)
  have hv := val_18 hda (by omega)
  have CD := Lib.hid (fun w => digits_any r 0 w (by omega) (Nat.zero_le _))
  rw [hall, ← hsz] at CD
  have CV := Lib.hid (fun w => value_any r w (by omega) hda)
  generalize val r.data.toList = V at *
  have CF := Lib.hid (fun w => form_any (V : Int) 1 w (by omega) (by omega) (by decide))
  have e1 : IntKind.i64.wrap (1 * (V : Int)) = (V : Int) := by rw [IntWalk.i64_in _ (by omega)]; omega
  have e1' : IntKind.i64.wrap (V : Int) = (V : Int) := IntWalk.i64_in _ (by omega)
  have q3 : decide ((9 : Int) < (r.size : Int)) = false := decide_eq_false (by omega)
  have q4 : ((r.size : Int) == 0) = false := beq_eq_false_iff_ne.2 (by omega)
  have q5 : decide ((r.size : Int) < (r.size : Int)) = false := decide_eq_false (by omega)
  clear hsz hall hda hv hok hok1 hx1 hrs
  go_enter Tryz.func39, Tryz.ntmps39
  go_wp2_with fail
  refine (CD.out _).mono ?_
  rintro e w' ⟨rfl, rfl⟩
  go_wp2_with fail
  refine (CV.out _).mono ?_
  rintro e w' ⟨rfl, rfl⟩
  go_wp2_with fail
  refine (CF.out _).mono ?_
  rintro e w1 ⟨rfl, hb⟩
  obtain ⟨hc, hf⟩ := bcell hb
  have z0 := size1 hb
  have HB := Lib.hid (below1 hb)
  go_wp2
  exact bodyPost_ret (v := .tuple #[.agg #[.int .i64 (fit (V : Int) 1).n, .int .i64 (fit (V : Int) 1).d], .int .i64 (fit (V : Int) 1).e]) (by simp [results, Tryz.results39, go_sem, hc]) rfl ⟨by rw [HA.out], below_two HB.out _ _⟩
set_option maxRecDepth 100000 in
set_option maxHeartbeats 4000000 in
theorem RP_long_p (s : ByteArray) (w : World) (hs : s.size ≤ 100) (x : UInt8) (h0 : 0 < s.size) (hx : s[0]'h0 = x) (hx1 : x.toNat = 43) (r : ByteArray) (hr : s.extract 1 s.size = r) (hrs : r.size + 1 = s.size) (hall : run1 r.data.toList 0 = r.data.toList.length) (hbad : 9 < r.size) :
    Calls Tryz.prog 39 #[.string s] w fun e w' => e = .returned (.tuple #[.agg #[.int .i64 (pbody false r.data.toList).n, .int .i64 (pbody false r.data.toList).d], .int .i64 (pbody false r.data.toList).e]) ∧ Below w.heap.size w w' := by
  have hsz := Lib.size_eq r
  have q0 : decide ((0 : Int) < (s.size : Int)) = true := decide_eq_true (by omega)
  have q1 : ((x.toNat : Int) == 43) = true := beq_iff_eq.2 (by omega)
  have q2 : ((x.toNat : Int) == 45) = false := beq_eq_false_iff_ne.2 (by omega)
  have HA : Hid (pbody false r.data.toList = ⟨0, 0, 1⟩) := Lib.hid (by rw [pb_all false hall, if_neg (by omega)])
  have CD := Lib.hid (fun w => digits_any r 0 w (by omega) (Nat.zero_le _))
  rw [hall, ← hsz] at CD
  have q3 : decide ((9 : Int) < (r.size : Int)) = true := decide_eq_true (by omega)
  clear hsz hall hbad hx1 hrs
  go_enter Tryz.func39, Tryz.ntmps39
  go_wp2_with fail
  refine (CD.out _).mono ?_
  rintro e w' ⟨rfl, rfl⟩
  go_wp2
  exact bodyPost_ret (v := .tuple #[.agg #[.int .i64 0, .int .i64 0], .int .i64 1]) (by simp [results, Tryz.results39, go_sem]) rfl ⟨by rw [HA.out], (Below.refl _ _).alloc (Nat.le_refl _) _⟩
set_option maxRecDepth 100000 in
set_option maxHeartbeats 4000000 in
theorem RP_none_p (s : ByteArray) (w : World) (hs : s.size ≤ 100) (x : UInt8) (h0 : 0 < s.size) (hx : s[0]'h0 = x) (hx1 : x.toNat = 43) (r : ByteArray) (hr : s.extract 1 s.size = r) (hrs : r.size + 1 = s.size) (hall : run1 r.data.toList 0 = r.data.toList.length) (hbad : r.size = 0) :
    Calls Tryz.prog 39 #[.string s] w fun e w' => e = .returned (.tuple #[.agg #[.int .i64 (pbody false r.data.toList).n, .int .i64 (pbody false r.data.toList).d], .int .i64 (pbody false r.data.toList).e]) ∧ Below w.heap.size w w' := by
  have hsz := Lib.size_eq r
  have q0 : decide ((0 : Int) < (s.size : Int)) = true := decide_eq_true (by omega)
  have q1 : ((x.toNat : Int) == 43) = true := beq_iff_eq.2 (by omega)
  have q2 : ((x.toNat : Int) == 45) = false := beq_eq_false_iff_ne.2 (by omega)
  have HA : Hid (pbody false r.data.toList = ⟨0, 0, 1⟩) := Lib.hid (by rw [pb_all false hall, if_neg (by omega)])
  have CD := Lib.hid (fun w => digits_any r 0 w (by omega) (Nat.zero_le _))
  rw [hall, ← hsz] at CD
  have q3 : (r.size : Int) = 0 := by omega
  clear hsz hall hbad hx1 hrs
  go_enter Tryz.func39, Tryz.ntmps39
  go_wp2_with fail
  refine (CD.out _).mono ?_
  rintro e w' ⟨rfl, rfl⟩
  go_wp2
  exact bodyPost_ret (v := .tuple #[.agg #[.int .i64 0, .int .i64 0], .int .i64 1]) (by simp [results, Tryz.results39, go_sem]) rfl ⟨by rw [HA.out], (Below.refl _ _).alloc (Nat.le_refl _) _⟩
set_option maxRecDepth 100000 in
set_option maxHeartbeats 4000000 in
theorem RP_else_p (s : ByteArray) (w : World) (hs : s.size ≤ 100) (x : UInt8) (h0 : 0 < s.size) (hx : s[0]'h0 = x) (hx1 : x.toNat = 43) (r : ByteArray) (hr : s.extract 1 s.size = r) (hrs : r.size + 1 = s.size) (I : Nat) (hI : run1 r.data.toList 0 = I) (y : UInt8) (h1 : I < r.size) (hy : r[I]'h1 = y) (hy1 : y.toNat ≠ 46) (HA : Hid (pbody false r.data.toList = ⟨0, 0, 1⟩)) :
    Calls Tryz.prog 39 #[.string s] w fun e w' => e = .returned (.tuple #[.agg #[.int .i64 (pbody false r.data.toList).n, .int .i64 (pbody false r.data.toList).d], .int .i64 (pbody false r.data.toList).e]) ∧ Below w.heap.size w w' := by
  have hsz := Lib.size_eq r
  have q0 : decide ((0 : Int) < (s.size : Int)) = true := decide_eq_true (by omega)
  have q1 : ((x.toNat : Int) == 43) = true := beq_iff_eq.2 (by omega)
  have q2 : ((x.toNat : Int) == 45) = false := beq_eq_false_iff_ne.2 (by omega)
  have CD := Lib.hid (fun w => digits_any r 0 w (by omega) (Nat.zero_le _))
  rw [hI] at CD
  have q3 : decide ((I : Int) < (r.size : Int)) = true := decide_eq_true (by omega)
  have q4 : ((y.toNat : Int) == 46) = false := beq_eq_false_iff_ne.2 (by omega)
  have q5 : ((I : Int) == (r.size : Int)) = false := beq_eq_false_iff_ne.2 (by omega)
  clear hsz hI hy1 hx1 hrs
  go_enter Tryz.func39, Tryz.ntmps39
  go_wp2_with fail
  refine (CD.out _).mono ?_
  rintro e w' ⟨rfl, rfl⟩
  go_wp2
  exact bodyPost_ret (v := .tuple #[.agg #[.int .i64 0, .int .i64 0], .int .i64 1]) (by simp [results, Tryz.results39, go_sem]) rfl ⟨by rw [HA.out], (Below.refl _ _).alloc (Nat.le_refl _) _⟩
set_option maxRecDepth 100000 in
set_option maxHeartbeats 4000000 in
theorem RP_all_m (s : ByteArray) (w : World) (hs : s.size ≤ 100) (x : UInt8) (h0 : 0 < s.size) (hx : s[0]'h0 = x) (hx1 : x.toNat = 45) (r : ByteArray) (hr : s.extract 1 s.size = r) (hrs : r.size + 1 = s.size) (hall : run1 r.data.toList 0 = r.data.toList.length) (hok : r.size ≤ 9) (hok1 : 1 ≤ r.size) :
    Calls Tryz.prog 39 #[.string s] w fun e w' => e = .returned (.tuple #[.agg #[.int .i64 (pbody true r.data.toList).n, .int .i64 (pbody true r.data.toList).d], .int .i64 (pbody true r.data.toList).e]) ∧ Below w.heap.size w w' := by
  have hsz := Lib.size_eq r
  have q0 : decide ((0 : Int) < (s.size : Int)) = true := decide_eq_true (by omega)
  have q1 : ((x.toNat : Int) == 43) = false := beq_eq_false_iff_ne.2 (by omega)
  have q2 : ((x.toNat : Int) == 45) = true := beq_iff_eq.2 (by omega)
  have HA : Hid (pbody true r.data.toList = fit (-(val r.data.toList : Int)) 1) := Lib.hid (by rw [pb_all true hall, if_pos ⟨by omega, by omega⟩]; rfl)
  have hda := tw_all (by rw [← run1_zero]; exact hall)
  have hv := val_18 hda (by omega)
  have CD := Lib.hid (fun w => digits_any r 0 w (by omega) (Nat.zero_le _))
  rw [hall, ← hsz] at CD
  have CV := Lib.hid (fun w => value_any r w (by omega) hda)
  generalize val r.data.toList = V at *
  have CF := Lib.hid (fun w => form_any (-(V : Int)) 1 w (by omega) (by omega) (by decide))
  have e1 : IntKind.i64.wrap (-1 * (V : Int)) = -(V : Int) := by rw [IntWalk.i64_in _ (by omega)]; omega
  have e1' : IntKind.i64.wrap (-(V : Int)) = -(V : Int) := IntWalk.i64_in _ (by omega)
  have q3 : decide ((9 : Int) < (r.size : Int)) = false := decide_eq_false (by omega)
  have q4 : ((r.size : Int) == 0) = false := beq_eq_false_iff_ne.2 (by omega)
  have q5 : decide ((r.size : Int) < (r.size : Int)) = false := decide_eq_false (by omega)
  clear hsz hall hda hv hok hok1 hx1 hrs
  go_enter Tryz.func39, Tryz.ntmps39
  go_wp2_with fail
  refine (CD.out _).mono ?_
  rintro e w' ⟨rfl, rfl⟩
  go_wp2_with fail
  refine (CV.out _).mono ?_
  rintro e w' ⟨rfl, rfl⟩
  go_wp2_with fail
  refine (CF.out _).mono ?_
  rintro e w1 ⟨rfl, hb⟩
  obtain ⟨hc, hf⟩ := bcell hb
  have z0 := size1 hb
  have HB := Lib.hid (below1 hb)
  go_wp2
  exact bodyPost_ret (v := .tuple #[.agg #[.int .i64 (fit (-(V : Int)) 1).n, .int .i64 (fit (-(V : Int)) 1).d], .int .i64 (fit (-(V : Int)) 1).e]) (by simp [results, Tryz.results39, go_sem, hc]) rfl ⟨by rw [HA.out], below_two HB.out _ _⟩
set_option maxRecDepth 100000 in
set_option maxHeartbeats 4000000 in
theorem RP_long_m (s : ByteArray) (w : World) (hs : s.size ≤ 100) (x : UInt8) (h0 : 0 < s.size) (hx : s[0]'h0 = x) (hx1 : x.toNat = 45) (r : ByteArray) (hr : s.extract 1 s.size = r) (hrs : r.size + 1 = s.size) (hall : run1 r.data.toList 0 = r.data.toList.length) (hbad : 9 < r.size) :
    Calls Tryz.prog 39 #[.string s] w fun e w' => e = .returned (.tuple #[.agg #[.int .i64 (pbody true r.data.toList).n, .int .i64 (pbody true r.data.toList).d], .int .i64 (pbody true r.data.toList).e]) ∧ Below w.heap.size w w' := by
  have hsz := Lib.size_eq r
  have q0 : decide ((0 : Int) < (s.size : Int)) = true := decide_eq_true (by omega)
  have q1 : ((x.toNat : Int) == 43) = false := beq_eq_false_iff_ne.2 (by omega)
  have q2 : ((x.toNat : Int) == 45) = true := beq_iff_eq.2 (by omega)
  have HA : Hid (pbody true r.data.toList = ⟨0, 0, 1⟩) := Lib.hid (by rw [pb_all true hall, if_neg (by omega)])
  have CD := Lib.hid (fun w => digits_any r 0 w (by omega) (Nat.zero_le _))
  rw [hall, ← hsz] at CD
  have q3 : decide ((9 : Int) < (r.size : Int)) = true := decide_eq_true (by omega)
  clear hsz hall hbad hx1 hrs
  go_enter Tryz.func39, Tryz.ntmps39
  go_wp2_with fail
  refine (CD.out _).mono ?_
  rintro e w' ⟨rfl, rfl⟩
  go_wp2
  exact bodyPost_ret (v := .tuple #[.agg #[.int .i64 0, .int .i64 0], .int .i64 1]) (by simp [results, Tryz.results39, go_sem]) rfl ⟨by rw [HA.out], (Below.refl _ _).alloc (Nat.le_refl _) _⟩
set_option maxRecDepth 100000 in
set_option maxHeartbeats 4000000 in
theorem RP_none_m (s : ByteArray) (w : World) (hs : s.size ≤ 100) (x : UInt8) (h0 : 0 < s.size) (hx : s[0]'h0 = x) (hx1 : x.toNat = 45) (r : ByteArray) (hr : s.extract 1 s.size = r) (hrs : r.size + 1 = s.size) (hall : run1 r.data.toList 0 = r.data.toList.length) (hbad : r.size = 0) :
    Calls Tryz.prog 39 #[.string s] w fun e w' => e = .returned (.tuple #[.agg #[.int .i64 (pbody true r.data.toList).n, .int .i64 (pbody true r.data.toList).d], .int .i64 (pbody true r.data.toList).e]) ∧ Below w.heap.size w w' := by
  have hsz := Lib.size_eq r
  have q0 : decide ((0 : Int) < (s.size : Int)) = true := decide_eq_true (by omega)
  have q1 : ((x.toNat : Int) == 43) = false := beq_eq_false_iff_ne.2 (by omega)
  have q2 : ((x.toNat : Int) == 45) = true := beq_iff_eq.2 (by omega)
  have HA : Hid (pbody true r.data.toList = ⟨0, 0, 1⟩) := Lib.hid (by rw [pb_all true hall, if_neg (by omega)])
  have CD := Lib.hid (fun w => digits_any r 0 w (by omega) (Nat.zero_le _))
  rw [hall, ← hsz] at CD
  have q3 : (r.size : Int) = 0 := by omega
  clear hsz hall hbad hx1 hrs
  go_enter Tryz.func39, Tryz.ntmps39
  go_wp2_with fail
  refine (CD.out _).mono ?_
  rintro e w' ⟨rfl, rfl⟩
  go_wp2
  exact bodyPost_ret (v := .tuple #[.agg #[.int .i64 0, .int .i64 0], .int .i64 1]) (by simp [results, Tryz.results39, go_sem]) rfl ⟨by rw [HA.out], (Below.refl _ _).alloc (Nat.le_refl _) _⟩
set_option maxRecDepth 100000 in
set_option maxHeartbeats 4000000 in
theorem RP_else_m (s : ByteArray) (w : World) (hs : s.size ≤ 100) (x : UInt8) (h0 : 0 < s.size) (hx : s[0]'h0 = x) (hx1 : x.toNat = 45) (r : ByteArray) (hr : s.extract 1 s.size = r) (hrs : r.size + 1 = s.size) (I : Nat) (hI : run1 r.data.toList 0 = I) (y : UInt8) (h1 : I < r.size) (hy : r[I]'h1 = y) (hy1 : y.toNat ≠ 46) (HA : Hid (pbody true r.data.toList = ⟨0, 0, 1⟩)) :
    Calls Tryz.prog 39 #[.string s] w fun e w' => e = .returned (.tuple #[.agg #[.int .i64 (pbody true r.data.toList).n, .int .i64 (pbody true r.data.toList).d], .int .i64 (pbody true r.data.toList).e]) ∧ Below w.heap.size w w' := by
  have hsz := Lib.size_eq r
  have q0 : decide ((0 : Int) < (s.size : Int)) = true := decide_eq_true (by omega)
  have q1 : ((x.toNat : Int) == 43) = false := beq_eq_false_iff_ne.2 (by omega)
  have q2 : ((x.toNat : Int) == 45) = true := beq_iff_eq.2 (by omega)
  have CD := Lib.hid (fun w => digits_any r 0 w (by omega) (Nat.zero_le _))
  rw [hI] at CD
  have q3 : decide ((I : Int) < (r.size : Int)) = true := decide_eq_true (by omega)
  have q4 : ((y.toNat : Int) == 46) = false := beq_eq_false_iff_ne.2 (by omega)
  have q5 : ((I : Int) == (r.size : Int)) = false := beq_eq_false_iff_ne.2 (by omega)
  clear hsz hI hy1 hx1 hrs
  go_enter Tryz.func39, Tryz.ntmps39
  go_wp2_with fail
  refine (CD.out _).mono ?_
  rintro e w' ⟨rfl, rfl⟩
  go_wp2
  exact bodyPost_ret (v := .tuple #[.agg #[.int .i64 0, .int .i64 0], .int .i64 1]) (by simp [results, Tryz.results39, go_sem]) rfl ⟨by rw [HA.out], (Below.refl _ _).alloc (Nat.le_refl _) _⟩
end Go.Proofs.YtfocokjihbenmaaGreatDoor.Nu

namespace Go.Proofs.YtfocokjihbenmaaGreatDoor.Nu
open Go.RowKit
set_option linter.unusedVariables false

set_option maxRecDepth 100000 in
set_option maxHeartbeats 4000000 in
theorem RP_pk_n (s : ByteArray) (w : World) (hs : s.size ≤ 100) (x : UInt8) (h0 : 0 < s.size) (hx : s[0]'h0 = x) (hx1 : x.toNat ≠ 43) (hx2 : x.toNat ≠ 45) (I K : Nat) (hI : run1 s.data.toList 0 = I) (y : UInt8) (h1 : I < s.size) (hy : s[I]'h1 = y) (hy1 : y.toNat = 46) (hK : run1 s.data.toList (I + 1) = K) (hKb : K ≠ s.size) (HA : Hid (pbody false s.data.toList = ⟨0, 0, 1⟩)) :
    Calls Tryz.prog 39 #[.string s] w fun e w' => e = .returned (.tuple #[.agg #[.int .i64 (pbody false s.data.toList).n, .int .i64 (pbody false s.data.toList).d], .int .i64 (pbody false s.data.toList).e]) ∧ Below w.heap.size w w' := by
  have hsz := Lib.size_eq s
  have q0 : decide ((0 : Int) < (s.size : Int)) = true := decide_eq_true (by omega)
  have q1 : ((x.toNat : Int) == 43) = false := beq_eq_false_iff_ne.2 (by omega)
  have q2 : ((x.toNat : Int) == 45) = false := beq_eq_false_iff_ne.2 (by omega)
  have CD := Lib.hid (fun w => digits_any s 0 w (by omega) (Nat.zero_le _))
  rw [hI] at CD
  have cd2 := fun w => digits_any s (I + 1) w (by omega) (by omega)
  rw [hK, Int.natCast_succ] at cd2
  have CD2 := Lib.hid cd2
  have eI : IntKind.i64.wrap ((I : Int) + 1) = (I : Int) + 1 := IntWalk.i64_in _ (by omega)
  have q3 : decide ((I : Int) < (s.size : Int)) = true := decide_eq_true (by omega)
  have q4 : ((y.toNat : Int) == 46) = true := beq_iff_eq.2 (by omega)
  have q5 : ((K : Int) == (s.size : Int)) = false := beq_eq_false_iff_ne.2 (by omega)
  have q6 : ((K : Int) != (s.size : Int)) = true := by rw [bne, q5]; rfl
  have q8 : ¬ (K : Int) = (s.size : Int) := by omega
  clear hKb
  clear hsz hI hK cd2 hy1 hx1 hx2
  go_enter Tryz.func39, Tryz.ntmps39
  go_wp2_with fail
  refine (CD.out _).mono ?_
  rintro e w' ⟨rfl, rfl⟩
  go_wp2_with fail
  refine (CD2.out _).mono ?_
  rintro e w' ⟨rfl, rfl⟩
  go_wp2
  exact bodyPost_ret (v := .tuple #[.agg #[.int .i64 0, .int .i64 0], .int .i64 1]) (by simp [results, Tryz.results39, go_sem]) rfl ⟨by rw [HA.out], (Below.refl _ _).alloc (Nat.le_refl _) _⟩
set_option maxRecDepth 100000 in
set_option maxHeartbeats 4000000 in
theorem RP_pi_n (s : ByteArray) (w : World) (hs : s.size ≤ 100) (x : UInt8) (h0 : 0 < s.size) (hx : s[0]'h0 = x) (hx1 : x.toNat ≠ 43) (hx2 : x.toNat ≠ 45) (I K : Nat) (hI : run1 s.data.toList 0 = I) (y : UInt8) (h1 : I < s.size) (hy : s[I]'h1 = y) (hy1 : y.toNat = 46) (hK : run1 s.data.toList (I + 1) = s.size) (hb : 9 < I) (HA : Hid (pbody false s.data.toList = ⟨0, 0, 1⟩)) :
    Calls Tryz.prog 39 #[.string s] w fun e w' => e = .returned (.tuple #[.agg #[.int .i64 (pbody false s.data.toList).n, .int .i64 (pbody false s.data.toList).d], .int .i64 (pbody false s.data.toList).e]) ∧ Below w.heap.size w w' := by
  have hsz := Lib.size_eq s
  have q0 : decide ((0 : Int) < (s.size : Int)) = true := decide_eq_true (by omega)
  have q1 : ((x.toNat : Int) == 43) = false := beq_eq_false_iff_ne.2 (by omega)
  have q2 : ((x.toNat : Int) == 45) = false := beq_eq_false_iff_ne.2 (by omega)
  have CD := Lib.hid (fun w => digits_any s 0 w (by omega) (Nat.zero_le _))
  rw [hI] at CD
  have cd2 := fun w => digits_any s (I + 1) w (by omega) (by omega)
  rw [hK, Int.natCast_succ] at cd2
  have CD2 := Lib.hid cd2
  have eI : IntKind.i64.wrap ((I : Int) + 1) = (I : Int) + 1 := IntWalk.i64_in _ (by omega)
  have q3 : decide ((I : Int) < (s.size : Int)) = true := decide_eq_true (by omega)
  have q4 : ((y.toNat : Int) == 46) = true := beq_iff_eq.2 (by omega)
  have q5 : decide ((9 : Int) < (I : Int)) = true := decide_eq_true (by omega)
  clear hb
  clear hsz hI hK cd2 hy1 hx1 hx2
  go_enter Tryz.func39, Tryz.ntmps39
  go_wp2_with fail
  refine (CD.out _).mono ?_
  rintro e w' ⟨rfl, rfl⟩
  go_wp2_with fail
  refine (CD2.out _).mono ?_
  rintro e w' ⟨rfl, rfl⟩
  go_wp2
  exact bodyPost_ret (v := .tuple #[.agg #[.int .i64 0, .int .i64 0], .int .i64 1]) (by simp [results, Tryz.results39, go_sem]) rfl ⟨by rw [HA.out], (Below.refl _ _).alloc (Nat.le_refl _) _⟩
set_option maxRecDepth 100000 in
set_option maxHeartbeats 4000000 in
theorem RP_p0_n (s : ByteArray) (w : World) (hs : s.size ≤ 100) (x : UInt8) (h0 : 0 < s.size) (hx : s[0]'h0 = x) (hx1 : x.toNat ≠ 43) (hx2 : x.toNat ≠ 45) (I K : Nat) (hI : run1 s.data.toList 0 = I) (y : UInt8) (h1 : I < s.size) (hy : s[I]'h1 = y) (hy1 : y.toNat = 46) (hK : run1 s.data.toList (I + 1) = s.size) (hb : I ≤ 9) (hm : s.size = I + 1) (HA : Hid (pbody false s.data.toList = ⟨0, 0, 1⟩)) :
    Calls Tryz.prog 39 #[.string s] w fun e w' => e = .returned (.tuple #[.agg #[.int .i64 (pbody false s.data.toList).n, .int .i64 (pbody false s.data.toList).d], .int .i64 (pbody false s.data.toList).e]) ∧ Below w.heap.size w w' := by
  have hsz := Lib.size_eq s
  have q0 : decide ((0 : Int) < (s.size : Int)) = true := decide_eq_true (by omega)
  have q1 : ((x.toNat : Int) == 43) = false := beq_eq_false_iff_ne.2 (by omega)
  have q2 : ((x.toNat : Int) == 45) = false := beq_eq_false_iff_ne.2 (by omega)
  have CD := Lib.hid (fun w => digits_any s 0 w (by omega) (Nat.zero_le _))
  rw [hI] at CD
  have cd2 := fun w => digits_any s (I + 1) w (by omega) (by omega)
  rw [hK, Int.natCast_succ] at cd2
  have CD2 := Lib.hid cd2
  have eI : IntKind.i64.wrap ((I : Int) + 1) = (I : Int) + 1 := IntWalk.i64_in _ (by omega)
  have q3 : decide ((I : Int) < (s.size : Int)) = true := decide_eq_true (by omega)
  have q4 : ((y.toNat : Int) == 46) = true := beq_iff_eq.2 (by omega)
  have q5 : decide ((9 : Int) < (I : Int)) = false := decide_eq_false (by omega)
  have s1 : IntKind.i64.wrap ((s.size : Int) - (I : Int)) = (s.size : Int) - (I : Int) := IntWalk.i64_in _ (by omega)
  have s2 : IntKind.i64.wrap ((s.size : Int) - (I : Int) - 1) = 0 := by rw [IntWalk.i64_in _ (by omega)]; omega
  clear hb hm
  clear hsz hI hK cd2 hy1 hx1 hx2
  go_enter Tryz.func39, Tryz.ntmps39
  go_wp2_with fail
  refine (CD.out _).mono ?_
  rintro e w' ⟨rfl, rfl⟩
  go_wp2_with fail
  refine (CD2.out _).mono ?_
  rintro e w' ⟨rfl, rfl⟩
  go_wp2
  exact bodyPost_ret (v := .tuple #[.agg #[.int .i64 0, .int .i64 0], .int .i64 1]) (by simp [results, Tryz.results39, go_sem]) rfl ⟨by rw [HA.out], (Below.refl _ _).alloc (Nat.le_refl _) _⟩
set_option maxRecDepth 100000 in
set_option maxHeartbeats 4000000 in
theorem RP_p9_n (s : ByteArray) (w : World) (hs : s.size ≤ 100) (x : UInt8) (h0 : 0 < s.size) (hx : s[0]'h0 = x) (hx1 : x.toNat ≠ 43) (hx2 : x.toNat ≠ 45) (I K : Nat) (hI : run1 s.data.toList 0 = I) (y : UInt8) (h1 : I < s.size) (hy : s[I]'h1 = y) (hy1 : y.toNat = 46) (hK : run1 s.data.toList (I + 1) = s.size) (hb : I ≤ 9) (hm : s.size = I + 1 + K) (hm9 : 9 < K) (HA : Hid (pbody false s.data.toList = ⟨0, 0, 1⟩)) :
    Calls Tryz.prog 39 #[.string s] w fun e w' => e = .returned (.tuple #[.agg #[.int .i64 (pbody false s.data.toList).n, .int .i64 (pbody false s.data.toList).d], .int .i64 (pbody false s.data.toList).e]) ∧ Below w.heap.size w w' := by
  have hsz := Lib.size_eq s
  have q0 : decide ((0 : Int) < (s.size : Int)) = true := decide_eq_true (by omega)
  have q1 : ((x.toNat : Int) == 43) = false := beq_eq_false_iff_ne.2 (by omega)
  have q2 : ((x.toNat : Int) == 45) = false := beq_eq_false_iff_ne.2 (by omega)
  have CD := Lib.hid (fun w => digits_any s 0 w (by omega) (Nat.zero_le _))
  rw [hI] at CD
  have cd2 := fun w => digits_any s (I + 1) w (by omega) (by omega)
  rw [hK, Int.natCast_succ] at cd2
  have CD2 := Lib.hid cd2
  have eI : IntKind.i64.wrap ((I : Int) + 1) = (I : Int) + 1 := IntWalk.i64_in _ (by omega)
  have q3 : decide ((I : Int) < (s.size : Int)) = true := decide_eq_true (by omega)
  have q4 : ((y.toNat : Int) == 46) = true := beq_iff_eq.2 (by omega)
  have q5 : decide ((9 : Int) < (I : Int)) = false := decide_eq_false (by omega)
  have s1 : IntKind.i64.wrap ((s.size : Int) - (I : Int)) = (s.size : Int) - (I : Int) := IntWalk.i64_in _ (by omega)
  have s2 : IntKind.i64.wrap ((s.size : Int) - (I : Int) - 1) = (K : Int) := by rw [IntWalk.i64_in _ (by omega)]; omega
  have q6 : decide ((K : Int) < 1) = false := decide_eq_false (by omega)
  have q7 : decide ((9 : Int) < (K : Int)) = true := decide_eq_true (by omega)
  clear hm9
  clear hb hm
  clear hsz hI hK cd2 hy1 hx1 hx2
  go_enter Tryz.func39, Tryz.ntmps39
  go_wp2_with fail
  refine (CD.out _).mono ?_
  rintro e w' ⟨rfl, rfl⟩
  go_wp2_with fail
  refine (CD2.out _).mono ?_
  rintro e w' ⟨rfl, rfl⟩
  go_wp2
  exact bodyPost_ret (v := .tuple #[.agg #[.int .i64 0, .int .i64 0], .int .i64 1]) (by simp [results, Tryz.results39, go_sem]) rfl ⟨by rw [HA.out], (Below.refl _ _).alloc (Nat.le_refl _) _⟩
set_option maxRecDepth 100000 in
set_option maxHeartbeats 4000000 in
theorem RP_pk_p (s : ByteArray) (w : World) (hs : s.size ≤ 100) (x : UInt8) (h0 : 0 < s.size) (hx : s[0]'h0 = x) (hx1 : x.toNat = 43) (r : ByteArray) (hr : s.extract 1 s.size = r) (hrs : r.size + 1 = s.size) (I K : Nat) (hI : run1 r.data.toList 0 = I) (y : UInt8) (h1 : I < r.size) (hy : r[I]'h1 = y) (hy1 : y.toNat = 46) (hK : run1 r.data.toList (I + 1) = K) (hKb : K ≠ r.size) (HA : Hid (pbody false r.data.toList = ⟨0, 0, 1⟩)) :
    Calls Tryz.prog 39 #[.string s] w fun e w' => e = .returned (.tuple #[.agg #[.int .i64 (pbody false r.data.toList).n, .int .i64 (pbody false r.data.toList).d], .int .i64 (pbody false r.data.toList).e]) ∧ Below w.heap.size w w' := by
  have hsz := Lib.size_eq r
  have q0 : decide ((0 : Int) < (s.size : Int)) = true := decide_eq_true (by omega)
  have q1 : ((x.toNat : Int) == 43) = true := beq_iff_eq.2 (by omega)
  have q2 : ((x.toNat : Int) == 45) = false := beq_eq_false_iff_ne.2 (by omega)
  have CD := Lib.hid (fun w => digits_any r 0 w (by omega) (Nat.zero_le _))
  rw [hI] at CD
  have cd2 := fun w => digits_any r (I + 1) w (by omega) (by omega)
  rw [hK, Int.natCast_succ] at cd2
  have CD2 := Lib.hid cd2
  have eI : IntKind.i64.wrap ((I : Int) + 1) = (I : Int) + 1 := IntWalk.i64_in _ (by omega)
  have q3 : decide ((I : Int) < (r.size : Int)) = true := decide_eq_true (by omega)
  have q4 : ((y.toNat : Int) == 46) = true := beq_iff_eq.2 (by omega)
  have q5 : ((K : Int) == (r.size : Int)) = false := beq_eq_false_iff_ne.2 (by omega)
  have q6 : ((K : Int) != (r.size : Int)) = true := by rw [bne, q5]; rfl
  have q8 : ¬ (K : Int) = (r.size : Int) := by omega
  clear hKb
  clear hsz hI hK cd2 hy1 hx1 hrs
  go_enter Tryz.func39, Tryz.ntmps39
  go_wp2_with fail
  refine (CD.out _).mono ?_
  rintro e w' ⟨rfl, rfl⟩
  go_wp2_with fail
  refine (CD2.out _).mono ?_
  rintro e w' ⟨rfl, rfl⟩
  go_wp2
  exact bodyPost_ret (v := .tuple #[.agg #[.int .i64 0, .int .i64 0], .int .i64 1]) (by simp [results, Tryz.results39, go_sem]) rfl ⟨by rw [HA.out], (Below.refl _ _).alloc (Nat.le_refl _) _⟩
set_option maxRecDepth 100000 in
set_option maxHeartbeats 4000000 in
theorem RP_pi_p (s : ByteArray) (w : World) (hs : s.size ≤ 100) (x : UInt8) (h0 : 0 < s.size) (hx : s[0]'h0 = x) (hx1 : x.toNat = 43) (r : ByteArray) (hr : s.extract 1 s.size = r) (hrs : r.size + 1 = s.size) (I K : Nat) (hI : run1 r.data.toList 0 = I) (y : UInt8) (h1 : I < r.size) (hy : r[I]'h1 = y) (hy1 : y.toNat = 46) (hK : run1 r.data.toList (I + 1) = r.size) (hb : 9 < I) (HA : Hid (pbody false r.data.toList = ⟨0, 0, 1⟩)) :
    Calls Tryz.prog 39 #[.string s] w fun e w' => e = .returned (.tuple #[.agg #[.int .i64 (pbody false r.data.toList).n, .int .i64 (pbody false r.data.toList).d], .int .i64 (pbody false r.data.toList).e]) ∧ Below w.heap.size w w' := by
  have hsz := Lib.size_eq r
  have q0 : decide ((0 : Int) < (s.size : Int)) = true := decide_eq_true (by omega)
  have q1 : ((x.toNat : Int) == 43) = true := beq_iff_eq.2 (by omega)
  have q2 : ((x.toNat : Int) == 45) = false := beq_eq_false_iff_ne.2 (by omega)
  have CD := Lib.hid (fun w => digits_any r 0 w (by omega) (Nat.zero_le _))
  rw [hI] at CD
  have cd2 := fun w => digits_any r (I + 1) w (by omega) (by omega)
  rw [hK, Int.natCast_succ] at cd2
  have CD2 := Lib.hid cd2
  have eI : IntKind.i64.wrap ((I : Int) + 1) = (I : Int) + 1 := IntWalk.i64_in _ (by omega)
  have q3 : decide ((I : Int) < (r.size : Int)) = true := decide_eq_true (by omega)
  have q4 : ((y.toNat : Int) == 46) = true := beq_iff_eq.2 (by omega)
  have q5 : decide ((9 : Int) < (I : Int)) = true := decide_eq_true (by omega)
  clear hb
  clear hsz hI hK cd2 hy1 hx1 hrs
  go_enter Tryz.func39, Tryz.ntmps39
  go_wp2_with fail
  refine (CD.out _).mono ?_
  rintro e w' ⟨rfl, rfl⟩
  go_wp2_with fail
  refine (CD2.out _).mono ?_
  rintro e w' ⟨rfl, rfl⟩
  go_wp2
  exact bodyPost_ret (v := .tuple #[.agg #[.int .i64 0, .int .i64 0], .int .i64 1]) (by simp [results, Tryz.results39, go_sem]) rfl ⟨by rw [HA.out], (Below.refl _ _).alloc (Nat.le_refl _) _⟩
set_option maxRecDepth 100000 in
set_option maxHeartbeats 4000000 in
theorem RP_p0_p (s : ByteArray) (w : World) (hs : s.size ≤ 100) (x : UInt8) (h0 : 0 < s.size) (hx : s[0]'h0 = x) (hx1 : x.toNat = 43) (r : ByteArray) (hr : s.extract 1 s.size = r) (hrs : r.size + 1 = s.size) (I K : Nat) (hI : run1 r.data.toList 0 = I) (y : UInt8) (h1 : I < r.size) (hy : r[I]'h1 = y) (hy1 : y.toNat = 46) (hK : run1 r.data.toList (I + 1) = r.size) (hb : I ≤ 9) (hm : r.size = I + 1) (HA : Hid (pbody false r.data.toList = ⟨0, 0, 1⟩)) :
    Calls Tryz.prog 39 #[.string s] w fun e w' => e = .returned (.tuple #[.agg #[.int .i64 (pbody false r.data.toList).n, .int .i64 (pbody false r.data.toList).d], .int .i64 (pbody false r.data.toList).e]) ∧ Below w.heap.size w w' := by
  have hsz := Lib.size_eq r
  have q0 : decide ((0 : Int) < (s.size : Int)) = true := decide_eq_true (by omega)
  have q1 : ((x.toNat : Int) == 43) = true := beq_iff_eq.2 (by omega)
  have q2 : ((x.toNat : Int) == 45) = false := beq_eq_false_iff_ne.2 (by omega)
  have CD := Lib.hid (fun w => digits_any r 0 w (by omega) (Nat.zero_le _))
  rw [hI] at CD
  have cd2 := fun w => digits_any r (I + 1) w (by omega) (by omega)
  rw [hK, Int.natCast_succ] at cd2
  have CD2 := Lib.hid cd2
  have eI : IntKind.i64.wrap ((I : Int) + 1) = (I : Int) + 1 := IntWalk.i64_in _ (by omega)
  have q3 : decide ((I : Int) < (r.size : Int)) = true := decide_eq_true (by omega)
  have q4 : ((y.toNat : Int) == 46) = true := beq_iff_eq.2 (by omega)
  have q5 : decide ((9 : Int) < (I : Int)) = false := decide_eq_false (by omega)
  have s1 : IntKind.i64.wrap ((r.size : Int) - (I : Int)) = (r.size : Int) - (I : Int) := IntWalk.i64_in _ (by omega)
  have s2 : IntKind.i64.wrap ((r.size : Int) - (I : Int) - 1) = 0 := by rw [IntWalk.i64_in _ (by omega)]; omega
  clear hb hm
  clear hsz hI hK cd2 hy1 hx1 hrs
  go_enter Tryz.func39, Tryz.ntmps39
  go_wp2_with fail
  refine (CD.out _).mono ?_
  rintro e w' ⟨rfl, rfl⟩
  go_wp2_with fail
  refine (CD2.out _).mono ?_
  rintro e w' ⟨rfl, rfl⟩
  go_wp2
  exact bodyPost_ret (v := .tuple #[.agg #[.int .i64 0, .int .i64 0], .int .i64 1]) (by simp [results, Tryz.results39, go_sem]) rfl ⟨by rw [HA.out], (Below.refl _ _).alloc (Nat.le_refl _) _⟩
set_option maxRecDepth 100000 in
set_option maxHeartbeats 4000000 in
theorem RP_p9_p (s : ByteArray) (w : World) (hs : s.size ≤ 100) (x : UInt8) (h0 : 0 < s.size) (hx : s[0]'h0 = x) (hx1 : x.toNat = 43) (r : ByteArray) (hr : s.extract 1 s.size = r) (hrs : r.size + 1 = s.size) (I K : Nat) (hI : run1 r.data.toList 0 = I) (y : UInt8) (h1 : I < r.size) (hy : r[I]'h1 = y) (hy1 : y.toNat = 46) (hK : run1 r.data.toList (I + 1) = r.size) (hb : I ≤ 9) (hm : r.size = I + 1 + K) (hm9 : 9 < K) (HA : Hid (pbody false r.data.toList = ⟨0, 0, 1⟩)) :
    Calls Tryz.prog 39 #[.string s] w fun e w' => e = .returned (.tuple #[.agg #[.int .i64 (pbody false r.data.toList).n, .int .i64 (pbody false r.data.toList).d], .int .i64 (pbody false r.data.toList).e]) ∧ Below w.heap.size w w' := by
  have hsz := Lib.size_eq r
  have q0 : decide ((0 : Int) < (s.size : Int)) = true := decide_eq_true (by omega)
  have q1 : ((x.toNat : Int) == 43) = true := beq_iff_eq.2 (by omega)
  have q2 : ((x.toNat : Int) == 45) = false := beq_eq_false_iff_ne.2 (by omega)
  have CD := Lib.hid (fun w => digits_any r 0 w (by omega) (Nat.zero_le _))
  rw [hI] at CD
  have cd2 := fun w => digits_any r (I + 1) w (by omega) (by omega)
  rw [hK, Int.natCast_succ] at cd2
  have CD2 := Lib.hid cd2
  have eI : IntKind.i64.wrap ((I : Int) + 1) = (I : Int) + 1 := IntWalk.i64_in _ (by omega)
  have q3 : decide ((I : Int) < (r.size : Int)) = true := decide_eq_true (by omega)
  have q4 : ((y.toNat : Int) == 46) = true := beq_iff_eq.2 (by omega)
  have q5 : decide ((9 : Int) < (I : Int)) = false := decide_eq_false (by omega)
  have s1 : IntKind.i64.wrap ((r.size : Int) - (I : Int)) = (r.size : Int) - (I : Int) := IntWalk.i64_in _ (by omega)
  have s2 : IntKind.i64.wrap ((r.size : Int) - (I : Int) - 1) = (K : Int) := by rw [IntWalk.i64_in _ (by omega)]; omega
  have q6 : decide ((K : Int) < 1) = false := decide_eq_false (by omega)
  have q7 : decide ((9 : Int) < (K : Int)) = true := decide_eq_true (by omega)
  clear hm9
  clear hb hm
  clear hsz hI hK cd2 hy1 hx1 hrs
  go_enter Tryz.func39, Tryz.ntmps39
  go_wp2_with fail
  refine (CD.out _).mono ?_
  rintro e w' ⟨rfl, rfl⟩
  go_wp2_with fail
  refine (CD2.out _).mono ?_
  rintro e w' ⟨rfl, rfl⟩
  go_wp2
  exact bodyPost_ret (v := .tuple #[.agg #[.int .i64 0, .int .i64 0], .int .i64 1]) (by simp [results, Tryz.results39, go_sem]) rfl ⟨by rw [HA.out], (Below.refl _ _).alloc (Nat.le_refl _) _⟩
set_option maxRecDepth 100000 in
set_option maxHeartbeats 4000000 in
theorem RP_pk_m (s : ByteArray) (w : World) (hs : s.size ≤ 100) (x : UInt8) (h0 : 0 < s.size) (hx : s[0]'h0 = x) (hx1 : x.toNat = 45) (r : ByteArray) (hr : s.extract 1 s.size = r) (hrs : r.size + 1 = s.size) (I K : Nat) (hI : run1 r.data.toList 0 = I) (y : UInt8) (h1 : I < r.size) (hy : r[I]'h1 = y) (hy1 : y.toNat = 46) (hK : run1 r.data.toList (I + 1) = K) (hKb : K ≠ r.size) (HA : Hid (pbody true r.data.toList = ⟨0, 0, 1⟩)) :
    Calls Tryz.prog 39 #[.string s] w fun e w' => e = .returned (.tuple #[.agg #[.int .i64 (pbody true r.data.toList).n, .int .i64 (pbody true r.data.toList).d], .int .i64 (pbody true r.data.toList).e]) ∧ Below w.heap.size w w' := by
  have hsz := Lib.size_eq r
  have q0 : decide ((0 : Int) < (s.size : Int)) = true := decide_eq_true (by omega)
  have q1 : ((x.toNat : Int) == 43) = false := beq_eq_false_iff_ne.2 (by omega)
  have q2 : ((x.toNat : Int) == 45) = true := beq_iff_eq.2 (by omega)
  have CD := Lib.hid (fun w => digits_any r 0 w (by omega) (Nat.zero_le _))
  rw [hI] at CD
  have cd2 := fun w => digits_any r (I + 1) w (by omega) (by omega)
  rw [hK, Int.natCast_succ] at cd2
  have CD2 := Lib.hid cd2
  have eI : IntKind.i64.wrap ((I : Int) + 1) = (I : Int) + 1 := IntWalk.i64_in _ (by omega)
  have q3 : decide ((I : Int) < (r.size : Int)) = true := decide_eq_true (by omega)
  have q4 : ((y.toNat : Int) == 46) = true := beq_iff_eq.2 (by omega)
  have q5 : ((K : Int) == (r.size : Int)) = false := beq_eq_false_iff_ne.2 (by omega)
  have q6 : ((K : Int) != (r.size : Int)) = true := by rw [bne, q5]; rfl
  have q8 : ¬ (K : Int) = (r.size : Int) := by omega
  clear hKb
  clear hsz hI hK cd2 hy1 hx1 hrs
  go_enter Tryz.func39, Tryz.ntmps39
  go_wp2_with fail
  refine (CD.out _).mono ?_
  rintro e w' ⟨rfl, rfl⟩
  go_wp2_with fail
  refine (CD2.out _).mono ?_
  rintro e w' ⟨rfl, rfl⟩
  go_wp2
  exact bodyPost_ret (v := .tuple #[.agg #[.int .i64 0, .int .i64 0], .int .i64 1]) (by simp [results, Tryz.results39, go_sem]) rfl ⟨by rw [HA.out], (Below.refl _ _).alloc (Nat.le_refl _) _⟩
set_option maxRecDepth 100000 in
set_option maxHeartbeats 4000000 in
theorem RP_pi_m (s : ByteArray) (w : World) (hs : s.size ≤ 100) (x : UInt8) (h0 : 0 < s.size) (hx : s[0]'h0 = x) (hx1 : x.toNat = 45) (r : ByteArray) (hr : s.extract 1 s.size = r) (hrs : r.size + 1 = s.size) (I K : Nat) (hI : run1 r.data.toList 0 = I) (y : UInt8) (h1 : I < r.size) (hy : r[I]'h1 = y) (hy1 : y.toNat = 46) (hK : run1 r.data.toList (I + 1) = r.size) (hb : 9 < I) (HA : Hid (pbody true r.data.toList = ⟨0, 0, 1⟩)) :
    Calls Tryz.prog 39 #[.string s] w fun e w' => e = .returned (.tuple #[.agg #[.int .i64 (pbody true r.data.toList).n, .int .i64 (pbody true r.data.toList).d], .int .i64 (pbody true r.data.toList).e]) ∧ Below w.heap.size w w' := by
  have hsz := Lib.size_eq r
  have q0 : decide ((0 : Int) < (s.size : Int)) = true := decide_eq_true (by omega)
  have q1 : ((x.toNat : Int) == 43) = false := beq_eq_false_iff_ne.2 (by omega)
  have q2 : ((x.toNat : Int) == 45) = true := beq_iff_eq.2 (by omega)
  have CD := Lib.hid (fun w => digits_any r 0 w (by omega) (Nat.zero_le _))
  rw [hI] at CD
  have cd2 := fun w => digits_any r (I + 1) w (by omega) (by omega)
  rw [hK, Int.natCast_succ] at cd2
  have CD2 := Lib.hid cd2
  have eI : IntKind.i64.wrap ((I : Int) + 1) = (I : Int) + 1 := IntWalk.i64_in _ (by omega)
  have q3 : decide ((I : Int) < (r.size : Int)) = true := decide_eq_true (by omega)
  have q4 : ((y.toNat : Int) == 46) = true := beq_iff_eq.2 (by omega)
  have q5 : decide ((9 : Int) < (I : Int)) = true := decide_eq_true (by omega)
  clear hb
  clear hsz hI hK cd2 hy1 hx1 hrs
  go_enter Tryz.func39, Tryz.ntmps39
  go_wp2_with fail
  refine (CD.out _).mono ?_
  rintro e w' ⟨rfl, rfl⟩
  go_wp2_with fail
  refine (CD2.out _).mono ?_
  rintro e w' ⟨rfl, rfl⟩
  go_wp2
  exact bodyPost_ret (v := .tuple #[.agg #[.int .i64 0, .int .i64 0], .int .i64 1]) (by simp [results, Tryz.results39, go_sem]) rfl ⟨by rw [HA.out], (Below.refl _ _).alloc (Nat.le_refl _) _⟩
set_option maxRecDepth 100000 in
set_option maxHeartbeats 4000000 in
theorem RP_p0_m (s : ByteArray) (w : World) (hs : s.size ≤ 100) (x : UInt8) (h0 : 0 < s.size) (hx : s[0]'h0 = x) (hx1 : x.toNat = 45) (r : ByteArray) (hr : s.extract 1 s.size = r) (hrs : r.size + 1 = s.size) (I K : Nat) (hI : run1 r.data.toList 0 = I) (y : UInt8) (h1 : I < r.size) (hy : r[I]'h1 = y) (hy1 : y.toNat = 46) (hK : run1 r.data.toList (I + 1) = r.size) (hb : I ≤ 9) (hm : r.size = I + 1) (HA : Hid (pbody true r.data.toList = ⟨0, 0, 1⟩)) :
    Calls Tryz.prog 39 #[.string s] w fun e w' => e = .returned (.tuple #[.agg #[.int .i64 (pbody true r.data.toList).n, .int .i64 (pbody true r.data.toList).d], .int .i64 (pbody true r.data.toList).e]) ∧ Below w.heap.size w w' := by
  have hsz := Lib.size_eq r
  have q0 : decide ((0 : Int) < (s.size : Int)) = true := decide_eq_true (by omega)
  have q1 : ((x.toNat : Int) == 43) = false := beq_eq_false_iff_ne.2 (by omega)
  have q2 : ((x.toNat : Int) == 45) = true := beq_iff_eq.2 (by omega)
  have CD := Lib.hid (fun w => digits_any r 0 w (by omega) (Nat.zero_le _))
  rw [hI] at CD
  have cd2 := fun w => digits_any r (I + 1) w (by omega) (by omega)
  rw [hK, Int.natCast_succ] at cd2
  have CD2 := Lib.hid cd2
  have eI : IntKind.i64.wrap ((I : Int) + 1) = (I : Int) + 1 := IntWalk.i64_in _ (by omega)
  have q3 : decide ((I : Int) < (r.size : Int)) = true := decide_eq_true (by omega)
  have q4 : ((y.toNat : Int) == 46) = true := beq_iff_eq.2 (by omega)
  have q5 : decide ((9 : Int) < (I : Int)) = false := decide_eq_false (by omega)
  have s1 : IntKind.i64.wrap ((r.size : Int) - (I : Int)) = (r.size : Int) - (I : Int) := IntWalk.i64_in _ (by omega)
  have s2 : IntKind.i64.wrap ((r.size : Int) - (I : Int) - 1) = 0 := by rw [IntWalk.i64_in _ (by omega)]; omega
  clear hb hm
  clear hsz hI hK cd2 hy1 hx1 hrs
  go_enter Tryz.func39, Tryz.ntmps39
  go_wp2_with fail
  refine (CD.out _).mono ?_
  rintro e w' ⟨rfl, rfl⟩
  go_wp2_with fail
  refine (CD2.out _).mono ?_
  rintro e w' ⟨rfl, rfl⟩
  go_wp2
  exact bodyPost_ret (v := .tuple #[.agg #[.int .i64 0, .int .i64 0], .int .i64 1]) (by simp [results, Tryz.results39, go_sem]) rfl ⟨by rw [HA.out], (Below.refl _ _).alloc (Nat.le_refl _) _⟩
set_option maxRecDepth 100000 in
set_option maxHeartbeats 4000000 in
theorem RP_p9_m (s : ByteArray) (w : World) (hs : s.size ≤ 100) (x : UInt8) (h0 : 0 < s.size) (hx : s[0]'h0 = x) (hx1 : x.toNat = 45) (r : ByteArray) (hr : s.extract 1 s.size = r) (hrs : r.size + 1 = s.size) (I K : Nat) (hI : run1 r.data.toList 0 = I) (y : UInt8) (h1 : I < r.size) (hy : r[I]'h1 = y) (hy1 : y.toNat = 46) (hK : run1 r.data.toList (I + 1) = r.size) (hb : I ≤ 9) (hm : r.size = I + 1 + K) (hm9 : 9 < K) (HA : Hid (pbody true r.data.toList = ⟨0, 0, 1⟩)) :
    Calls Tryz.prog 39 #[.string s] w fun e w' => e = .returned (.tuple #[.agg #[.int .i64 (pbody true r.data.toList).n, .int .i64 (pbody true r.data.toList).d], .int .i64 (pbody true r.data.toList).e]) ∧ Below w.heap.size w w' := by
  have hsz := Lib.size_eq r
  have q0 : decide ((0 : Int) < (s.size : Int)) = true := decide_eq_true (by omega)
  have q1 : ((x.toNat : Int) == 43) = false := beq_eq_false_iff_ne.2 (by omega)
  have q2 : ((x.toNat : Int) == 45) = true := beq_iff_eq.2 (by omega)
  have CD := Lib.hid (fun w => digits_any r 0 w (by omega) (Nat.zero_le _))
  rw [hI] at CD
  have cd2 := fun w => digits_any r (I + 1) w (by omega) (by omega)
  rw [hK, Int.natCast_succ] at cd2
  have CD2 := Lib.hid cd2
  have eI : IntKind.i64.wrap ((I : Int) + 1) = (I : Int) + 1 := IntWalk.i64_in _ (by omega)
  have q3 : decide ((I : Int) < (r.size : Int)) = true := decide_eq_true (by omega)
  have q4 : ((y.toNat : Int) == 46) = true := beq_iff_eq.2 (by omega)
  have q5 : decide ((9 : Int) < (I : Int)) = false := decide_eq_false (by omega)
  have s1 : IntKind.i64.wrap ((r.size : Int) - (I : Int)) = (r.size : Int) - (I : Int) := IntWalk.i64_in _ (by omega)
  have s2 : IntKind.i64.wrap ((r.size : Int) - (I : Int) - 1) = (K : Int) := by rw [IntWalk.i64_in _ (by omega)]; omega
  have q6 : decide ((K : Int) < 1) = false := decide_eq_false (by omega)
  have q7 : decide ((9 : Int) < (K : Int)) = true := decide_eq_true (by omega)
  clear hm9
  clear hb hm
  clear hsz hI hK cd2 hy1 hx1 hrs
  go_enter Tryz.func39, Tryz.ntmps39
  go_wp2_with fail
  refine (CD.out _).mono ?_
  rintro e w' ⟨rfl, rfl⟩
  go_wp2_with fail
  refine (CD2.out _).mono ?_
  rintro e w' ⟨rfl, rfl⟩
  go_wp2
  exact bodyPost_ret (v := .tuple #[.agg #[.int .i64 0, .int .i64 0], .int .i64 1]) (by simp [results, Tryz.results39, go_sem]) rfl ⟨by rw [HA.out], (Below.refl _ _).alloc (Nat.le_refl _) _⟩
end Go.Proofs.YtfocokjihbenmaaGreatDoor.Nu

namespace Go.Proofs.YtfocokjihbenmaaGreatDoor.Nu
open Go.RowKit
set_option linter.unusedVariables false

theorem undrewTn {w w' : World} (h : Below w.drew.heap.size w.drew w') : Below w.heap.size w w' := (below_drewN (Below.refl w.heap.size w) 1).trans h
set_option maxRecDepth 100000 in
set_option maxHeartbeats 4000000 in
theorem RP_pt_n (s : ByteArray) (w : World) (hs : s.size ≤ 100) (x : UInt8) (h0 : 0 < s.size) (hx : s[0]'h0 = x) (hx1 : x.toNat ≠ 43) (hx2 : x.toNat ≠ 45) (I K va vb : Nat) (hI : run1 s.data.toList 0 = I) (y : UInt8) (h1 : I < s.size) (hy : s[I]'h1 = y) (hy1 : y.toNat = 46) (hK : run1 s.data.toList (I + 1) = s.size) (hb : I ≤ 9) (hm : s.size = I + 1 + K) (hm1 : 1 ≤ K) (hm9 : K ≤ 9) (hva : va < 1000000000) (hvb : vb < 1000000000)
    (CA : Hid (∀ w, Calls Tryz.prog 80 #[.string (s.extract 0 I)] w fun e w' => e = .returned (.int .i64 (va : Int)) ∧ w = w'))
    (CB : Hid (∀ w, Calls Tryz.prog 80 #[.string (s.extract (I + 1) s.size)] w fun e w' => e = .returned (.int .i64 (vb : Int)) ∧ w = w'))
    (HA : Hid (pbody false s.data.toList = fit ((va * 10 ^ K + vb : Nat) : Int) (pw K))) :
    Calls Tryz.prog 39 #[.string s] w fun e w' => e = .returned (.tuple #[.agg #[.int .i64 (pbody false s.data.toList).n, .int .i64 (pbody false s.data.toList).d], .int .i64 (pbody false s.data.toList).e]) ∧ Below w.heap.size w w' := by
  have hsz := Lib.size_eq s
  have q0 : decide ((0 : Int) < (s.size : Int)) = true := decide_eq_true (by omega)
  have q1 : ((x.toNat : Int) == 43) = false := beq_eq_false_iff_ne.2 (by omega)
  have q2 : ((x.toNat : Int) == 45) = false := beq_eq_false_iff_ne.2 (by omega)
  have CD := Lib.hid (fun w => digits_any s 0 w (by omega) (Nat.zero_le _))
  rw [hI] at CD
  have cd2 := fun w => digits_any s (I + 1) w (by omega) (by omega)
  rw [hK, Int.natCast_succ] at cd2
  have CD2 := Lib.hid cd2
  have hpw := pw_nat K
  obtain ⟨w1, w2⟩ := pw_bd hm9
  have hmul : (va : Int) * pw K ≤ 999999999 * 1000000000 := Int.mul_le_mul (by omega) w2 (by omega) (by omega)
  have hmul0 : 0 ≤ (va : Int) * pw K := Int.mul_nonneg (by omega) (by omega)
  have eV : (va : Int) * pw K + (vb : Int) = ((va * 10 ^ K + vb : Nat) : Int) := by rw [hpw]; push_cast; rfl
  obtain ⟨V, hV⟩ : ∃ V : Int, ((va * 10 ^ K + vb : Nat) : Int) = V := ⟨_, rfl⟩
  rw [hV] at eV HA
  have CP := Lib.hid (fun w => Power_q2 K w hm9)
  have CF := Lib.hid (fun w => form_any V (pw K) w (by omega) (by omega) (by omega))
  have g1 : IntKind.i64.wrap ((va : Int) * pw K) = (va : Int) * pw K := IntWalk.i64_in _ (by omega)
  have g2 : IntKind.i64.wrap ((va : Int) * pw K + (vb : Int)) = V := by rw [IntWalk.i64_in _ (by omega)]; exact eV
  have eI : IntKind.i64.wrap ((I : Int) + 1) = (I : Int) + 1 := IntWalk.i64_in _ (by omega)
  have q3 : decide ((I : Int) < (s.size : Int)) = true := decide_eq_true (by omega)
  have q4 : ((y.toNat : Int) == 46) = true := beq_iff_eq.2 (by omega)
  have q5 : decide ((9 : Int) < (I : Int)) = false := decide_eq_false (by omega)
  have s1 : IntKind.i64.wrap ((s.size : Int) - (I : Int)) = (s.size : Int) - (I : Int) := IntWalk.i64_in _ (by omega)
  have s2 : IntKind.i64.wrap ((s.size : Int) - (I : Int) - 1) = (K : Int) := by rw [IntWalk.i64_in _ (by omega)]; omega
  have q6 : decide ((K : Int) < 1) = false := decide_eq_false (by omega)
  have q7 : decide ((9 : Int) < (K : Int)) = false := decide_eq_false (by omega)
  have q8 : ((s.size : Int) == 0) = false := beq_eq_false_iff_ne.2 (by omega)
  have q9 : ((I : Int) == (s.size : Int)) = false := beq_eq_false_iff_ne.2 (by omega)
  have e1 : IntKind.i64.wrap (1 * V) = V := by rw [IntWalk.i64_in _ (by omega)]; omega
  have e1' : IntKind.i64.wrap V = V := IntWalk.i64_in _ (by omega)
  clear hsz hI hK cd2 hy1 hb hm hm1 hm9 hva hvb hpw w1 w2 hmul hmul0 eV hV hx1 hx2
  go_enter Tryz.func39, Tryz.ntmps39
  go_wp2_with fail
  refine (CD.out _).mono ?_
  rintro e w' ⟨rfl, rfl⟩
  go_wp2_with fail
  refine (CD2.out _).mono ?_
  rintro e w' ⟨rfl, rfl⟩
  go_wp2_with fail
  refine (CP.out _).mono ?_
  rintro e w' ⟨rfl, rfl⟩
  go_wp2
  go_region_with (first | (go_at_call 80; (with_reducible refine (CA.out _).mono ?_); rintro e w' ⟨rfl, rfl⟩) | (go_at_call 80; (with_reducible refine (CB.out _).mono ?_); rintro e w' ⟨rfl, rfl⟩) | (go_at_call 29; (with_reducible refine (CF.out _).mono ?_); rintro e w3 ⟨rfl, hb⟩; have hb := undrewTn hb; obtain ⟨hc, hf⟩ := bcell hb; have z0 := size1 hb; have HB := Lib.hid (below1 hb)))
  all_goals
    go_wp2
    exact bodyPost_ret (v := .tuple #[.agg #[.int .i64 (fit V (pw K)).n, .int .i64 (fit V (pw K)).d], .int .i64 (fit V (pw K)).e]) (by simp [results, Tryz.results39, go_sem, hc]) rfl ⟨by rw [HA.out], below_two HB.out _ _⟩
end Go.Proofs.YtfocokjihbenmaaGreatDoor.Nu

namespace Go.Proofs.YtfocokjihbenmaaGreatDoor.Nu
open Go.RowKit
set_option linter.unusedVariables false

theorem undrewTp {w w' : World} (h : Below w.drew.heap.size w.drew w') : Below w.heap.size w w' := (below_drewN (Below.refl w.heap.size w) 1).trans h
set_option maxRecDepth 100000 in
set_option maxHeartbeats 4000000 in
theorem RP_pt_p (s : ByteArray) (w : World) (hs : s.size ≤ 100) (x : UInt8) (h0 : 0 < s.size) (hx : s[0]'h0 = x) (hx1 : x.toNat = 43) (r : ByteArray) (hr : s.extract 1 s.size = r) (hrs : r.size + 1 = s.size) (I K va vb : Nat) (hI : run1 r.data.toList 0 = I) (y : UInt8) (h1 : I < r.size) (hy : r[I]'h1 = y) (hy1 : y.toNat = 46) (hK : run1 r.data.toList (I + 1) = r.size) (hb : I ≤ 9) (hm : r.size = I + 1 + K) (hm1 : 1 ≤ K) (hm9 : K ≤ 9) (hva : va < 1000000000) (hvb : vb < 1000000000)
    (CA : Hid (∀ w, Calls Tryz.prog 80 #[.string (r.extract 0 I)] w fun e w' => e = .returned (.int .i64 (va : Int)) ∧ w = w'))
    (CB : Hid (∀ w, Calls Tryz.prog 80 #[.string (r.extract (I + 1) r.size)] w fun e w' => e = .returned (.int .i64 (vb : Int)) ∧ w = w'))
    (HA : Hid (pbody false r.data.toList = fit ((va * 10 ^ K + vb : Nat) : Int) (pw K))) :
    Calls Tryz.prog 39 #[.string s] w fun e w' => e = .returned (.tuple #[.agg #[.int .i64 (pbody false r.data.toList).n, .int .i64 (pbody false r.data.toList).d], .int .i64 (pbody false r.data.toList).e]) ∧ Below w.heap.size w w' := by
  have hsz := Lib.size_eq r
  have q0 : decide ((0 : Int) < (s.size : Int)) = true := decide_eq_true (by omega)
  have q1 : ((x.toNat : Int) == 43) = true := beq_iff_eq.2 (by omega)
  have q2 : ((x.toNat : Int) == 45) = false := beq_eq_false_iff_ne.2 (by omega)
  have CD := Lib.hid (fun w => digits_any r 0 w (by omega) (Nat.zero_le _))
  rw [hI] at CD
  have cd2 := fun w => digits_any r (I + 1) w (by omega) (by omega)
  rw [hK, Int.natCast_succ] at cd2
  have CD2 := Lib.hid cd2
  have hpw := pw_nat K
  obtain ⟨w1, w2⟩ := pw_bd hm9
  have hmul : (va : Int) * pw K ≤ 999999999 * 1000000000 := Int.mul_le_mul (by omega) w2 (by omega) (by omega)
  have hmul0 : 0 ≤ (va : Int) * pw K := Int.mul_nonneg (by omega) (by omega)
  have eV : (va : Int) * pw K + (vb : Int) = ((va * 10 ^ K + vb : Nat) : Int) := by rw [hpw]; push_cast; rfl
  obtain ⟨V, hV⟩ : ∃ V : Int, ((va * 10 ^ K + vb : Nat) : Int) = V := ⟨_, rfl⟩
  rw [hV] at eV HA
  have CP := Lib.hid (fun w => Power_q2 K w hm9)
  have CF := Lib.hid (fun w => form_any V (pw K) w (by omega) (by omega) (by omega))
  have g1 : IntKind.i64.wrap ((va : Int) * pw K) = (va : Int) * pw K := IntWalk.i64_in _ (by omega)
  have g2 : IntKind.i64.wrap ((va : Int) * pw K + (vb : Int)) = V := by rw [IntWalk.i64_in _ (by omega)]; exact eV
  have eI : IntKind.i64.wrap ((I : Int) + 1) = (I : Int) + 1 := IntWalk.i64_in _ (by omega)
  have q3 : decide ((I : Int) < (r.size : Int)) = true := decide_eq_true (by omega)
  have q4 : ((y.toNat : Int) == 46) = true := beq_iff_eq.2 (by omega)
  have q5 : decide ((9 : Int) < (I : Int)) = false := decide_eq_false (by omega)
  have s1 : IntKind.i64.wrap ((r.size : Int) - (I : Int)) = (r.size : Int) - (I : Int) := IntWalk.i64_in _ (by omega)
  have s2 : IntKind.i64.wrap ((r.size : Int) - (I : Int) - 1) = (K : Int) := by rw [IntWalk.i64_in _ (by omega)]; omega
  have q6 : decide ((K : Int) < 1) = false := decide_eq_false (by omega)
  have q7 : decide ((9 : Int) < (K : Int)) = false := decide_eq_false (by omega)
  have q8 : ((r.size : Int) == 0) = false := beq_eq_false_iff_ne.2 (by omega)
  have q9 : ((I : Int) == (r.size : Int)) = false := beq_eq_false_iff_ne.2 (by omega)
  have e1 : IntKind.i64.wrap (1 * V) = V := by rw [IntWalk.i64_in _ (by omega)]; omega
  have e1' : IntKind.i64.wrap V = V := IntWalk.i64_in _ (by omega)
  clear hsz hI hK cd2 hy1 hb hm hm1 hm9 hva hvb hpw w1 w2 hmul hmul0 eV hV hx1 hrs
  go_enter Tryz.func39, Tryz.ntmps39
  go_wp2_with fail
  refine (CD.out _).mono ?_
  rintro e w' ⟨rfl, rfl⟩
  go_wp2_with fail
  refine (CD2.out _).mono ?_
  rintro e w' ⟨rfl, rfl⟩
  go_wp2_with fail
  refine (CP.out _).mono ?_
  rintro e w' ⟨rfl, rfl⟩
  go_wp2
  go_region_with (first | (go_at_call 80; (with_reducible refine (CA.out _).mono ?_); rintro e w' ⟨rfl, rfl⟩) | (go_at_call 80; (with_reducible refine (CB.out _).mono ?_); rintro e w' ⟨rfl, rfl⟩) | (go_at_call 29; (with_reducible refine (CF.out _).mono ?_); rintro e w3 ⟨rfl, hb⟩; have hb := undrewTp hb; obtain ⟨hc, hf⟩ := bcell hb; have z0 := size1 hb; have HB := Lib.hid (below1 hb)))
  all_goals
    go_wp2
    exact bodyPost_ret (v := .tuple #[.agg #[.int .i64 (fit V (pw K)).n, .int .i64 (fit V (pw K)).d], .int .i64 (fit V (pw K)).e]) (by simp [results, Tryz.results39, go_sem, hc]) rfl ⟨by rw [HA.out], below_two HB.out _ _⟩
end Go.Proofs.YtfocokjihbenmaaGreatDoor.Nu

namespace Go.Proofs.YtfocokjihbenmaaGreatDoor.Nu
open Go.RowKit
set_option linter.unusedVariables false

theorem undrewTm {w w' : World} (h : Below w.drew.heap.size w.drew w') : Below w.heap.size w w' := (below_drewN (Below.refl w.heap.size w) 1).trans h
set_option maxRecDepth 100000 in
set_option maxHeartbeats 4000000 in
theorem RP_pt_m (s : ByteArray) (w : World) (hs : s.size ≤ 100) (x : UInt8) (h0 : 0 < s.size) (hx : s[0]'h0 = x) (hx1 : x.toNat = 45) (r : ByteArray) (hr : s.extract 1 s.size = r) (hrs : r.size + 1 = s.size) (I K va vb : Nat) (hI : run1 r.data.toList 0 = I) (y : UInt8) (h1 : I < r.size) (hy : r[I]'h1 = y) (hy1 : y.toNat = 46) (hK : run1 r.data.toList (I + 1) = r.size) (hb : I ≤ 9) (hm : r.size = I + 1 + K) (hm1 : 1 ≤ K) (hm9 : K ≤ 9) (hva : va < 1000000000) (hvb : vb < 1000000000)
    (CA : Hid (∀ w, Calls Tryz.prog 80 #[.string (r.extract 0 I)] w fun e w' => e = .returned (.int .i64 (va : Int)) ∧ w = w'))
    (CB : Hid (∀ w, Calls Tryz.prog 80 #[.string (r.extract (I + 1) r.size)] w fun e w' => e = .returned (.int .i64 (vb : Int)) ∧ w = w'))
    (HA : Hid (pbody true r.data.toList = fit (-((va * 10 ^ K + vb : Nat) : Int)) (pw K))) :
    Calls Tryz.prog 39 #[.string s] w fun e w' => e = .returned (.tuple #[.agg #[.int .i64 (pbody true r.data.toList).n, .int .i64 (pbody true r.data.toList).d], .int .i64 (pbody true r.data.toList).e]) ∧ Below w.heap.size w w' := by
  have hsz := Lib.size_eq r
  have q0 : decide ((0 : Int) < (s.size : Int)) = true := decide_eq_true (by omega)
  have q1 : ((x.toNat : Int) == 43) = false := beq_eq_false_iff_ne.2 (by omega)
  have q2 : ((x.toNat : Int) == 45) = true := beq_iff_eq.2 (by omega)
  have CD := Lib.hid (fun w => digits_any r 0 w (by omega) (Nat.zero_le _))
  rw [hI] at CD
  have cd2 := fun w => digits_any r (I + 1) w (by omega) (by omega)
  rw [hK, Int.natCast_succ] at cd2
  have CD2 := Lib.hid cd2
  have hpw := pw_nat K
  obtain ⟨w1, w2⟩ := pw_bd hm9
  have hmul : (va : Int) * pw K ≤ 999999999 * 1000000000 := Int.mul_le_mul (by omega) w2 (by omega) (by omega)
  have hmul0 : 0 ≤ (va : Int) * pw K := Int.mul_nonneg (by omega) (by omega)
  have eV : (va : Int) * pw K + (vb : Int) = ((va * 10 ^ K + vb : Nat) : Int) := by rw [hpw]; push_cast; rfl
  obtain ⟨V, hV⟩ : ∃ V : Int, ((va * 10 ^ K + vb : Nat) : Int) = V := ⟨_, rfl⟩
  rw [hV] at eV HA
  have CP := Lib.hid (fun w => Power_q2 K w hm9)
  have CF := Lib.hid (fun w => form_any (-V) (pw K) w (by omega) (by omega) (by omega))
  have g1 : IntKind.i64.wrap ((va : Int) * pw K) = (va : Int) * pw K := IntWalk.i64_in _ (by omega)
  have g2 : IntKind.i64.wrap ((va : Int) * pw K + (vb : Int)) = V := by rw [IntWalk.i64_in _ (by omega)]; exact eV
  have eI : IntKind.i64.wrap ((I : Int) + 1) = (I : Int) + 1 := IntWalk.i64_in _ (by omega)
  have q3 : decide ((I : Int) < (r.size : Int)) = true := decide_eq_true (by omega)
  have q4 : ((y.toNat : Int) == 46) = true := beq_iff_eq.2 (by omega)
  have q5 : decide ((9 : Int) < (I : Int)) = false := decide_eq_false (by omega)
  have s1 : IntKind.i64.wrap ((r.size : Int) - (I : Int)) = (r.size : Int) - (I : Int) := IntWalk.i64_in _ (by omega)
  have s2 : IntKind.i64.wrap ((r.size : Int) - (I : Int) - 1) = (K : Int) := by rw [IntWalk.i64_in _ (by omega)]; omega
  have q6 : decide ((K : Int) < 1) = false := decide_eq_false (by omega)
  have q7 : decide ((9 : Int) < (K : Int)) = false := decide_eq_false (by omega)
  have q8 : ((r.size : Int) == 0) = false := beq_eq_false_iff_ne.2 (by omega)
  have q9 : ((I : Int) == (r.size : Int)) = false := beq_eq_false_iff_ne.2 (by omega)
  have e1 : IntKind.i64.wrap (-1 * V) = -V := by rw [IntWalk.i64_in _ (by omega)]; omega
  have e1' : IntKind.i64.wrap (-V) = -V := IntWalk.i64_in _ (by omega)
  clear hsz hI hK cd2 hy1 hb hm hm1 hm9 hva hvb hpw w1 w2 hmul hmul0 eV hV hx1 hrs
  go_enter Tryz.func39, Tryz.ntmps39
  go_wp2_with fail
  refine (CD.out _).mono ?_
  rintro e w' ⟨rfl, rfl⟩
  go_wp2_with fail
  refine (CD2.out _).mono ?_
  rintro e w' ⟨rfl, rfl⟩
  go_wp2_with fail
  refine (CP.out _).mono ?_
  rintro e w' ⟨rfl, rfl⟩
  go_wp2
  go_region_with (first | (go_at_call 80; (with_reducible refine (CA.out _).mono ?_); rintro e w' ⟨rfl, rfl⟩) | (go_at_call 80; (with_reducible refine (CB.out _).mono ?_); rintro e w' ⟨rfl, rfl⟩) | (go_at_call 29; (with_reducible refine (CF.out _).mono ?_); rintro e w3 ⟨rfl, hb⟩; have hb := undrewTm hb; obtain ⟨hc, hf⟩ := bcell hb; have z0 := size1 hb; have HB := Lib.hid (below1 hb)))
  all_goals
    go_wp2
    exact bodyPost_ret (v := .tuple #[.agg #[.int .i64 (fit (-V) (pw K)).n, .int .i64 (fit (-V) (pw K)).d], .int .i64 (fit (-V) (pw K)).e]) (by simp [results, Tryz.results39, go_sem, hc]) rfl ⟨by rw [HA.out], below_two HB.out _ _⟩
end Go.Proofs.YtfocokjihbenmaaGreatDoor.Nu

namespace Go.Proofs.YtfocokjihbenmaaGreatDoor.Nu
open Go.RowKit
set_option linter.unusedVariables false
set_option linter.unusedSimpArgs false

theorem run1_le (l : List UInt8) {i : Nat} (h : i ≤ l.length) : run1 l i ≤ l.length := by
  unfold run1; have := tw_le (l.drop i); rw [List.length_drop] at this; omega
theorem tw_stop : ∀ (l : List UInt8) {c : UInt8} {r : List UInt8}, l.drop (l.takeWhile isD).length = c :: r → isD c = false
  | [], c, r, h => by simp at h
  | b :: l, c, r, h => by
    by_cases hb : isD b = true
    · rw [List.takeWhile_cons_of_pos hb, List.length_cons, List.drop_succ_cons] at h
      exact tw_stop l h
    · rw [List.takeWhile_cons_of_neg hb] at h
      simp at h
      rw [← h.1]; simpa using hb
theorem take_tw (l : List UInt8) : l.take (l.takeWhile isD).length = l.takeWhile isD := (List.prefix_iff_eq_take.1 (List.takeWhile_prefix isD)).symm
theorem val_9 {l : List UInt8} (h : l.all isD = true) (hl : l.length ≤ 9) : val l < 1000000000 := by
  have h1 := val_lt h
  have h3 : 10 ^ l.length ≤ 10 ^ 9 := Nat.pow_le_pow_right (by decide) hl
  have h4 : (10 : Nat) ^ 9 = 1000000000 := by decide
  omega
theorem get_lst (s : ByteArray) (k : Nat) (h : k < s.size) : s.data.toList.drop k = s[k] :: s.data.toList.drop (k + 1) := by
  rw [List.drop_eq_getElem_cons (by simpa using h)]
  simp [ByteArray.getElem_eq_getElem_data]
theorem u8_of {b : UInt8} {n : Nat} (h : b.toNat = n) (hn : n < 256) : b = UInt8.ofNat n := by
  apply UInt8.toNat_inj.1; rw [h]; simp; omega
theorem RPs_n (s : ByteArray) (w : World) (hs : s.size ≤ 100) (x : UInt8) (h0 : 0 < s.size) (hx : s[0]'h0 = x) (hx1 : x.toNat ≠ 43) (hx2 : x.toNat ≠ 45) :
    Calls Tryz.prog 39 #[.string s] w fun e w' => e = .returned (.tuple #[.agg #[.int .i64 (pbody false s.data.toList).n, .int .i64 (pbody false s.data.toList).d], .int .i64 (pbody false s.data.toList).e]) ∧ Below w.heap.size w w' := by
  have hl : s.data.toList.length = s.size := by simp
  have hI0 := run1_le s.data.toList (i := 0) (Nat.zero_le _)
  by_cases hall : run1 s.data.toList 0 = s.data.toList.length
  · by_cases h9 : 9 < s.size
    · exact RP_long_n s w hs x h0 hx hx1 hx2 hall h9
    · exact RP_all_n s w hs x h0 hx hx1 hx2 hall (by omega) (by omega)
  · obtain ⟨I, hI⟩ : ∃ I, run1 s.data.toList 0 = I := ⟨_, rfl⟩
    rw [hI] at hall hI0
    have h1 : I < s.size := by omega
    have hI2 : (s.data.toList.takeWhile isD).length = I := by rw [← hI, run1_zero]
    have hdr := get_lst s I h1
    have hstop : isD s[I] = false := tw_stop s.data.toList (by rw [hI2]; exact hdr)
    by_cases hy : s[I].toNat = 46
    · have hy46 : s[I] = 46 := u8_of hy (by decide)
      have hpt := pb_point false (l := s.data.toList) (r := s.data.toList.drop (I + 1)) (by rw [hI, hdr, hy46])
      rw [hI] at hpt
      have hrl : (s.data.toList.drop (I + 1)).length = s.size - (I + 1) := by rw [List.length_drop, hl]
      have hr1 : run1 s.data.toList (I + 1) = I + 1 + ((s.data.toList.drop (I + 1)).takeWhile isD).length := rfl
      have htl := tw_le (s.data.toList.drop (I + 1))
      obtain ⟨K, hK⟩ : ∃ K, run1 s.data.toList (I + 1) = K := ⟨_, rfl⟩
      by_cases hKs : K = s.size
      · rw [hKs] at hK
        have htw : ((s.data.toList.drop (I + 1)).takeWhile isD).length = (s.data.toList.drop (I + 1)).length := by omega
        by_cases hb : 9 < I
        · exact RP_pi_n s w hs x h0 hx hx1 hx2 I 0 hI s[I] h1 rfl hy hK hb (Lib.hid (by rw [hpt, if_neg (by omega)]))
        · by_cases hm : s.size = I + 1
          · exact RP_p0_n s w hs x h0 hx hx1 hx2 I 0 hI s[I] h1 rfl hy hK (by omega) hm (Lib.hid (by rw [hpt, if_neg (by omega)]))
          · obtain ⟨k, hk⟩ : ∃ k, s.size = I + 1 + k := ⟨s.size - (I + 1), by omega⟩
            by_cases hk9 : 9 < k
            · exact RP_p9_n s w hs x h0 hx hx1 hx2 I k hI s[I] h1 rfl hy hK (by omega) hk hk9 (Lib.hid (by rw [hpt, if_neg (by omega)]))
            · have hrk : (s.data.toList.drop (I + 1)).length = k := by omega
              rw [if_pos ⟨by omega, htw, by omega, by omega⟩, hrk] at hpt
              have a1 := tw_digits s.data.toList
              have a2 := tw_all htw
              have x1 : (s.extract 0 I).data.toList = s.data.toList.takeWhile isD := by rw [Lib.extract_data, List.drop_zero, Nat.sub_zero, ← hI2, take_tw]
              have x2 : (s.extract (I + 1) s.size).data.toList = s.data.toList.drop (I + 1) := Lib.extract_to_end s (I + 1)
              have CA := Lib.hid (fun w => value_any (s.extract 0 I) w (by simp; omega) (by rw [x1]; exact a1))
              have CB := Lib.hid (fun w => value_any (s.extract (I + 1) s.size) w (by simp; omega) (by rw [x2]; exact a2))
              rw [x1] at CA
              rw [x2] at CB
              exact RP_pt_n s w hs x h0 hx hx1 hx2 I k _ _ hI s[I] h1 rfl hy hK (by omega) hk (by omega) (by omega) (val_9 a1 (by omega)) (val_9 a2 (by omega)) CA CB (Lib.hid (by rw [hpt]; rfl))
      · have hne : ¬ ((s.data.toList.drop (I + 1)).takeWhile isD).length = (s.data.toList.drop (I + 1)).length := by omega
        exact RP_pk_n s w hs x h0 hx hx1 hx2 I K hI s[I] h1 rfl hy hK hKs (Lib.hid (by rw [hpt, if_neg (fun h => hne h.2.1)]))
    · have hc : s[I] ≠ 46 := fun e => hy (by rw [e]; rfl)
      exact RP_else_n s w hs x h0 hx hx1 hx2 I hI s[I] h1 rfl hy (Lib.hid (pb_else false (l := s.data.toList) (r := s.data.toList.drop (I + 1)) (c := s[I]) (by rw [hI]; exact hdr) hc hstop))
theorem RPs_p (s : ByteArray) (w : World) (hs : s.size ≤ 100) (x : UInt8) (h0 : 0 < s.size) (hx : s[0]'h0 = x) (hx1 : x.toNat = 43) (r : ByteArray) (hr : s.extract 1 s.size = r) (hrs : r.size + 1 = s.size) :
    Calls Tryz.prog 39 #[.string s] w fun e w' => e = .returned (.tuple #[.agg #[.int .i64 (pbody false r.data.toList).n, .int .i64 (pbody false r.data.toList).d], .int .i64 (pbody false r.data.toList).e]) ∧ Below w.heap.size w w' := by
  have hl : r.data.toList.length = r.size := by simp
  have hI0 := run1_le r.data.toList (i := 0) (Nat.zero_le _)
  by_cases hall : run1 r.data.toList 0 = r.data.toList.length
  · by_cases h9 : 9 < r.size
    · exact RP_long_p s w hs x h0 hx hx1 r hr hrs hall h9
    · by_cases hz : r.size = 0
      · exact RP_none_p s w hs x h0 hx hx1 r hr hrs hall hz
      · exact RP_all_p s w hs x h0 hx hx1 r hr hrs hall (by omega) (by omega)
  · obtain ⟨I, hI⟩ : ∃ I, run1 r.data.toList 0 = I := ⟨_, rfl⟩
    rw [hI] at hall hI0
    have h1 : I < r.size := by omega
    have hI2 : (r.data.toList.takeWhile isD).length = I := by rw [← hI, run1_zero]
    have hdr := get_lst r I h1
    have hstop : isD r[I] = false := tw_stop r.data.toList (by rw [hI2]; exact hdr)
    by_cases hy : r[I].toNat = 46
    · have hy46 : r[I] = 46 := u8_of hy (by decide)
      have hpt := pb_point false (l := r.data.toList) (r := r.data.toList.drop (I + 1)) (by rw [hI, hdr, hy46])
      rw [hI] at hpt
      have hrl : (r.data.toList.drop (I + 1)).length = r.size - (I + 1) := by rw [List.length_drop, hl]
      have hr1 : run1 r.data.toList (I + 1) = I + 1 + ((r.data.toList.drop (I + 1)).takeWhile isD).length := rfl
      have htl := tw_le (r.data.toList.drop (I + 1))
      obtain ⟨K, hK⟩ : ∃ K, run1 r.data.toList (I + 1) = K := ⟨_, rfl⟩
      by_cases hKs : K = r.size
      · rw [hKs] at hK
        have htw : ((r.data.toList.drop (I + 1)).takeWhile isD).length = (r.data.toList.drop (I + 1)).length := by omega
        by_cases hb : 9 < I
        · exact RP_pi_p s w hs x h0 hx hx1 r hr hrs I 0 hI r[I] h1 rfl hy hK hb (Lib.hid (by rw [hpt, if_neg (by omega)]))
        · by_cases hm : r.size = I + 1
          · exact RP_p0_p s w hs x h0 hx hx1 r hr hrs I 0 hI r[I] h1 rfl hy hK (by omega) hm (Lib.hid (by rw [hpt, if_neg (by omega)]))
          · obtain ⟨k, hk⟩ : ∃ k, r.size = I + 1 + k := ⟨r.size - (I + 1), by omega⟩
            by_cases hk9 : 9 < k
            · exact RP_p9_p s w hs x h0 hx hx1 r hr hrs I k hI r[I] h1 rfl hy hK (by omega) hk hk9 (Lib.hid (by rw [hpt, if_neg (by omega)]))
            · have hrk : (r.data.toList.drop (I + 1)).length = k := by omega
              rw [if_pos ⟨by omega, htw, by omega, by omega⟩, hrk] at hpt
              have a1 := tw_digits r.data.toList
              have a2 := tw_all htw
              have x1 : (r.extract 0 I).data.toList = r.data.toList.takeWhile isD := by rw [Lib.extract_data, List.drop_zero, Nat.sub_zero, ← hI2, take_tw]
              have x2 : (r.extract (I + 1) r.size).data.toList = r.data.toList.drop (I + 1) := Lib.extract_to_end r (I + 1)
              have CA := Lib.hid (fun w => value_any (r.extract 0 I) w (by simp; omega) (by rw [x1]; exact a1))
              have CB := Lib.hid (fun w => value_any (r.extract (I + 1) r.size) w (by simp; omega) (by rw [x2]; exact a2))
              rw [x1] at CA
              rw [x2] at CB
              exact RP_pt_p s w hs x h0 hx hx1 r hr hrs I k _ _ hI r[I] h1 rfl hy hK (by omega) hk (by omega) (by omega) (val_9 a1 (by omega)) (val_9 a2 (by omega)) CA CB (Lib.hid (by rw [hpt]; rfl))
      · have hne : ¬ ((r.data.toList.drop (I + 1)).takeWhile isD).length = (r.data.toList.drop (I + 1)).length := by omega
        exact RP_pk_p s w hs x h0 hx hx1 r hr hrs I K hI r[I] h1 rfl hy hK hKs (Lib.hid (by rw [hpt, if_neg (fun h => hne h.2.1)]))
    · have hc : r[I] ≠ 46 := fun e => hy (by rw [e]; rfl)
      exact RP_else_p s w hs x h0 hx hx1 r hr hrs I hI r[I] h1 rfl hy (Lib.hid (pb_else false (l := r.data.toList) (r := r.data.toList.drop (I + 1)) (c := r[I]) (by rw [hI]; exact hdr) hc hstop))
theorem RPs_m (s : ByteArray) (w : World) (hs : s.size ≤ 100) (x : UInt8) (h0 : 0 < s.size) (hx : s[0]'h0 = x) (hx1 : x.toNat = 45) (r : ByteArray) (hr : s.extract 1 s.size = r) (hrs : r.size + 1 = s.size) :
    Calls Tryz.prog 39 #[.string s] w fun e w' => e = .returned (.tuple #[.agg #[.int .i64 (pbody true r.data.toList).n, .int .i64 (pbody true r.data.toList).d], .int .i64 (pbody true r.data.toList).e]) ∧ Below w.heap.size w w' := by
  have hl : r.data.toList.length = r.size := by simp
  have hI0 := run1_le r.data.toList (i := 0) (Nat.zero_le _)
  by_cases hall : run1 r.data.toList 0 = r.data.toList.length
  · by_cases h9 : 9 < r.size
    · exact RP_long_m s w hs x h0 hx hx1 r hr hrs hall h9
    · by_cases hz : r.size = 0
      · exact RP_none_m s w hs x h0 hx hx1 r hr hrs hall hz
      · exact RP_all_m s w hs x h0 hx hx1 r hr hrs hall (by omega) (by omega)
  · obtain ⟨I, hI⟩ : ∃ I, run1 r.data.toList 0 = I := ⟨_, rfl⟩
    rw [hI] at hall hI0
    have h1 : I < r.size := by omega
    have hI2 : (r.data.toList.takeWhile isD).length = I := by rw [← hI, run1_zero]
    have hdr := get_lst r I h1
    have hstop : isD r[I] = false := tw_stop r.data.toList (by rw [hI2]; exact hdr)
    by_cases hy : r[I].toNat = 46
    · have hy46 : r[I] = 46 := u8_of hy (by decide)
      have hpt := pb_point true (l := r.data.toList) (r := r.data.toList.drop (I + 1)) (by rw [hI, hdr, hy46])
      rw [hI] at hpt
      have hrl : (r.data.toList.drop (I + 1)).length = r.size - (I + 1) := by rw [List.length_drop, hl]
      have hr1 : run1 r.data.toList (I + 1) = I + 1 + ((r.data.toList.drop (I + 1)).takeWhile isD).length := rfl
      have htl := tw_le (r.data.toList.drop (I + 1))
      obtain ⟨K, hK⟩ : ∃ K, run1 r.data.toList (I + 1) = K := ⟨_, rfl⟩
      by_cases hKs : K = r.size
      · rw [hKs] at hK
        have htw : ((r.data.toList.drop (I + 1)).takeWhile isD).length = (r.data.toList.drop (I + 1)).length := by omega
        by_cases hb : 9 < I
        · exact RP_pi_m s w hs x h0 hx hx1 r hr hrs I 0 hI r[I] h1 rfl hy hK hb (Lib.hid (by rw [hpt, if_neg (by omega)]))
        · by_cases hm : r.size = I + 1
          · exact RP_p0_m s w hs x h0 hx hx1 r hr hrs I 0 hI r[I] h1 rfl hy hK (by omega) hm (Lib.hid (by rw [hpt, if_neg (by omega)]))
          · obtain ⟨k, hk⟩ : ∃ k, r.size = I + 1 + k := ⟨r.size - (I + 1), by omega⟩
            by_cases hk9 : 9 < k
            · exact RP_p9_m s w hs x h0 hx hx1 r hr hrs I k hI r[I] h1 rfl hy hK (by omega) hk hk9 (Lib.hid (by rw [hpt, if_neg (by omega)]))
            · have hrk : (r.data.toList.drop (I + 1)).length = k := by omega
              rw [if_pos ⟨by omega, htw, by omega, by omega⟩, hrk] at hpt
              have a1 := tw_digits r.data.toList
              have a2 := tw_all htw
              have x1 : (r.extract 0 I).data.toList = r.data.toList.takeWhile isD := by rw [Lib.extract_data, List.drop_zero, Nat.sub_zero, ← hI2, take_tw]
              have x2 : (r.extract (I + 1) r.size).data.toList = r.data.toList.drop (I + 1) := Lib.extract_to_end r (I + 1)
              have CA := Lib.hid (fun w => value_any (r.extract 0 I) w (by simp; omega) (by rw [x1]; exact a1))
              have CB := Lib.hid (fun w => value_any (r.extract (I + 1) r.size) w (by simp; omega) (by rw [x2]; exact a2))
              rw [x1] at CA
              rw [x2] at CB
              exact RP_pt_m s w hs x h0 hx hx1 r hr hrs I k _ _ hI r[I] h1 rfl hy hK (by omega) hk (by omega) (by omega) (val_9 a1 (by omega)) (val_9 a2 (by omega)) CA CB (Lib.hid (by rw [hpt]; rfl))
      · have hne : ¬ ((r.data.toList.drop (I + 1)).takeWhile isD).length = (r.data.toList.drop (I + 1)).length := by omega
        exact RP_pk_m s w hs x h0 hx hx1 r hr hrs I K hI r[I] h1 rfl hy hK hKs (Lib.hid (by rw [hpt, if_neg (fun h => hne h.2.1)]))
    · have hc : r[I] ≠ 46 := fun e => hy (by rw [e]; rfl)
      exact RP_else_m s w hs x h0 hx hx1 r hr hrs I hI r[I] h1 rfl hy (Lib.hid (pb_else true (l := r.data.toList) (r := r.data.toList.drop (I + 1)) (c := r[I]) (by rw [hI]; exact hdr) hc hstop))
set_option maxRecDepth 100000 in
theorem RP_empty (s : ByteArray) (w : World) (h : s.size = 0) :
    Calls Tryz.prog 39 #[.string s] w fun e w' => e = .returned (.tuple #[.agg #[.int .i64 0, .int .i64 0], .int .i64 1]) ∧ Below w.heap.size w w' := by
  have hl : s.data.toList.length = 0 := by simpa using h
  have hr : run1 s.data.toList 0 = 0 := by have := run1_le s.data.toList (i := 0) (Nat.zero_le _); omega
  have CD := Lib.hid (fun w => digits_any s 0 w (by omega) (Nat.zero_le _))
  rw [hr] at CD
  have q0 : (s.size : Int) = 0 := by omega
  clear hl hr
  go_enter Tryz.func39, Tryz.ntmps39
  go_wp2_with fail
  refine (CD.out _).mono ?_
  rintro e w' ⟨rfl, rfl⟩
  go_wp2
  exact bodyPost_ret (v := .tuple #[.agg #[.int .i64 0, .int .i64 0], .int .i64 1]) (by simp [results, Tryz.results39, go_sem]) rfl ⟨rfl, (Below.refl _ _).alloc (Nat.le_refl _) _⟩
theorem RParse_any (s : ByteArray) (w : World) (hs : s.size ≤ 100) :
    Calls Tryz.prog 39 #[.string s] w fun e w' => e = .returned (.tuple #[.agg #[.int .i64 (parse s.data.toList).n, .int .i64 (parse s.data.toList).d], .int .i64 (parse s.data.toList).e]) ∧ Below w.heap.size w w' := by
  by_cases h0 : 0 < s.size
  · have hh : s.data.toList = s[0] :: s.data.toList.drop 1 := by have := get_lst s 0 h0; rwa [List.drop_zero] at this
    have hhd : s.data.toList.head? = some s[0] := by rw [hh]; rfl
    have hx : (s.extract 1 s.size).data.toList = s.data.toList.drop 1 := Lib.extract_to_end s 1
    have hrs : (s.extract 1 s.size).size + 1 = s.size := by simp; omega
    by_cases hm : s[0].toNat = 45
    · have e : parse s.data.toList = pbody true (s.extract 1 s.size).data.toList := by unfold parse; rw [if_pos (by rw [hhd, u8_of hm (by decide)]; rfl), hx]
      rw [e]; exact RPs_m s w hs s[0] h0 rfl hm _ rfl hrs
    · have n1 : ¬ s.data.toList.head? = some 45 := by rw [hhd]; intro h; exact hm (by rw [Option.some.inj h]; rfl)
      by_cases hp : s[0].toNat = 43
      · have e : parse s.data.toList = pbody false (s.extract 1 s.size).data.toList := by unfold parse; rw [if_neg n1, if_pos (by rw [hhd, u8_of hp (by decide)]; rfl), hx]
        rw [e]; exact RPs_p s w hs s[0] h0 rfl hp _ rfl hrs
      · have n2 : ¬ s.data.toList.head? = some 43 := by rw [hhd]; intro h; exact hp (by rw [Option.some.inj h]; rfl)
        have e : parse s.data.toList = pbody false s.data.toList := by unfold parse; rw [if_neg n1, if_neg n2]
        rw [e]; exact RPs_n s w hs s[0] h0 rfl hp hm
  · have hz : s.size = 0 := by omega
    have hn : s.data.toList = [] := by rw [← List.length_eq_zero_iff]; simpa using hz
    have e : parse s.data.toList = ⟨0, 0, 1⟩ := by
      rw [hn]
      show pbody false [] = _
      rw [pb_all false rfl, if_neg (by simp)]
    rw [e]; exact RP_empty s w hz
end Go.Proofs.YtfocokjihbenmaaGreatDoor.Nu
