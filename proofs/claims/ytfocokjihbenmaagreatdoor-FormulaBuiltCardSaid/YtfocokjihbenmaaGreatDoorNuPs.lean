/-
  Plain facts for the contract of Parse: cutting at the point, prefixes, the number of a row of digits.
  The contracts of areDigits and isDecimal, for strings of any bytes.
  The contract of Parse of package number.
-/
import Derived.Test.YtfocokjihbenmaaGreatDoorNuT
import Derived.Lib.IndexMore
import Derived.Lib.Strings
import Derived.Test.YtfocokjihbenmaaGreatDoorNuMo
import Derived.BigQuiet
import Derived.Laws.RangeAny
import Derived.Lib.DecodeN
import Derived.Lib.OthersKept
import Derived.Test.YtfocokjihbenmaaGreatDoorNuAd
namespace Go.Proofs.YtfocokjihbenmaaGreatDoor.Nu

theorem cut_lib : ∀ l : List UInt8, Lib.cut l [46] = cut l
  | [] => rfl
  | b :: l => by
    have ih := cut_lib l
    have hg := Lib.index_ge l [46]
    by_cases hb : b = 46
    · subst hb
      have hI : Lib.index (46 :: l) [46] = 0 := by rw [Lib.index, if_pos (by simp [List.isPrefixOf])]
      unfold Lib.cut cut
      rw [hI, if_pos (by decide), if_pos rfl]
      rfl
    · have hp : List.isPrefixOf [46] (b :: l) = false := by
        simp only [List.isPrefixOf, Bool.and_true]
        exact beq_eq_false_iff_ne.2 fun h => hb h.symm
      have hI : Lib.index (b :: l) [46] = if Lib.index l [46] = -1 then -1 else Lib.index l [46] + 1 := by
        rw [Lib.index, hp]
        by_cases hi : Lib.index l [46] = -1
        · rw [if_pos hi, hi]; rfl
        · rw [if_neg hi, if_neg Bool.false_ne_true, if_neg (fun h => hi (beq_iff_eq.1 h))]
      unfold Lib.cut at ih ⊢
      unfold cut
      rw [if_neg hb, hI]
      by_cases hi : Lib.index l [46] = -1
      · rw [if_neg (by omega)] at ih
        rw [if_pos hi, if_neg (by omega), ← ih]
      · rw [if_pos (by omega)] at ih
        rw [if_neg hi, if_pos (by omega), ← ih]
        have e : (Lib.index l [46] + 1).toNat = (Lib.index l [46]).toNat + 1 := by omega
        rw [e, Nat.add_right_comm]
        rfl
theorem pre_lib (l : List UInt8) (c : UInt8) : Lib.hasPrefix l [c] = true ↔ l.head? = some c := by
  unfold Lib.hasPrefix
  cases l with
  | nil => simp [List.isPrefixOf]
  | cons b l =>
    simp only [List.isPrefixOf, Bool.and_true, beq_iff_eq, List.head?_cons, Option.some.injEq]
    exact eq_comm
theorem parse_neg {l : List UInt8} (h : Lib.hasPrefix l [45] = true) : parse l = pbody true (Lib.trimPrefix l [45]) := by
  unfold parse Lib.trimPrefix
  rw [if_pos ((pre_lib l 45).1 h), if_pos h]
  rfl
theorem parse_pos {l : List UInt8} (h : Lib.hasPrefix l [45] = false) : parse l = pbody false (Lib.trimPrefix l [43]) := by
  unfold parse Lib.trimPrefix
  rw [if_neg (fun e => by rw [(pre_lib l 45).2 e] at h; cases h)]
  by_cases hp : Lib.hasPrefix l [43] = true
  · rw [if_pos hp, if_pos ((pre_lib l 43).1 hp)]
    rfl
  · rw [if_neg hp, if_neg (fun e => hp ((pre_lib l 43).2 e))]
theorem cut_false : ∀ {l : List UInt8}, (cut l).2.2 = false → (cut l).2.1 = []
  | [], _ => rfl
  | b :: l, h => by
    unfold cut at h ⊢
    split at h
    · cases h
    · rename_i hb
      rw [if_neg hb]
      exact cut_false (l := l) h
theorem adB_ok {l : List UInt8} (h : adB l = true) : l.all isD = true ∧ l.length ≤ 9 := by
  unfold adB at h
  rw [Bool.and_eq_true, decide_eq_true_iff] at h
  exact ⟨h.2, h.1.2⟩
theorem id_ok {l : List UInt8} (h : idB (cut l).1 (cut l).2.1 (cut l).2.2 = true) : ((cut l).1 ++ (cut l).2.1).all isD = true ∧ (cut l).1.length ≤ 9 ∧ (cut l).2.1.length ≤ 9 := by
  unfold idB at h
  cases hp : (cut l).2.2
  · rw [hp] at h
    rw [cut_false hp, List.append_nil]
    have h2 := adB_ok h
    exact ⟨h2.1, h2.2, Nat.zero_le _⟩
  · rw [hp, if_pos rfl, Bool.and_eq_true, Bool.or_eq_true] at h
    obtain ⟨h1, h2⟩ := h
    have k2 := adB_ok h2
    rw [List.all_append]
    rcases h1 with h1 | h1
    · rw [List.isEmpty_iff.1 h1]
      exact ⟨by rw [k2.1]; rfl, Nat.zero_le _, k2.2⟩
    · have k1 := adB_ok h1
      exact ⟨by rw [k1.1, k2.1]; rfl, k1.2, k2.2⟩
theorem valFrom_lt : ∀ (l : List UInt8) (a : Nat), l.all isD = true → valFrom a l < (a + 1) * 10 ^ l.length
  | [], a, _ => by simp [valFrom]
  | x :: l, a, h => by
    rw [List.all_cons, Bool.and_eq_true] at h
    have hx : 48 ≤ x.toNat ∧ x.toNat ≤ 57 := of_decide_eq_true h.1
    have ih := valFrom_lt l (10 * a + (x.toNat - 48)) h.2
    have e : valFrom a (x :: l) = valFrom (10 * a + (x.toNat - 48)) l := rfl
    rw [e, List.length_cons, Nat.pow_succ, Nat.mul_comm (10 ^ l.length) 10, ← Nat.mul_assoc]
    exact Nat.lt_of_lt_of_le ih (Nat.mul_le_mul_right _ (by omega))
theorem val_lt {l : List UInt8} (h : l.all isD = true) : val l < 10 ^ l.length := by
  have := valFrom_lt l 0 h
  rwa [Nat.zero_add, Nat.one_mul] at this
theorem all_take {l : List UInt8} (h : l.all isD = true) (p : Nat) : (l.take p).all isD = true := by
  rw [List.all_eq_true] at h ⊢
  exact fun x hx => h x (List.mem_of_mem_take hx)
theorem val_step {l : List UInt8} {p : Nat} {x : UInt8} (hx : l[p]? = some x) : val (l.take (p + 1)) = 10 * val (l.take p) + (x.toNat - 48) := by
  rw [List.take_add_one, hx]
  unfold val
  rw [valFrom_append]
  rfl
theorem val_take_lt {l : List UInt8} (h : l.all isD = true) {p : Nat} (hp : p ≤ 17) : val (l.take p) < 100000000000000000 := by
  have h1 := val_lt (all_take h p)
  have h2 : (l.take p).length ≤ 17 := by rw [List.length_take]; omega
  have h3 : 10 ^ (l.take p).length ≤ 10 ^ 17 := Nat.pow_le_pow_right (by decide) h2
  have h4 : (10 : Nat) ^ 17 = 100000000000000000 := by decide
  omega
theorem val_18 {l : List UInt8} (h : l.all isD = true) (hl : l.length ≤ 18) : val l < 1000000000000000000 := by
  have h1 := val_lt h
  have h3 : 10 ^ l.length ≤ 10 ^ 18 := Nat.pow_le_pow_right (by decide) hl
  have h4 : (10 : Nat) ^ 18 = 1000000000000000000 := by decide
  omega
end Go.Proofs.YtfocokjihbenmaaGreatDoor.Nu

namespace Go.Proofs.YtfocokjihbenmaaGreatDoor.Nu
open Go.RowKit

theorem iterPos_of {W : World} {k p : Nat} {s : ByteArray} (h : W.heap[k]? = some (.stringIter s p)) : W.iterPos k = p := by simp [World.iterPos, h]
theorem below_iterAt {w W : World} (h : Below w.heap.size w W) (s : ByteArray) (pos : Nat) : Below w.heap.size w (W.iterAt w.heap.size s pos) :=
  ⟨h.os, h.tape, h.output, by show w.heap.size ≤ (W.heap.setIfInBounds _ _).size; rw [Array.size_setIfInBounds]; exact h.size, fun k hk => by
    show (W.heap.setIfInBounds w.heap.size (.stringIter s pos))[k]? = _
    rw [Array.getElem?_setIfInBounds_ne (by omega)]; exact h.block k hk⟩
theorem isD_all {l : List UInt8} {p : Nat} {x : UInt8} (h : (l.take p).all isD = true) (hx : l[p]? = some x) (hd : isD x = true) : (l.take (p + 1)).all isD = true := by
  rw [List.take_add_one, hx, List.all_append, h]
  simp [hd]
theorem isD_not {l : List UInt8} {p : Nat} {x : UInt8} (hx : l[p]? = some x) (hd : isD x = false) : l.all isD = false := by
  rw [Bool.eq_false_iff]
  intro h
  have := List.all_eq_true.1 h x (List.mem_of_getElem? hx)
  rw [hd] at this
  cases this
theorem adB_len {l : List UInt8} (h : ¬ (1 ≤ l.length ∧ l.length ≤ 9)) : adB l = false := by unfold adB; rw [decide_eq_false h]; rfl
theorem adB_in {l : List UInt8} (h : 1 ≤ l.length ∧ l.length ≤ 9) : adB l = l.all isD := by unfold adB; rw [decide_eq_true h]; rfl
set_option maxRecDepth 100000 in
set_option maxHeartbeats 2000000 in
theorem areDigits_any (s : ByteArray) (w : World) : Calls Tryz.prog 97 #[.string s] w fun e w' => e = .returned (.bool (adB s.data.toList)) ∧ Below w.heap.size w w' := by
  have hsz := Lib.size_eq s
  by_cases h1 : s.size < 1
  · have HA := Lib.hid (adB_len (l := s.data.toList) (by omega))
    have h1' : decide ((s.size : Int) < 1) = true := decide_eq_true (by omega)
    clear hsz h1
    go_enter Tryz.func97, Tryz.ntmps97
    go_wp2
    go_ret
    exact ⟨by rw [HA.out]; rfl, Below.refl _ _⟩
  · have h1' : decide ((s.size : Int) < 1) = false := decide_eq_false (by omega)
    by_cases h2 : 9 < s.size
    · have HA := Lib.hid (adB_len (l := s.data.toList) (by omega))
      have h2' : decide ((9 : Int) < (s.size : Int)) = true := decide_eq_true (by omega)
      clear hsz h1 h2
      go_enter Tryz.func97, Tryz.ntmps97
      go_wp2
      go_ret
      exact ⟨by rw [HA.out]; rfl, Below.refl _ _⟩
    · have h2' : decide ((9 : Int) < (s.size : Int)) = false := decide_eq_false (by omega)
      have HA := Lib.hid (adB_in (l := s.data.toList) (by omega))
      have HZ := Lib.hid hsz
      clear hsz h1 h2
      go_enter Tryz.func97, Tryz.ntmps97
      go_wp2
      go_loopw [4] (fun _ wr => ∃ pos : Nat, pos ≤ s.size ∧ Hid (wr.heap[w.heap.size]? = some (.stringIter s pos)) ∧ Hid (Below w.heap.size w wr) ∧ Hid ((s.data.toList.take pos).all isD = true)) (fun _ wr => s.size - wr.iterPos w.heap.size)
      case atStart => exact ⟨0, Nat.zero_le _, Lib.hid (World.iter_heap w s 0), Lib.hid ((Below.refl _ _).alloc (Nat.le_refl _) _), Lib.hid rfl⟩
      case round =>
        obtain ⟨pos, hp, HT, HB, HN⟩ := hrel
        have HP := Lib.hid (iterPos_of HT.out)
        by_cases hlt : pos < s.size
        · obtain ⟨x, hx⟩ : ∃ x : UInt8, s[pos]'hlt = x := ⟨_, rfl⟩
          have hxl : s.data.toList[pos]? = some x := by rw [← hx]; exact Lib.data_getElem? s pos hlt
          by_cases h128 : x.toNat < 128
          · have hnx := fun ty => Lib.run_next_ascii_at (P := Tryz.prog) wr w.heap.size s pos ty HT.out hlt (by rw [hx]; exact h128)
            rw [hx] at hnx
            have HB2 := Lib.hid (below_iterAt HB.out s (pos + 1))
            have HT2 := Lib.hid (Lib.iterAt_heap wr w.heap.size s pos (pos + 1) HT.out)
            by_cases hd : isD x = true
            · have hd2 : 48 ≤ x.toNat ∧ x.toNat ≤ 57 := of_decide_eq_true hd
              have d1 : decide ((x.toNat : Int) < 48) = false := decide_eq_false (by omega)
              have d2 : decide ((57 : Int) < (x.toNat : Int)) = false := decide_eq_false (by omega)
              have HN2 := Lib.hid (isD_all HN.out hxl hd)
              clear hxl hx hd hd2
              go_wp2
              go_roundw
              case rel => exact ⟨pos + 1, by omega, HT2, HB2, HN2⟩
              case measure => rw [iterPos_of HT2.out, HP.out]; omega
            · have hd2 : ¬ (48 ≤ x.toNat ∧ x.toNat ≤ 57) := fun hh => hd (decide_eq_true hh)
              have HN2 := Lib.hid (isD_not hxl (Bool.eq_false_iff.2 hd))
              clear hxl hx hd
              by_cases hl : x.toNat < 48
              · have d1 : decide ((x.toNat : Int) < 48) = true := decide_eq_true (by omega)
                clear hd2 hl
                go_wp2
                go_ret
                exact ⟨by rw [HA.out, HN2.out]; rfl, HB2.out⟩
              · have d1 : decide ((x.toNat : Int) < 48) = false := decide_eq_false (by omega)
                have d2 : decide ((57 : Int) < (x.toNat : Int)) = true := decide_eq_true (by omega)
                clear hd2 hl
                go_wp2
                go_ret
                exact ⟨by rw [HA.out, HN2.out]; rfl, HB2.out⟩
          · have hnx := fun ty => Lib.run_next_any_at (P := Tryz.prog) wr w.heap.size s pos ty HT.out hlt
            have hh := (decode_high s pos hlt (by rw [hx]; omega)).1
            obtain ⟨D, hD⟩ : ∃ D, D = Utf8.decode s pos := ⟨_, rfl⟩
            rw [← hD] at hnx hh
            have HB2 := Lib.hid (below_iterAt HB.out s (pos + D.2))
            have HN2 := Lib.hid (isD_not hxl (decide_eq_false (by omega : ¬ (48 ≤ x.toNat ∧ x.toNat ≤ 57))))
            have d1 : decide ((D.1 : Int) < 48) = false := decide_eq_false (by omega)
            have d2 : decide ((57 : Int) < (D.1 : Int)) = true := decide_eq_true (by omega)
            clear hxl hx hD hh h128
            go_wp2
            go_ret
            exact ⟨by rw [HA.out, HN2.out]; rfl, HB2.out⟩
        · obtain rfl : pos = s.size := by omega
          have hnx := fun ty => Lib.run_next_end_at (P := Tryz.prog) wr w.heap.size s s.size ty HT.out hlt
          go_wp2
          go_ret
          have hN : s.data.toList.all isD = true := by
            have := HN.out
            rwa [List.take_of_length_le (by rw [← HZ.out]; exact Nat.le_refl _)] at this
          exact ⟨by rw [HA.out, hN]; rfl, HB.out⟩
theorem emp_yes {s : ByteArray} (h : s.data.toList.isEmpty = true) : s.toList.isEmpty = true := by rw [Lib.toList_data]; exact h
theorem emp_no {s : ByteArray} (h : s.data.toList.isEmpty = false) : s.toList.isEmpty = false := by rw [Lib.toList_data]; exact h
set_option maxRecDepth 100000 in
set_option maxHeartbeats 2000000 in
theorem isDecimal_any (a b : ByteArray) (pt : Bool) (w : World) : Calls Tryz.prog 58 #[.string a, .string b, .bool pt] w fun e w' => e = .returned (.bool (idB a.data.toList b.data.toList pt)) ∧ Below w.heap.size w w' := by
  cases pt
  · have HI : Hid (idB a.data.toList b.data.toList false = adB a.data.toList) := Lib.hid rfl
    go_enter Tryz.func58, Tryz.ntmps58
    go_wp2_with fail
    refine (areDigits_any a w).mono ?_
    rintro e w1 ⟨rfl, hb⟩
    go_wp2_with fail
    go_ret
    exact ⟨by rw [HI.out]; rfl, hb⟩
  · cases he : a.data.toList.isEmpty
    · have h0 := emp_no he
      cases hd : adB a.data.toList
      · have HI : Hid (idB a.data.toList b.data.toList true = false) := Lib.hid (by unfold idB; rw [he, hd]; rfl)
        have HA := Lib.hid (areDigits_any a w)
        rw [hd] at HA
        clear hd he
        go_enter Tryz.func58, Tryz.ntmps58
        go_wp2_with fail
        refine HA.out.mono ?_
        rintro e w1 ⟨rfl, hb⟩
        go_wp2_with fail
        go_ret
        exact ⟨by rw [HI.out]; rfl, hb⟩
      · have HI : Hid (idB a.data.toList b.data.toList true = adB b.data.toList) := Lib.hid (by unfold idB; rw [he, hd]; simp)
        have HA := Lib.hid (areDigits_any a w)
        rw [hd] at HA
        clear hd he
        go_enter Tryz.func58, Tryz.ntmps58
        go_wp2_with fail
        refine HA.out.mono ?_
        rintro e w1 ⟨rfl, hb⟩
        have HB := Lib.hid hb
        clear hb HA
        go_wp2_with fail
        refine (areDigits_any b w1).mono ?_
        rintro e w2 ⟨rfl, hb⟩
        have HB2 := Lib.hid (HB.out.trans (hb.mono HB.out.size))
        clear hb
        go_wp2_with fail
        go_ret
        exact ⟨by rw [HI.out]; rfl, HB2.out⟩
    · have h0 := emp_yes he
      have HI : Hid (idB a.data.toList b.data.toList true = adB b.data.toList) := Lib.hid (by unfold idB; rw [he]; simp)
      clear he
      go_enter Tryz.func58, Tryz.ntmps58
      go_wp2_with fail
      refine (areDigits_any b w).mono ?_
      rintro e w1 ⟨rfl, hb⟩
      go_wp2_with fail
      go_ret
      exact ⟨by rw [HI.out]; rfl, hb⟩
end Go.Proofs.YtfocokjihbenmaaGreatDoor.Nu

namespace Go.Proofs.YtfocokjihbenmaaGreatDoor.Nu
open Go.RowKit
theorem power_q (k : Nat) (w : World) (h : k ≤ 9) : Calls Tryz.prog 60 #[.int .i64 (k : Int)] w fun e w' => e = .returned (.int .i64 (pw k)) ∧ w' = w :=
  (power_any k w h).mono fun _ _ ⟨he, hw⟩ => ⟨he, hw.symm⟩
set_option linter.unusedVariables false

theorem mk_list (l : List UInt8) : (⟨l.toArray⟩ : ByteArray).data.toList = l := rfl
theorem cat_list (a b : ByteArray) : (a ++ b).data.toList = a.data.toList ++ b.data.toList := by simp
theorem below_iter {w W : World} {B : Nat} (h : Below B w W) (k : Nat) (hk : B ≤ k) (s : ByteArray) (pos : Nat) : Below B w (W.iterAt k s pos) :=
  ⟨h.os, h.tape, h.output, by rw [Lib.iterAt_size]; exact h.size, fun j hj => by
    show (W.heap.setIfInBounds k (.stringIter s pos))[j]? = _
    rw [Array.getElem?_setIfInBounds_ne (by omega)]; exact h.block j hj⟩
theorem step_64 {v y : Nat} (hv : v < 100000000000000000) (hy : y ≤ 9) : IntKind.i64.wrap (10 * (v : Int)) = 10 * (v : Int) ∧ IntKind.i64.wrap (10 * (v : Int) + (y : Int)) = ((10 * v + y : Nat) : Int) ∧ IntKind.i64.wrap (y : Int) = (y : Int) := by
  refine ⟨IntWalk.i64_in _ (by omega), ?_, IntWalk.i64_in _ (by omega)⟩
  rw [IntWalk.i64_in _ (by omega)]
  omega
theorem step_32 {x : UInt8} {y : Nat} (hx : isD x = true) (hy : x.toNat - 48 = y) : IntKind.i32.wrap ((x.toNat : Int) - 48) = (y : Int) ∧ y ≤ 9 ∧ x.toNat < 128 := by
  have h : 48 ≤ x.toNat ∧ x.toNat ≤ 57 := of_decide_eq_true hx
  refine ⟨?_, by omega, by omega⟩
  rw [IntWalk.i32_in _ (by omega)]
  omega
theorem digit_at {l : List UInt8} {p : Nat} {x : UInt8} (h : l.all isD = true) (hx : l[p]? = some x) : isD x = true := List.all_eq_true.1 h x (List.mem_of_getElem? hx)
set_option maxRecDepth 100000 in
set_option maxHeartbeats 4000000 in
theorem Parse_PN (s r : ByteArray) (w : World) (ht : Tb w) (hs : s.size ≤ 1000) (hr : r.size ≤ 1000) (hp : Lib.hasPrefix s.data.toList [45] = true) (er : r.data.toList = Lib.trimPrefix s.data.toList [45]) :
    Calls Tryz.prog 34 #[.string s] w fun e w' => e = .returned (.tuple #[.agg #[.int .i64 (pbody true r.data.toList).n, .int .i64 (pbody true r.data.toList).d], .int .i64 (pbody true r.data.toList).e]) ∧ Below w.heap.size w w' := by
  have HW : Hid (Below w.heap.size w (w.alloc (.cells #[.int .i64 0, .int .i64 0] 24))) := Lib.hid ((Below.refl _ _).alloc (Nat.le_refl _) _)
  have HT := Lib.hid (ht.below HW.out)
  have h1 := Tryz.strings_CutPrefix s ⟨#[45]⟩ (w.alloc (.cells #[.int .i64 0, .int .i64 0] 24))
  have e1 : (⟨(Lib.trimPrefix s.data.toList (⟨#[45]⟩ : ByteArray).data.toList).toArray⟩ : ByteArray) = r := by
    show (⟨(Lib.trimPrefix s.data.toList [45]).toArray⟩ : ByteArray) = r
    rw [← er]
  have e2 : Lib.hasPrefix s.data.toList (⟨#[45]⟩ : ByteArray).data.toList = true := hp
  rw [e1, e2] at h1
  have H1 := Lib.hid h1
  clear h1 e1 e2 hp er
  obtain ⟨m, hm⟩ := HT.out.ml
  have h3 := Tryz.strings_Cut r ⟨#[46]⟩ m (w.alloc (.cells #[.int .i64 0, .int .i64 0] 24)) (by omega) hm
  have e3 : Lib.cut r.data.toList (⟨#[46]⟩ : ByteArray).data.toList = cut r.data.toList := cut_lib _
  rw [e3] at h3
  clear hm e3
  have hpb : pbody true r.data.toList = if idB (cut r.data.toList).1 (cut r.data.toList).2.1 (cut r.data.toList).2.2 then fit (-(val ((cut r.data.toList).1 ++ (cut r.data.toList).2.1) : Int)) (pw (cut r.data.toList).2.1.length) else ⟨0, 0, 1⟩ := rfl
  have hok := id_ok (l := r.data.toList)
  obtain ⟨a, ea⟩ : ∃ a : ByteArray, (⟨(cut r.data.toList).1.toArray⟩ : ByteArray) = a := ⟨_, rfl⟩
  obtain ⟨b, eb⟩ : ∃ b : ByteArray, (⟨(cut r.data.toList).2.1.toArray⟩ : ByteArray) = b := ⟨_, rfl⟩
  obtain ⟨pt, ep⟩ : ∃ pt : Bool, (cut r.data.toList).2.2 = pt := ⟨_, rfl⟩
  have la : (cut r.data.toList).1 = a.data.toList := by rw [← ea]
  have lb : (cut r.data.toList).2.1 = b.data.toList := by rw [← eb]
  rw [ea, eb, ep] at h3
  rw [la, lb, ep] at hpb hok
  have H3 := Lib.hid h3
  clear h3 ea eb ep la lb
  generalize hR : pbody true r.data.toList = R at *
  clear hR
  cases hI : idB a.data.toList b.data.toList pt
  · rw [hI] at hpb
    have HR : Hid (R = ⟨0, 0, 1⟩) := Lib.hid hpb
    have h4 := fun w => isDecimal_any a b pt w
    rw [hI] at h4
    have H4 := Lib.hid h4
    clear h4 hpb hok hI
    go_enter Tryz.func34, Tryz.ntmps34
    go_wp2_with fail
    refine H1.out.mono ?_
    rintro e w' ⟨rfl, rfl⟩
    clear H1
    go_wp2_with fail
    refine H3.out.mono ?_
    rintro e w2 ⟨rfl, n2, e2⟩
    have B2 : Hid (Below (w.alloc (.cells #[.int .i64 0, .int .i64 0] 24)).heap.size (w.alloc (.cells #[.int .i64 0, .int .i64 0] 24)) w2) := Lib.hid (by rw [e2]; exact below_drewN (Below.refl _ _) n2)
    clear H3 e2
    go_wp2_with fail
    refine (H4.out w2).mono ?_
    rintro e w3 ⟨rfl, hb⟩
    have B3 := Lib.hid (B2.out.trans (hb.mono B2.out.size))
    clear hb H4
    have b3 := B3.out
    obtain ⟨hc, hf⟩ := bcell b3
    have z0 := size1 b3
    have HB := Lib.hid (below1 b3)
    clear b3
    go_wp2
    exact bodyPost_ret (v := .tuple #[.agg #[.int .i64 0, .int .i64 0], .int .i64 1]) (by simp [results, Tryz.results34, go_sem, hc]) rfl ⟨by rw [HR.out], below_two HB.out _ _⟩
  · rw [hI, if_pos rfl] at hpb
    obtain ⟨hall, hla, hlb⟩ := hok hI
    rw [← cat_list] at hall hpb
    have hsa := Lib.size_eq a
    have hsb := Lib.size_eq b
    obtain ⟨t, et⟩ : ∃ t, a ++ b = t := ⟨_, rfl⟩
    have hts : t.size = a.size + b.size := by rw [← et]; exact ByteArray.size_append
    have htl := Lib.size_eq t
    rw [et] at hall hpb
    have hv := val_18 hall (by omega)
    obtain ⟨p1, p2⟩ := pw_bd (k := b.size) (by omega)
    rw [← hsb] at hpb
    have ht18 : t.size ≤ 18 := by omega
    have hb9 : b.size ≤ 9 := by omega
    have HR := Lib.hid hpb
    have HA := Lib.hid hall
    have HTL := Lib.hid htl
    have HV := Lib.hid hv
    have HP1 := Lib.hid (And.intro p1 p2)
    have h4 := fun w => isDecimal_any a b pt w
    rw [hI] at h4
    have H4 := Lib.hid h4
    have HF := Lib.hid (fun w => fit_any (-(val t.data.toList : Int)) (pw b.size) w (by omega) (by omega) (by omega))
    have HPW := Lib.hid (fun w => power_q b.size w hb9)
    have hs1 : ∀ W, (Op.stringOp .add a b).run Tryz.prog W = .ok (.string t) W := fun W => by rw [← et]; exact run_string_add_sum (P := Tryz.prog) W a b (by omega)
    have HTS := Lib.hid ht18
    clear h4 hpb hok hI hall hla hlb hsa hsb hts htl hv p1 p2 et hb9 ht18
    go_enter Tryz.func34, Tryz.ntmps34
    go_wp2_with fail
    refine H1.out.mono ?_
    rintro e w' ⟨rfl, rfl⟩
    clear H1
    go_wp2_with fail
    refine H3.out.mono ?_
    rintro e w2 ⟨rfl, n2, e2⟩
    have B2 : Hid (Below (w.alloc (.cells #[.int .i64 0, .int .i64 0] 24)).heap.size (w.alloc (.cells #[.int .i64 0, .int .i64 0] 24)) w2) := Lib.hid (by rw [e2]; exact below_drewN (Below.refl _ _) n2)
    clear H3 e2
    go_wp2_with fail
    refine (H4.out w2).mono ?_
    rintro e w3 ⟨rfl, hb⟩
    have B3 := Lib.hid (B2.out.trans (hb.mono B2.out.size))
    clear hb H4
    go_wp2
    go_loopw [9, 11] (fun u _ wr => ∃ pos v : Nat, pos ≤ t.size ∧ u = .int .i64 (v : Int) ∧ Hid (v = val (t.data.toList.take pos)) ∧ Hid (wr.heap[w3.heap.size]? = some (.stringIter t pos)) ∧ Hid (Below (w.alloc (.cells #[.int .i64 0, .int .i64 0] 24)).heap.size (w.alloc (.cells #[.int .i64 0, .int .i64 0] 24)) wr)) (fun _ _ wr => t.size - wr.iterPos w3.heap.size)
    case atStart => exact ⟨0, 0, Nat.zero_le _, rfl, Lib.hid rfl, Lib.hid (World.iter_heap w3 t 0), Lib.hid (B3.out.alloc B3.out.size _)⟩
    case round =>
      obtain ⟨pos, v, hp, hu, HVP, HI, HB⟩ := hrel
      subst hu
      have HP := Lib.hid (iterPos_of HI.out)
      by_cases hlt : pos < t.size
      · obtain ⟨x, hx⟩ : ∃ x : UInt8, t[pos]'hlt = x := ⟨_, rfl⟩
        have hxl : t.data.toList[pos]? = some x := by rw [← hx]; exact Lib.data_getElem? t pos hlt
        obtain ⟨y, hy⟩ : ∃ y, x.toNat - 48 = y := ⟨_, rfl⟩
        obtain ⟨f1, f2, f3⟩ := step_32 (digit_at HA.out hxl) hy
        have hv2 : v < 100000000000000000 := by rw [HVP.out]; exact val_take_lt HA.out (by have := HTS.out; omega)
        obtain ⟨g1, g2, g3⟩ := step_64 hv2 f2
        have HV2 : Hid (10 * v + y = val (t.data.toList.take (pos + 1))) := Lib.hid (by rw [val_step hxl, HVP.out, hy])
        have hnx := fun ty => Lib.run_next_ascii_at (P := Tryz.prog) wr w3.heap.size t pos ty HI.out hlt (by rw [hx]; exact f3)
        rw [hx] at hnx
        have HB2 := Lib.hid (below_iter HB.out w3.heap.size B3.out.size t (pos + 1))
        have HI2 := Lib.hid (Lib.iterAt_heap wr w3.heap.size t pos (pos + 1) HI.out)
        clear hxl hx hy f2 f3 hv2 HVP
        go_wp2
        go_roundw
        case rel => exact ⟨pos + 1, 10 * v + y, by omega, rfl, HV2, HI2, HB2⟩
        case measure => rw [iterPos_of HI2.out, HP.out]; omega
      · obtain rfl : pos = t.size := by omega
        have hnx := fun ty => Lib.run_next_end_at (P := Tryz.prog) wr w3.heap.size t t.size ty HI.out hlt
        have hv3 : v = val t.data.toList := by rw [HVP.out, List.take_of_length_le (by rw [← HTL.out]; exact Nat.le_refl _)]
        have hv4 : v < 1000000000000000000 := by rw [hv3]; exact HV.out
        have HF2 := HF
        rw [← hv3] at HF2
        have hR2 := HR.out
        rw [← hv3] at hR2
        have HR2 := Lib.hid hR2
        have g4 : IntKind.i64.wrap (-(v : Int)) = -(v : Int) := IntWalk.i64_in _ (by omega)
        clear hv3 hR2 HF HR HVP HV hv4
        go_wp2_with fail
        refine (HPW.out _).mono ?_
        rintro e w' ⟨rfl, rfl⟩
        go_wp2_with fail
        refine (HF2.out _).mono ?_
        rintro e w5 ⟨rfl, hb⟩
        have b5 := HB.out.trans (hb.mono HB.out.size)
        clear hb
        obtain ⟨hc, hf⟩ := bcell b5
        have z0 := size1 b5
        have HB5 := Lib.hid (below1 b5)
        clear b5
        go_wp2
        exact bodyPost_ret (v := .tuple #[.agg #[.int .i64 (fit (-(v : Int)) (pw b.size)).n, .int .i64 (fit (-(v : Int)) (pw b.size)).d], .int .i64 (fit (-(v : Int)) (pw b.size)).e]) (by simp [results, Tryz.results34, go_sem, hc]) rfl ⟨by rw [HR2.out], below_two HB5.out _ _⟩
set_option maxRecDepth 100000 in
set_option maxHeartbeats 4000000 in
theorem Parse_PP (s r : ByteArray) (w : World) (ht : Tb w) (hs : s.size ≤ 1000) (hr : r.size ≤ 1000) (hp : Lib.hasPrefix s.data.toList [45] = false) (er : r.data.toList = Lib.trimPrefix s.data.toList [43]) :
    Calls Tryz.prog 34 #[.string s] w fun e w' => e = .returned (.tuple #[.agg #[.int .i64 (pbody false r.data.toList).n, .int .i64 (pbody false r.data.toList).d], .int .i64 (pbody false r.data.toList).e]) ∧ Below w.heap.size w w' := by
  have HW : Hid (Below w.heap.size w (w.alloc (.cells #[.int .i64 0, .int .i64 0] 24))) := Lib.hid ((Below.refl _ _).alloc (Nat.le_refl _) _)
  have HT := Lib.hid (ht.below HW.out)
  have h1 := Tryz.strings_CutPrefix s ⟨#[45]⟩ (w.alloc (.cells #[.int .i64 0, .int .i64 0] 24))
  have h2 := Tryz.strings_TrimPrefix s ⟨#[43]⟩ (w.alloc (.cells #[.int .i64 0, .int .i64 0] 24))
  have e1 : (⟨(Lib.trimPrefix s.data.toList (⟨#[43]⟩ : ByteArray).data.toList).toArray⟩ : ByteArray) = r := by
    show (⟨(Lib.trimPrefix s.data.toList [43]).toArray⟩ : ByteArray) = r
    rw [← er]
  have e2 : Lib.hasPrefix s.data.toList (⟨#[45]⟩ : ByteArray).data.toList = false := hp
  rw [e1] at h2
  rw [e2] at h1
  generalize (⟨(Lib.trimPrefix s.data.toList (⟨#[45]⟩ : ByteArray).data.toList).toArray⟩ : ByteArray) = junk at h1
  have H1 := Lib.hid h1
  have H2 := Lib.hid h2
  clear h1 h2 e1 e2 hp er
  obtain ⟨m, hm⟩ := HT.out.ml
  have h3 := Tryz.strings_Cut r ⟨#[46]⟩ m (w.alloc (.cells #[.int .i64 0, .int .i64 0] 24)) (by omega) hm
  have e3 : Lib.cut r.data.toList (⟨#[46]⟩ : ByteArray).data.toList = cut r.data.toList := cut_lib _
  rw [e3] at h3
  clear hm e3
  have hpb : pbody false r.data.toList = if idB (cut r.data.toList).1 (cut r.data.toList).2.1 (cut r.data.toList).2.2 then fit (val ((cut r.data.toList).1 ++ (cut r.data.toList).2.1) : Int) (pw (cut r.data.toList).2.1.length) else ⟨0, 0, 1⟩ := rfl
  have hok := id_ok (l := r.data.toList)
  obtain ⟨a, ea⟩ : ∃ a : ByteArray, (⟨(cut r.data.toList).1.toArray⟩ : ByteArray) = a := ⟨_, rfl⟩
  obtain ⟨b, eb⟩ : ∃ b : ByteArray, (⟨(cut r.data.toList).2.1.toArray⟩ : ByteArray) = b := ⟨_, rfl⟩
  obtain ⟨pt, ep⟩ : ∃ pt : Bool, (cut r.data.toList).2.2 = pt := ⟨_, rfl⟩
  have la : (cut r.data.toList).1 = a.data.toList := by rw [← ea]
  have lb : (cut r.data.toList).2.1 = b.data.toList := by rw [← eb]
  rw [ea, eb, ep] at h3
  rw [la, lb, ep] at hpb hok
  have H3 := Lib.hid h3
  clear h3 ea eb ep la lb
  generalize hR : pbody false r.data.toList = R at *
  clear hR
  cases hI : idB a.data.toList b.data.toList pt
  · rw [hI] at hpb
    have HR : Hid (R = ⟨0, 0, 1⟩) := Lib.hid hpb
    have h4 := fun w => isDecimal_any a b pt w
    rw [hI] at h4
    have H4 := Lib.hid h4
    clear h4 hpb hok hI
    go_enter Tryz.func34, Tryz.ntmps34
    go_wp2_with fail
    refine H1.out.mono ?_
    rintro e w' ⟨rfl, rfl⟩
    clear H1
    go_wp2_with fail
    refine H2.out.mono ?_
    rintro e w' ⟨rfl, rfl⟩
    clear H2
    go_wp2_with fail
    refine H3.out.mono ?_
    rintro e w2 ⟨rfl, n2, e2⟩
    have B2 : Hid (Below (w.alloc (.cells #[.int .i64 0, .int .i64 0] 24)).heap.size (w.alloc (.cells #[.int .i64 0, .int .i64 0] 24)) w2) := Lib.hid (by rw [e2]; exact below_drewN (Below.refl _ _) n2)
    clear H3 e2
    go_wp2_with fail
    refine (H4.out w2).mono ?_
    rintro e w3 ⟨rfl, hb⟩
    have B3 := Lib.hid (B2.out.trans (hb.mono B2.out.size))
    clear hb H4
    have b3 := B3.out
    obtain ⟨hc, hf⟩ := bcell b3
    have z0 := size1 b3
    have HB := Lib.hid (below1 b3)
    clear b3
    go_wp2
    exact bodyPost_ret (v := .tuple #[.agg #[.int .i64 0, .int .i64 0], .int .i64 1]) (by simp [results, Tryz.results34, go_sem, hc]) rfl ⟨by rw [HR.out], below_two HB.out _ _⟩
  · rw [hI, if_pos rfl] at hpb
    obtain ⟨hall, hla, hlb⟩ := hok hI
    rw [← cat_list] at hall hpb
    have hsa := Lib.size_eq a
    have hsb := Lib.size_eq b
    obtain ⟨t, et⟩ : ∃ t, a ++ b = t := ⟨_, rfl⟩
    have hts : t.size = a.size + b.size := by rw [← et]; exact ByteArray.size_append
    have htl := Lib.size_eq t
    rw [et] at hall hpb
    have hv := val_18 hall (by omega)
    obtain ⟨p1, p2⟩ := pw_bd (k := b.size) (by omega)
    rw [← hsb] at hpb
    have ht18 : t.size ≤ 18 := by omega
    have hb9 : b.size ≤ 9 := by omega
    have HR := Lib.hid hpb
    have HA := Lib.hid hall
    have HTL := Lib.hid htl
    have HV := Lib.hid hv
    have HP1 := Lib.hid (And.intro p1 p2)
    have h4 := fun w => isDecimal_any a b pt w
    rw [hI] at h4
    have H4 := Lib.hid h4
    have HF := Lib.hid (fun w => fit_any (val t.data.toList : Int) (pw b.size) w (by omega) (by omega) (by omega))
    have HPW := Lib.hid (fun w => power_q b.size w hb9)
    have hs1 : ∀ W, (Op.stringOp .add a b).run Tryz.prog W = .ok (.string t) W := fun W => by rw [← et]; exact run_string_add_sum (P := Tryz.prog) W a b (by omega)
    have HTS := Lib.hid ht18
    clear h4 hpb hok hI hall hla hlb hsa hsb hts htl hv p1 p2 et hb9 ht18
    go_enter Tryz.func34, Tryz.ntmps34
    go_wp2_with fail
    refine H1.out.mono ?_
    rintro e w' ⟨rfl, rfl⟩
    clear H1
    go_wp2_with fail
    refine H2.out.mono ?_
    rintro e w' ⟨rfl, rfl⟩
    clear H2
    go_wp2_with fail
    refine H3.out.mono ?_
    rintro e w2 ⟨rfl, n2, e2⟩
    have B2 : Hid (Below (w.alloc (.cells #[.int .i64 0, .int .i64 0] 24)).heap.size (w.alloc (.cells #[.int .i64 0, .int .i64 0] 24)) w2) := Lib.hid (by rw [e2]; exact below_drewN (Below.refl _ _) n2)
    clear H3 e2
    go_wp2_with fail
    refine (H4.out w2).mono ?_
    rintro e w3 ⟨rfl, hb⟩
    have B3 := Lib.hid (B2.out.trans (hb.mono B2.out.size))
    clear hb H4
    go_wp2
    go_loopw [9, 11] (fun u _ wr => ∃ pos v : Nat, pos ≤ t.size ∧ u = .int .i64 (v : Int) ∧ Hid (v = val (t.data.toList.take pos)) ∧ Hid (wr.heap[w3.heap.size]? = some (.stringIter t pos)) ∧ Hid (Below (w.alloc (.cells #[.int .i64 0, .int .i64 0] 24)).heap.size (w.alloc (.cells #[.int .i64 0, .int .i64 0] 24)) wr)) (fun _ _ wr => t.size - wr.iterPos w3.heap.size)
    case atStart => exact ⟨0, 0, Nat.zero_le _, rfl, Lib.hid rfl, Lib.hid (World.iter_heap w3 t 0), Lib.hid (B3.out.alloc B3.out.size _)⟩
    case round =>
      obtain ⟨pos, v, hp, hu, HVP, HI, HB⟩ := hrel
      subst hu
      have HP := Lib.hid (iterPos_of HI.out)
      by_cases hlt : pos < t.size
      · obtain ⟨x, hx⟩ : ∃ x : UInt8, t[pos]'hlt = x := ⟨_, rfl⟩
        have hxl : t.data.toList[pos]? = some x := by rw [← hx]; exact Lib.data_getElem? t pos hlt
        obtain ⟨y, hy⟩ : ∃ y, x.toNat - 48 = y := ⟨_, rfl⟩
        obtain ⟨f1, f2, f3⟩ := step_32 (digit_at HA.out hxl) hy
        have hv2 : v < 100000000000000000 := by rw [HVP.out]; exact val_take_lt HA.out (by have := HTS.out; omega)
        obtain ⟨g1, g2, g3⟩ := step_64 hv2 f2
        have HV2 : Hid (10 * v + y = val (t.data.toList.take (pos + 1))) := Lib.hid (by rw [val_step hxl, HVP.out, hy])
        have hnx := fun ty => Lib.run_next_ascii_at (P := Tryz.prog) wr w3.heap.size t pos ty HI.out hlt (by rw [hx]; exact f3)
        rw [hx] at hnx
        have HB2 := Lib.hid (below_iter HB.out w3.heap.size B3.out.size t (pos + 1))
        have HI2 := Lib.hid (Lib.iterAt_heap wr w3.heap.size t pos (pos + 1) HI.out)
        clear hxl hx hy f2 f3 hv2 HVP
        go_wp2
        go_roundw
        case rel => exact ⟨pos + 1, 10 * v + y, by omega, rfl, HV2, HI2, HB2⟩
        case measure => rw [iterPos_of HI2.out, HP.out]; omega
      · obtain rfl : pos = t.size := by omega
        have hnx := fun ty => Lib.run_next_end_at (P := Tryz.prog) wr w3.heap.size t t.size ty HI.out hlt
        have hv3 : v = val t.data.toList := by rw [HVP.out, List.take_of_length_le (by rw [← HTL.out]; exact Nat.le_refl _)]
        have hv4 : v < 1000000000000000000 := by rw [hv3]; exact HV.out
        have HF2 := HF
        rw [← hv3] at HF2
        have hR2 := HR.out
        rw [← hv3] at hR2
        have HR2 := Lib.hid hR2
        clear hv3 hR2 HF HR HVP HV hv4
        go_wp2_with fail
        refine (HPW.out _).mono ?_
        rintro e w' ⟨rfl, rfl⟩
        go_wp2_with fail
        refine (HF2.out _).mono ?_
        rintro e w5 ⟨rfl, hb⟩
        have b5 := HB.out.trans (hb.mono HB.out.size)
        clear hb
        obtain ⟨hc, hf⟩ := bcell b5
        have z0 := size1 b5
        have HB5 := Lib.hid (below1 b5)
        clear b5
        go_wp2
        exact bodyPost_ret (v := .tuple #[.agg #[.int .i64 (fit (v : Int) (pw b.size)).n, .int .i64 (fit (v : Int) (pw b.size)).d], .int .i64 (fit (v : Int) (pw b.size)).e]) (by simp [results, Tryz.results34, go_sem, hc]) rfl ⟨by rw [HR2.out], below_two HB5.out _ _⟩
theorem Parse_any (s : ByteArray) (w : World) (ht : Tb w) (hs : s.size ≤ 1000) :
    Calls Tryz.prog 34 #[.string s] w fun e w' => e = .returned (.tuple #[.agg #[.int .i64 (parse s.data.toList).n, .int .i64 (parse s.data.toList).d], .int .i64 (parse s.data.toList).e]) ∧ Below w.heap.size w w' := by
  have hsz := Lib.size_eq s
  have hl : ∀ c : UInt8, (Lib.trimPrefix s.data.toList [c]).length ≤ s.data.toList.length := fun c => by
    unfold Lib.trimPrefix
    split
    · rw [List.length_drop]; omega
    · exact Nat.le_refl _
  cases hp : Lib.hasPrefix s.data.toList [45]
  · rw [parse_pos hp]
    exact Parse_PP s ⟨(Lib.trimPrefix s.data.toList [43]).toArray⟩ w ht hs (by rw [Lib.size_eq]; have := hl 43; show (Lib.trimPrefix s.data.toList [43]).length ≤ 1000; omega) hp rfl
  · rw [parse_neg hp]
    exact Parse_PN s ⟨(Lib.trimPrefix s.data.toList [45]).toArray⟩ w ht hs (by rw [Lib.size_eq]; have := hl 45; show (Lib.trimPrefix s.data.toList [45]).length ≤ 1000; omega) hp rfl
end Go.Proofs.YtfocokjihbenmaaGreatDoor.Nu
