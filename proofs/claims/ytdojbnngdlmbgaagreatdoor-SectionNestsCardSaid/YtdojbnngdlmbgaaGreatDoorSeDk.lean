/-
  The reference's Trim and TrimEnd.
  The contracts of Find, of the reference's Find and SameSections.
  The contracts of the reference's SameSections and of known.
-/
import Derived.Test.YtdojbnngdlmbgaaGreatDoorSeA
import Derived.Laws.StructEq
import Derived.Test.YtdojbnngdlmbgaaGreatDoorSeC
namespace Go.Proofs.YtdojbnngdlmbgaaGreatDoor.Se
open Go.RowKit Go.Shelf
set_option linter.unusedVariables false
set_option linter.unusedSimpArgs false

def tr (l : List UInt8) : List UInt8 := Lib.trimS l bl
def spc (c : UInt8) : Bool := bl.contains c
theorem spc_eq (c : UInt8) : spc c = ((c.toNat : Int) == 32 || (c.toNat : Int) == 9) := by
  have h : ∀ k : UInt8, (c == k) = ((c.toNat : Int) == (k.toNat : Int)) := fun k => by
    rw [Bool.eq_iff_iff, beq_iff_eq, beq_iff_eq, Int.ofNat_inj, UInt8.toNat_inj]
  unfold spc bl
  simp only [List.contains_cons, List.contains_nil, Bool.or_false, h]
  rfl
def trL (l : List UInt8) : List UInt8 := l.dropWhile spc
def trR (l : List UInt8) : List UInt8 := (l.reverse.dropWhile spc).reverse
theorem tr_eq (l : List UInt8) : tr l = trL (trR l) := rfl
theorem trR_cons (c : UInt8) (l : List UInt8) : trR (c :: l) = if trR l = [] ∧ spc c = true then [] else c :: trR l := by
  unfold trR
  rw [List.reverse_cons, List.dropWhile_append]
  by_cases h : (l.reverse.dropWhile spc) = []
  · rw [h]
    cases hc : spc c
    · simp [List.dropWhile, hc]
    · simp [List.dropWhile, hc]
  · have h2 : (l.reverse.dropWhile spc).isEmpty = false := by
      cases hq : l.reverse.dropWhile spc with
      | nil => exact absurd hq h
      | cons _ _ => rfl
    rw [h2]
    simp [h]
theorem trL_yes {c : UInt8} (h : spc c = true) (l : List UInt8) : trL (c :: l) = trL l := by unfold trL; rw [List.dropWhile_cons, if_pos h]
theorem trL_no {c : UInt8} (h : spc c = false) (l : List UInt8) : trL (c :: l) = c :: l := by unfold trL; rw [List.dropWhile_cons, h]; rfl
theorem tr_swap (l : List UInt8) : trL (trR l) = trR (trL l) := by
  induction l with
  | nil => rfl
  | cons c l ih =>
    cases hc : spc c
    · rw [trL_no hc, trR_cons, if_neg (by rw [hc]; exact fun h => by cases h.2), trL_no hc]
    · rw [trL_yes hc, trR_cons, ← ih]
      by_cases h : trR l = []
      · rw [if_pos ⟨h, hc⟩, h]
      · rw [if_neg (fun hh => h hh.1), trL_yes hc]
theorem trL_idem (l : List UInt8) : trL (trL l) = trL l := by
  induction l with
  | nil => rfl
  | cons c l ih =>
    cases hc : spc c
    · rw [trL_no hc, trL_no hc]
    · rw [trL_yes hc, ih]
theorem trR_idem (l : List UInt8) : trR (trR l) = trR l := by
  have h := trL_idem l.reverse
  unfold trL at h
  unfold trR
  rw [List.reverse_reverse, h]
theorem tr_idem (l : List UInt8) : tr (tr l) = tr l := by
  rw [tr_eq, tr_eq, tr_swap (trL (trR l)), trL_idem, ← tr_swap (trR l), trR_idem]
theorem trR_snoc (l : List UInt8) (c : UInt8) : trR (l ++ [c]) = if spc c = true then trR l else l ++ [c] := by
  unfold trR
  rw [List.reverse_append, List.reverse_singleton, List.singleton_append, List.dropWhile_cons]
  cases hc : spc c
  · simp
  · simp
theorem str_cons {s : ByteArray} (h : 0 < s.size) : s.data.toList = s[0] :: (s.extract 1 s.size).data.toList := by
  rw [ext_tail]
  exact (List.drop_eq_getElem_cons (i := 0) (by rw [size_list]; exact h))
theorem str_snoc {s : ByteArray} (h : 0 < s.size) : s.data.toList = (s.extract 0 (s.size - 1)).data.toList ++ [s[s.size - 1]] := by
  rw [ext_list, List.drop_zero, Nat.sub_zero]
  have h2 := (List.take_append_getElem (l := s.data.toList) (i := s.size - 1) (by rw [size_list]; omega)).symm
  rw [List.take_of_length_le (by rw [size_list]; omega)] at h2
  exact h2
theorem trL_str_yes {s : ByteArray} (h : 0 < s.size) (hc : spc s[0] = true) : trL s.data.toList = trL (s.extract 1 s.size).data.toList := by rw [str_cons h, trL_yes hc]
theorem trL_str_no {s : ByteArray} (h : 0 < s.size) (hc : spc s[0] = false) : trL s.data.toList = s.data.toList := by
  have h1 := str_cons h
  rw [h1, trL_no hc]
theorem trR_str_yes {s : ByteArray} (h : 0 < s.size) (hc : spc s[s.size - 1] = true) : trR s.data.toList = trR (s.extract 0 (s.size - 1)).data.toList := by rw [str_snoc h, trR_snoc, if_pos hc]
theorem trR_str_no {s : ByteArray} (h : 0 < s.size) (hc : spc s[s.size - 1] = false) : trR s.data.toList = s.data.toList := by
  have h1 := str_snoc h
  rw [h1, trR_snoc, if_neg (by rw [hc]; exact Bool.false_ne_true)]
theorem list_nil {s : ByteArray} (h : s.size = 0) : s.data.toList = [] := List.length_eq_zero_iff.1 (by rw [size_list]; exact h)
theorem spc_cases (c : UInt8) : (spc c = true ∧ ((c.toNat : Int) == 9) = true) ∨ (spc c = true ∧ ((c.toNat : Int) == 9) = false ∧ ((c.toNat : Int) == 32) = true) ∨ (spc c = false ∧ ((c.toNat : Int) == 9) = false ∧ ((c.toNat : Int) == 32) = false) := by
  rw [spc_eq]
  cases ((c.toNat : Int) == 9) <;> cases ((c.toNat : Int) == 32) <;> simp
set_option maxRecDepth 100000 in
set_option maxHeartbeats 4000000 in
theorem RTrimEnd_any (s0 : ByteArray) (w : World) (hs : s0.size ≤ 4294967281) : Calls Tryz.prog 56 #[.string s0] w fun e w' => e = .returned (.string (bsl (trR s0.data.toList))) ∧ w' = w := by
  go_enter Tryz.func56, Tryz.ntmps56
  go_wp2_with fail
  go_loopw [0] (fun sv wr => ∃ t : ByteArray, sv = .string t ∧ t.size ≤ 4294967281 ∧ Hid (trR t.data.toList = trR s0.data.toList) ∧ w = wr) (fun sv _ => match sv with | .string s => s.size | _ => 0)
  case atStart => exact ⟨s0, rfl, hs, Lib.hid rfl, rfl⟩
  case round =>
    obtain ⟨t, rfl, htz, HR, rfl⟩ := hrel
    by_cases k0 : t.size = 0
    · have f0 : decide ((0 : Int) < (t.size : Int)) = false := decide_eq_false (by omega)
      have HE : Hid (t = bsl (trR s0.data.toList)) := Lib.hid (by
        apply bs_inj
        show t.data.toList = trR s0.data.toList
        rw [← HR.out, list_nil k0]; rfl)
      go_wp2_with fail
      go_ret
      exact ⟨ret_str HE.out, rfl⟩
    · have kpos : 0 < t.size := by omega
      have kposI : (0 : Int) < (t.size : Int) := by omega
      have f0 : decide ((0 : Int) < (t.size : Int)) = true := decide_eq_true kposI
      have KY := Lib.hid (fun h => trR_str_yes kpos h)
      have KN := Lib.hid (fun h => trR_str_no kpos h)
      have hlast : t.size - 1 < t.size := by omega
      obtain ⟨c2, hc2⟩ : ∃ c, t[t.size - 1]'hlast = c := ⟨_, rfl⟩
      have hget2 : ∀ h, t[t.size - 1]'h = c2 := fun _ => hc2
      rw [hc2] at KY KN
      have q1 : (0 : Int) ≤ (t.size : Int) - 1 := by omega
      have q2 : ((t.size : Int) - 1).toNat = t.size - 1 := by omega
      have q3 : (t.size : Int) - 1 < (t.size : Int) := by omega
      have q4 : (t.size : Int) - 1 ≤ (t.size : Int) := by omega
      clear hc2
      rcases spc_cases c2 with ⟨hb, d9⟩ | ⟨hb, d9, d32⟩ | ⟨hb, d9, d32⟩
      · have HR2 : Hid (trR (t.extract 0 (t.size - 1)).data.toList = trR s0.data.toList) := Lib.hid ((KY.out hb).symm.trans HR.out)
        have z2 : (t.extract 0 (t.size - 1)).size = t.size - 1 := by rw [ByteArray.size_extract]; omega
        clear KY KN k0 hb
        go_wp2_with fail
        go_roundw
        case rel => exact ⟨_, rfl, by omega, HR2, trivial⟩
        case measure => show (t.extract 0 (t.size - 1)).size < t.size; omega
      · have HR2 : Hid (trR (t.extract 0 (t.size - 1)).data.toList = trR s0.data.toList) := Lib.hid ((KY.out hb).symm.trans HR.out)
        have z2 : (t.extract 0 (t.size - 1)).size = t.size - 1 := by rw [ByteArray.size_extract]; omega
        clear KY KN k0 hb
        go_wp2_with fail
        go_roundw
        case rel => exact ⟨_, rfl, by omega, HR2, trivial⟩
        case measure => show (t.extract 0 (t.size - 1)).size < t.size; omega
      · have HE : Hid (t = bsl (trR s0.data.toList)) := Lib.hid (by
          apply bs_inj
          show t.data.toList = trR s0.data.toList
          rw [← HR.out, KN.out hb])
        clear KY KN k0 hb
        go_wp2_with fail
        go_ret
        exact ⟨ret_str HE.out, rfl⟩
set_option maxRecDepth 100000 in
set_option maxHeartbeats 4000000 in
theorem RTrim_any (s0 : ByteArray) (w : World) (hs : s0.size ≤ 4294967281) : Calls Tryz.prog 24 #[.string s0] w fun e w' => e = .returned (.string (bsl (tr s0.data.toList))) ∧ w' = w := by
  have HT : Hid (tr s0.data.toList = trR (trL s0.data.toList)) := Lib.hid (by rw [tr_eq, tr_swap])
  go_enter Tryz.func24, Tryz.ntmps24
  go_wp2_with fail
  go_loopw [0] (fun sv wr => ∃ s : ByteArray, sv = .string s ∧ s.size ≤ 4294967281 ∧ Hid (trL s.data.toList = trL s0.data.toList) ∧ w = wr) (fun sv _ => match sv with | .string s => s.size | _ => 0)
  case atStart => exact ⟨s0, rfl, hs, Lib.hid rfl, rfl⟩
  case round =>
    obtain ⟨s, rfl, hsz, HL, rfl⟩ := hrel
    by_cases k0 : s.size = 0
    · have f0 : decide ((0 : Int) < (s.size : Int)) = false := decide_eq_false (by omega)
      have HE : Hid (bsl (trR s.data.toList) = bsl (tr s0.data.toList)) := Lib.hid (by rw [HT.out, ← HL.out, list_nil k0]; rfl)
      have HC := Lib.hid (RTrimEnd_any s w hsz)
      go_wp2_with fail
      with_reducible refine (HC.out).mono ?_
      rintro e w2 ⟨rfl, rfl⟩
      go_wp2_with fail
      go_ret
      exact ⟨ret_str HE.out, rfl⟩
    · have kpos : 0 < s.size := by omega
      have kposI : (0 : Int) < (s.size : Int) := by omega
      have f0 : decide ((0 : Int) < (s.size : Int)) = true := decide_eq_true kposI
      have KY := Lib.hid (fun h => trL_str_yes kpos h)
      have KN := Lib.hid (fun h => trL_str_no kpos h)
      obtain ⟨c2, hc2⟩ : ∃ c, s[0]'kpos = c := ⟨_, rfl⟩
      have hget2 : ∀ h, s[0]'h = c2 := fun _ => hc2
      rw [hc2] at KY KN
      have q3 : (1 : Int) ≤ (s.size : Int) := by omega
      clear hc2
      rcases spc_cases c2 with ⟨hb, d9⟩ | ⟨hb, d9, d32⟩ | ⟨hb, d9, d32⟩
      · have HR2 : Hid (trL (s.extract 1 s.size).data.toList = trL s0.data.toList) := Lib.hid ((KY.out hb).symm.trans HL.out)
        have z2 : (s.extract 1 s.size).size = s.size - 1 := by rw [ByteArray.size_extract]; omega
        clear KY KN k0 hb
        go_wp2_with fail
        go_roundw
        case rel => exact ⟨_, rfl, by omega, HR2, trivial⟩
        case measure => show (s.extract 1 s.size).size < s.size; omega
      · have HR2 : Hid (trL (s.extract 1 s.size).data.toList = trL s0.data.toList) := Lib.hid ((KY.out hb).symm.trans HL.out)
        have z2 : (s.extract 1 s.size).size = s.size - 1 := by rw [ByteArray.size_extract]; omega
        clear KY KN k0 hb
        go_wp2_with fail
        go_roundw
        case rel => exact ⟨_, rfl, by omega, HR2, trivial⟩
        case measure => show (s.extract 1 s.size).size < s.size; omega
      · have HE : Hid (bsl (trR s.data.toList) = bsl (tr s0.data.toList)) := Lib.hid (by rw [HT.out, ← HL.out, KN.out hb])
        have HC := Lib.hid (RTrimEnd_any s w hsz)
        clear KY KN k0 hb
        go_wp2_with fail
        with_reducible refine (HC.out).mono ?_
        rintro e w2 ⟨rfl, rfl⟩
        go_wp2_with fail
        go_ret
        exact ⟨ret_str HE.out, rfl⟩
end Go.Proofs.YtdojbnngdlmbgaaGreatDoor.Se

namespace Go.Proofs.YtdojbnngdlmbgaaGreatDoor.Se
open Go.RowKit Go.Shelf
set_option linter.unusedVariables false
set_option linter.unusedSimpArgs false

/-- A section of any form. -/
structure Si where
  lv : Int
  ti : By
  fr : Int
  bo : Int
  en : Int
def encI (x : Si) : List Value := [.int .i64 x.lv, .string (bsl x.ti), .int .i64 x.fr, .int .i64 x.bo, .int .i64 x.en]
def fnd (n : By) : Nat → List Si → Option Nat
  | _, [] => none
  | k, x :: r => if x.ti = n then some k else fnd n (k + 1) r
def outF : Option Nat → Value
  | some i => .tuple #[.int .i64 (i : Int), .bool true]
  | none => .tuple #[.int .i64 0, .bool false]
theorem fnd_drop {n : By} {l : List Si} {k : Nat} (h : k < l.length) : fnd n k (l.drop k) = if l[k].ti = n then some k else fnd n (k + 1) (l.drop (k + 1)) := by
  rw [List.drop_eq_getElem_cons h, fnd]
theorem hbl9 : ∀ (j : Nat) (b : UInt8), (⟨#[32, 9]⟩ : ByteArray).data.toList[j]? = some b → b.toNat < 128 := by
  intro j b h
  match j, h with
  | 0, h => cases h; decide
  | 1, h => cases h; decide
  | j + 2, h => cases h
set_option maxRecDepth 100000 in
set_option maxHeartbeats 2000000 in
theorem Find_any (v : Value) (l : List Si) (a : ByteArray) (w : World) (hr : Rd 5 encI w w.heap.size v l) (ha : a.size ≤ 4294967281) :
    Calls Tryz.prog 19 #[v, .string a] w fun e w' => e = .returned (outF (fnd (tr a.data.toList) 0 l)) ∧ Below w.heap.size w w' := by
  obtain ⟨A1, c1, rfl, l1, m1, r1⟩ := hr.ex
  unfold maxLen at m1
  clear hr
  have HT0 := fun w => Trim_any a ⟨#[32, 9]⟩ w (by omega) (by decide) hbl9
  obtain ⟨n, hn⟩ : ∃ n, tr a.data.toList = n := ⟨_, rfl⟩
  rw [show Lib.trimS a.data.toList (⟨#[32, 9]⟩ : ByteArray).data.toList = n from hn] at HT0
  rw [hn]
  have HT := Lib.hid HT0
  clear HT0 hn
  have R1 := Lib.hid r1; clear r1
  go_enter Tryz.func19, Tryz.ntmps19
  go_wp2_with fail
  with_reducible refine (HT.out _).mono ?_
  rintro e w1 ⟨rfl, hb1⟩
  have HB := Lib.hid hb1
  clear hb1 HT
  go_wp2_with fail
  go_loopw [12] (fun i wr => ∃ k : Nat, k ≤ l.length ∧ i = .int .i64 k ∧ Hid (Below w.heap.size w wr) ∧ Hid (fnd n 0 l = fnd n k (l.drop k))) (fun i _ => l.length - (intOf i).toNat)
  case atStart => exact ⟨0, Nat.zero_le _, rfl, HB, Lib.hid rfl⟩
  case round =>
    obtain ⟨k, hk, rfl, hb, hf⟩ := hrel
    by_cases hlt : k < l.length
    · obtain ⟨g, o, rfl, hg, q⟩ := R1.out (by omega)
      have hki : (k : Int) < (l.length : Int) := by omega
      have q1 := q k l[k] (List.getElem?_eq_getElem hlt) 0 _ rfl
      have q2 := q k l[k] (List.getElem?_eq_getElem hlt) 1 _ rfl
      have q3 := q k l[k] (List.getElem?_eq_getElem hlt) 2 _ rfl
      have q4 := q k l[k] (List.getElem?_eq_getElem hlt) 3 _ rfl
      have q5 := q k l[k] (List.getElem?_eq_getElem hlt) 4 _ rfl
      have HF := Lib.hid (fnd_drop (n := n) hlt)
      generalize l[k] = p at q1 q2 q3 q4 q5 HF
      obtain ⟨pv, pt, pf, pb, po⟩ := p
      simp only [Nat.add_zero] at q1 q2 q3 q4 q5
      have hc : ∀ j, wr.cell? ⟨g, j, none⟩ = w.cell? ⟨g, j, none⟩ := fun j => hb.out.cell (p := ⟨g, j, none⟩) hg
      rw [← hc] at q1 q2 q3 q4 q5
      clear hc q
      have hcmp := str_beq pt n
      by_cases he : pt = n
      · have hd : decide (pt = n) = true := decide_eq_true he
        rw [hd] at hcmp
        have HO : Hid (fnd n 0 l = some k) := Lib.hid (by rw [hf.out, HF.out, if_pos he])
        clear he hd
        go_wp2
        go_ret2
        exact ⟨by rw [HO.out]; rfl, hb.out.trans ((Below.refl _ _).alloc hb.out.size _)⟩
      · have hd : decide (pt = n) = false := decide_eq_false he
        rw [hd] at hcmp
        have HO : Hid (fnd n 0 l = fnd n (k + 1) (l.drop (k + 1))) := Lib.hid (by rw [hf.out, HF.out, if_neg he])
        clear he hd
        go_wp2
        go_roundw
        case rel => exact ⟨k + 1, by omega, by go_num, Lib.hid (hb.out.trans ((Below.refl _ _).alloc hb.out.size _)), HO⟩
        case measure => simp [intOf]; omega
    · have HO : Hid (fnd n 0 l = none) := Lib.hid (by rw [hf.out, List.drop_eq_nil_of_le (by omega)]; rfl)
      go_wp2
      go_ret2
      exact ⟨by rw [HO.out]; rfl, hb.out⟩
set_option maxRecDepth 100000 in
set_option maxHeartbeats 2000000 in
theorem RFind_any (v : Value) (l : List Si) (a : ByteArray) (w : World) (hr : Rd 5 encI w w.heap.size v l) (ha : a.size ≤ 4294967281) :
    Calls Tryz.prog 20 #[v, .string a] w fun e w' => e = .returned (outF (fnd (tr a.data.toList) 0 l)) ∧ Below w.heap.size w w' := by
  obtain ⟨A1, c1, rfl, l1, m1, r1⟩ := hr.ex
  unfold maxLen at m1
  clear hr
  have HT0 := fun w => RTrim_any a w ha
  obtain ⟨n, hn⟩ : ∃ n, tr a.data.toList = n := ⟨_, rfl⟩
  rw [hn] at HT0 ⊢
  have HT := Lib.hid HT0
  clear HT0 hn
  have R1 := Lib.hid r1; clear r1
  go_enter Tryz.func20, Tryz.ntmps20
  go_wp2_with fail
  go_loopw [6] (fun i wr => ∃ (k nq : Nat), k ≤ l.length ∧ i = .int .i64 k ∧ Hid (wr = w.drewN nq) ∧ Hid (fnd n 0 l = fnd n k (l.drop k))) (fun i _ => l.length - (intOf i).toNat)
  case atStart => exact ⟨0, 0, Nat.zero_le _, rfl, Lib.hid rfl, Lib.hid rfl⟩
  case round =>
    obtain ⟨k, m0, hk, rfl, hw, hf⟩ := hrel
    by_cases hlt : k < l.length
    · obtain ⟨g, o, rfl, hg, q⟩ := R1.out (by omega)
      have hki : (k : Int) < (l.length : Int) := by omega
      have q2 := q k l[k] (List.getElem?_eq_getElem hlt) 1 _ rfl
      have HF := Lib.hid (fnd_drop (n := n) hlt)
      generalize l[k] = p at q2 HF
      obtain ⟨pv, pt, pf, pb, po⟩ := p
      simp only [Nat.add_zero] at q2
      have hc : ∀ p, wr.cell? p = w.cell? p := fun p => by rw [hw.out]; rfl
      rw [← hc] at q2
      clear hc q
      have hcmp := str_beq pt n
      by_cases he : pt = n
      · have hd : decide (pt = n) = true := decide_eq_true he
        rw [hd] at hcmp
        have HO : Hid (fnd n 0 l = some k) := Lib.hid (by rw [hf.out, HF.out, if_pos he])
        clear he hd
        go_wp2
        go_quiet ((go_at_call 24; refine (HT.out _).mono ?_; rintro e w' ⟨rfl, rfl⟩; exact ⟨rfl, _, rfl⟩))
        go_wp2
        go_ret2
        exact ⟨by rw [HO.out]; rfl, by rw [hw.out, World.drewN_drewN]; exact below_drewN (Below.refl _ _) _⟩
      · have hd : decide (pt = n) = false := decide_eq_false he
        rw [hd] at hcmp
        have HO : Hid (fnd n 0 l = fnd n (k + 1) (l.drop (k + 1))) := Lib.hid (by rw [hf.out, HF.out, if_neg he])
        clear he hd
        go_wp2
        go_quiet ((go_at_call 24; refine (HT.out _).mono ?_; rintro e w' ⟨rfl, rfl⟩; exact ⟨rfl, _, rfl⟩))
        go_wp2
        go_roundw
        case rel => exact ⟨k + 1, m0 + nq, by omega, by go_num, Lib.hid (by rw [hw.out, World.drewN_drewN]), HO⟩
        case measure => simp [intOf]; omega
    · have HO : Hid (fnd n 0 l = none) := Lib.hid (by rw [hf.out, List.drop_eq_nil_of_le (by omega)]; rfl)
      go_wp2
      go_ret2
      exact ⟨by rw [HO.out]; rfl, by rw [hw.out]; exact below_drewN (Below.refl _ _) _⟩
end Go.Proofs.YtdojbnngdlmbgaaGreatDoor.Se

namespace Go.Proofs.YtdojbnngdlmbgaaGreatDoor.Se
open Go.RowKit Go.Shelf Go.Proofs.YtdojbnngdlmbgaaGreatDoor.Tr
set_option linter.unusedVariables false
set_option linter.unusedSimpArgs false

deriving instance DecidableEq for Sc
theorem neq_sc (x y : Sc) (w : World) : (binOp .neq 40 (.agg #[.int .i64 (x.lv : Int), .string (bsl x.ti), .int .i64 (x.fr : Int), .int .i64 (x.bo : Int), .int .i64 (x.to : Int)]) (.agg #[.int .i64 (y.lv : Int), .string (bsl y.ti), .int .i64 (y.fr : Int), .int .i64 (y.bo : Int), .int .i64 (y.to : Int)])).run Tryz.prog w = .ok (.bool (decide (x ≠ y))) w := by
  have h : (Op.equalIn 10000 40 (.agg #[.int .i64 (x.lv : Int), .string (bsl x.ti), .int .i64 (x.fr : Int), .int .i64 (x.bo : Int), .int .i64 (x.to : Int)]) (.agg #[.int .i64 (y.lv : Int), .string (bsl y.ti), .int .i64 (y.fr : Int), .int .i64 (y.bo : Int), .int .i64 (y.to : Int)])).run Tryz.prog w = .ok (decide (x = y)) w := by
    rw [show (10000 : Nat) = 9998 + 1 + 1 from rfl, run_equalIn_agg _ _ _ _ _ (by kernel_rfl) (by kernel_rfl)]
    obtain ⟨x1, x2, x3, x4, x5⟩ := x
    obtain ⟨y1, y2, y3, y4, y5⟩ := y
    have e2 := str_beq x2 y2
    simp only [Sc.mk.injEq]
    by_cases h1 : x1 = y1
    · by_cases h2 : x2 = y2
      · rw [decide_eq_true h2] at e2
        by_cases h3 : x3 = y3
        · by_cases h4 : x4 = y4
          · by_cases h5 : x5 = y5
            · (go_simp <;> (intros; omega))
            · (go_simp <;> (intros; omega))
          · (go_simp <;> (intros; omega))
        · (go_simp <;> (intros; omega))
      · rw [decide_eq_false h2] at e2
        go_simp
    · (go_simp <;> (intros; omega))
  rw [run_neq_struct, h]
  simp
set_option maxRecDepth 100000 in
set_option maxHeartbeats 2000000 in
theorem SameSections_any (u v : Value) (a b : List Sc) (w : World) (hu : Rd 5 encSc w w.heap.size u a) (hv : Rd 5 encSc w w.heap.size v b) :
    Calls Tryz.prog 40 #[u, v] w fun e w' => e = .returned (.bool (decide (a = b))) ∧ Below w.heap.size w w' := by
  obtain ⟨A1, c1, rfl, l1, m1, r1⟩ := hu.ex
  obtain ⟨A2, c2, rfl, l2, m2, r2⟩ := hv.ex
  unfold maxLen at m1 m2
  clear hu hv
  by_cases hl : a.length = b.length
  · have h1 : ((a.length : Int) != (b.length : Int)) = false := by rw [bne_eq_false_iff_eq]; omega
    have HL := Lib.hid hl
    have R1 := Lib.hid r1; have R2 := Lib.hid r2; clear r1 r2
    clear hl
    go_enter Tryz.func40, Tryz.ntmps40
    go_wp2
    go_loopw [5] (fun i wr => ∃ (k nq : Nat), k ≤ a.length ∧ i = .int .i64 k ∧ Hid (wr = w.drewN nq) ∧ Hid (a.take k = b.take k)) (fun i _ => a.length - (intOf i).toNat)
    case atStart => exact ⟨0, 0, Nat.zero_le _, rfl, Lib.hid rfl, Lib.hid rfl⟩
    case round =>
      obtain ⟨k, m0, hk, rfl, hw, hr⟩ := hrel
      by_cases hlt : k < a.length
      · have hlb : k < b.length := by have := HL.out; omega
        obtain ⟨g1, o1, rfl, hg1, p1⟩ := R1.out (by omega)
        obtain ⟨g2, o2, rfl, hg2, p2⟩ := R2.out (by omega)
        have ha := List.getElem?_eq_getElem hlt
        have hbb := List.getElem?_eq_getElem hlb
        have x1 := p1 k a[k] ha 0 _ rfl
        have x2 := p1 k a[k] ha 1 _ rfl
        have x3 := p1 k a[k] ha 2 _ rfl
        have x4 := p1 k a[k] ha 3 _ rfl
        have x5 := p1 k a[k] ha 4 _ rfl
        have y1 := p2 k b[k] hbb 0 _ rfl
        have y2 := p2 k b[k] hbb 1 _ rfl
        have y3 := p2 k b[k] hbb 2 _ rfl
        have y4 := p2 k b[k] hbb 3 _ rfl
        have y5 := p2 k b[k] hbb 4 _ rfl
        simp only [Nat.add_zero] at x1 x2 x3 x4 x5 y1 y2 y3 y4 y5
        have hcell : ∀ p, wr.cell? p = w.cell? p := fun p => by rw [hw.out]; rfl
        rw [← hcell] at x1 x2 x3 x4 x5 y1 y2 y3 y4 y5
        clear hcell p1 p2 ha hbb
        have hki : (k : Int) < (a.length : Int) := by omega
        have hkj : (k : Int) < (b.length : Int) := by omega
        have hne := neq_sc a[k] b[k]
        by_cases hx : a[k] = b[k]
        · have hd : decide (a[k] ≠ b[k]) = false := by simp [hx]
          have HX : Hid (a.take (k + 1) = b.take (k + 1)) := Lib.hid (by rw [List.take_succ_eq_append_getElem hlt, List.take_succ_eq_append_getElem hlb, hr.out, hx])
          clear hx
          generalize decide (a[k] ≠ b[k]) = dd at hne hd
          subst hd
          go_wp2
          go_quiet (fail)
          go_wp2
          go_roundw
          case rel => exact ⟨k + 1, m0 + nq, by omega, by go_num, Lib.hid (by rw [hw.out, World.drewN_drewN]), HX⟩
          case measure => simp [intOf]; omega
        · have hd : decide (a[k] ≠ b[k]) = true := by simp [hx]
          have HX : Hid (a ≠ b) := Lib.hid (fun e => hx (by subst e; rfl))
          clear hx
          generalize decide (a[k] ≠ b[k]) = dd at hne hd
          subst hd
          go_wp2
          go_quiet (fail)
          go_wp2
          go_ret
          exact ⟨ret_bool (by rw [decide_eq_false HX.out]), by rw [hw.out, World.drewN_drewN]; exact below_drewN (Below.refl _ _) _⟩
      · have HX : Hid (a = b) := Lib.hid (by
          have h2 := hr.out
          have h3 := HL.out
          rw [List.take_of_length_le (by omega), List.take_of_length_le (by omega)] at h2; exact h2)
        go_wp2
        go_ret
        exact ⟨ret_bool (by rw [decide_eq_true HX.out]), by rw [hw.out]; exact below_drewN (Below.refl _ _) _⟩
  · have h1 : ((a.length : Int) != (b.length : Int)) = true := by rw [bne_iff_ne]; omega
    have HX : Hid (a ≠ b) := Lib.hid (fun e => hl (by rw [e]))
    clear hl r1 r2
    go_enter Tryz.func40, Tryz.ntmps40
    go_wp2
    go_ret
    exact ⟨ret_bool (by rw [decide_eq_false HX.out]), Below.refl _ _⟩
/-! ### known -/
def kS : By := [120, 10, 61, 61, 32, 65, 32, 61, 61, 10, 97, 10, 61, 61, 61, 32, 66, 32, 61, 61, 61, 10, 98, 10, 61, 61, 32, 67]
def kL : List Sc := [⟨2, [65], 2, 10, 28⟩, ⟨3, [66], 12, 22, 28⟩]
theorem k_plain : plainOf (Pa.tree (Pa.toks kS)) = List.replicate 28 true := by kernel_rfl
theorem k_secs : secs 28 (hds headOf (List.replicate 28 true) 28 0 (lines kS)) = kL := by kernel_rfl
set_option maxRecDepth 100000 in
set_option maxHeartbeats 2000000 in
theorem known_any (w : World) (ht : Tk.Tb w) : Calls Tryz.prog 15 #[] w fun e w' => e = .returned (.bool true) ∧ Below w.heap.size w w' := by
  have hS := Sections_any (bsl kS) w ht (by decide)
  rw [show (bsl kS).size = 28 from by rw [bsl_size]; rfl, show (bsl kS).data.toList = kS from rfl, k_plain, k_secs, show bsl kS = ⟨#[120, 10, 61, 61, 32, 65, 32, 61, 61, 10, 97, 10, 61, 61, 61, 32, 66, 32, 61, 61, 61, 10, 98, 10, 61, 61, 32, 67]⟩ from rfl] at hS
  have HS := Lib.hid hS
  clear hS
  go_enter Tryz.func15, Tryz.ntmps15
  go_wp2_with fail
  with_reducible refine (HS.out).mono ?_
  rintro e w1 ⟨v1, rfl, o1, b1⟩
  have O1 := Lib.hid o1
  have B1 := Lib.hid b1
  clear HS o1 b1
  go_wp2_with fail
  have RL := rd_lit (k := 5) (enc := encSc) encSc_len (w := w1.alloc (.cells #[.int .i64 2, .string ⟨#[65]⟩, .int .i64 2, .int .i64 10, .int .i64 28, .int .i64 3, .string ⟨#[66]⟩, .int .i64 12, .int .i64 22, .int .i64 28] 40 (0, 0))) (l := kL) (heap_alloc_new w1 _) rfl (by decide)
  have BA : Below w1.heap.size w1 (w1.alloc (.cells #[.int .i64 2, .string ⟨#[65]⟩, .int .i64 2, .int .i64 10, .int .i64 28, .int .i64 3, .string ⟨#[66]⟩, .int .i64 12, .int .i64 22, .int .i64 28] 40 (0, 0))) := (Below.refl _ _).alloc (Nat.le_refl _) _
  have RV := O1.out.rd.up BA
  have C := SameSections_any v1 _ kL kL _ RV RL
  rw [decide_eq_true rfl] at C
  refine C.mono ?_
  rintro e w2 ⟨rfl, b2⟩
  have B2 := Lib.hid (B1.out.trans ((BA.trans (b2.mono BA.size)).mono B1.out.size))
  clear RL BA RV C b2 O1 B1
  go_wp2_with fail
  go_ret
  exact ⟨rfl, B2.out⟩
end Go.Proofs.YtdojbnngdlmbgaaGreatDoor.Se
