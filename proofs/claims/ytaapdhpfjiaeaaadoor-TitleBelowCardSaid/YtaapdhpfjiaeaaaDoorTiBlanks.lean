/-
  The law TitleBlanks returns true for every text and number, in every world that holds the tables.
-/
import Derived.Test.YtaapdhpfjiaeaaaDoorTiLawRT
import Derived.Laws.BitsLemmas
namespace Go.Proofs.YtaapdhpfjiaeaaaDoor.Ti
open Go.RowKit

theorem i64_and7 (n : Int) : bits .and .i64 n 7 = n % 8 := by
  have h7 : (BitVec.ofInt 64 7).toNat = 2 ^ 3 - 1 := by decide
  have key : (BitVec.ofInt 64 n &&& BitVec.ofInt 64 7).toNat = (n % ((2 ^ 64 : Nat) : Int)).toNat % 2 ^ 3 := by
    rw [BitVec.toNat_and, BitVec.toNat_ofInt, h7, Nat.and_two_pow_sub_one_eq_mod]
  show IntKind.i64.wrap ((BitVec.ofInt 64 n &&& BitVec.ofInt 64 7).toNat : Nat) = n % 8
  rw [key, IntKind.wrap_i64]
  omega

/-- Parse looks at what is left of the blanks alone. -/
theorem parse_sq {a b : List UInt8} (h : squeeze a = squeeze b) : parse a = parse b := by
  have hh : head a = head b := by unfold head; rw [h]
  unfold parse nameOf
  rw [hh]
theorem sq_flag (l : List UInt8) : (l.foldl sqStep ([], true)).1 = (l.foldl sqStep ([], false)).1 := by
  cases l with
  | nil => rfl
  | cons c r =>
    simp only [List.foldl_cons]
    by_cases h : c = 32 ∨ c = 95
    · simp [sqStep, h]
    · simp [sqStep, h]
theorem squeeze_wrap (l : List UInt8) : squeeze ([95, 32] ++ l ++ [32, 95]) = squeeze l := by
  unfold squeeze sq
  rw [List.foldl_append, List.foldl_append]
  have h1 : List.foldl sqStep ([], false) [95, 32] = ([], true) := by decide
  rw [h1, ← sq_flag l]
  simp [sqStep]
/-- An underscore in the place of each blank. -/
def lines (l : List UInt8) : List UInt8 := l.map fun c => if c = 32 then 95 else c
theorem squeeze_lines (l : List UInt8) : squeeze (lines l) = squeeze l := by
  have h : ∀ (l : List UInt8) (st : List UInt8 × Bool), (lines l).foldl sqStep st = l.foldl sqStep st := by
    intro l
    induction l with
    | nil => intro st; rfl
    | cons c r ih =>
      intro st
      have e : sqStep st (if c = 32 then 95 else c) = sqStep st c := by
        by_cases h : c = 32
        · simp [sqStep, h]
        · simp [h]
      show (lines r).foldl sqStep (sqStep st (if c = 32 then 95 else c)) = r.foldl sqStep (sqStep st c)
      rw [e, ih]
  unfold squeeze sq
  rw [h]
theorem lines_snoc (s : ByteArray) (k : Nat) (h : k < s.size) : lines (s.data.toList.take (k + 1)) = lines (s.data.toList.take k) ++ [if s[k] = 32 then 95 else s[k]] := by
  rw [take_snoc s k h]; simp [lines]
theorem cat_wrap (l : List UInt8) : (⟨#[95, 32]⟩ : ByteArray) ++ ⟨l.toArray⟩ ++ ⟨#[32, 95]⟩ = ⟨([95, 32] ++ l ++ [32, 95]).toArray⟩ := by
  apply ByteArray.ext
  apply Array.ext'
  simp [ByteArray.data_append]

theorem cat_one (l : List UInt8) (c : UInt8) : (⟨l.toArray⟩ : ByteArray) ++ ⟨#[c]⟩ = ⟨(l ++ [c]).toArray⟩ := by
  apply ByteArray.ext
  apply Array.ext'
  simp [ByteArray.data_append]
theorem extract_one (s : ByteArray) (j : Nat) (h : j < s.size) : s.extract j (j + 1) = ⟨#[s[j]]⟩ := by
  apply ByteArray.ext
  apply Array.ext'
  rw [Lib.extract_data]
  have h' : j < s.data.toList.length := h
  rw [List.drop_eq_getElem_cons h']
  simp; rfl

set_option maxRecDepth 100000 in
set_option maxHeartbeats 1000000 in
theorem blanks_any (s : ByteArray) (n : Int) (w : World) (hs : s.size ≤ maxLen) (ht : Tb w) :
    Calls Tryd.prog 6 #[.string s, .int .i64 n] w fun e w' => e = .returned (.bool true) ∧ Below w.heap.size w w' := by
  unfold maxLen at hs
  by_cases hbig : 300 < s.size
  · go_enter Tryd.func6, Tryd.ntmps6
    go_wp2_with fail
    refine (known_any _ ht).mono ?_
    rintro e w1 ⟨rfl, hb1⟩
    go_wp2
    go_ret
    exact ⟨rfl, hb1⟩
  have hand := i64_and7 n
  have hm1 : 0 ≤ n % 8 := by omega
  have hm2 : n % 8 < 8 := by omega
  have HAND := Lib.hid hand
  go_enter Tryd.func6, Tryd.ntmps6
  go_wp2
  go_loop [5, 7] (fun ar i => ∃ (k : Nat) (r : List UInt8), (k : Int) ≤ n % 8 ∧ i = .int .i64 k ∧ ar = .string ⟨r.toArray⟩ ∧ r.length = s.size + 4 * k ∧ Hid (squeeze r = squeeze s.data.toList)) (fun _ i => 8 - (intOf i).toNat)
  case atStart => exact ⟨0, s.data.toList, by simpa using hm1, rfl, rfl, rfl, Lib.hid rfl⟩
  case round =>
    obtain ⟨k, r, hk, rfl, rfl, hrl, hsq⟩ := hrel
    have hrl' : r.length ≤ 400 := by omega
    by_cases hlt : (k : Int) < n % 8
    · have s1 : 2 + r.length ≤ 9223372036854775807 := by omega
      have s2 : 2 + r.length + 2 ≤ 9223372036854775807 := by omega
      go_wp2
      go_round
      case rel => exact ⟨k + 1, [95, 32] ++ r ++ [32, 95], by omega, by go_num, by rw [cat_wrap], by simp; omega, Lib.hid (by rw [squeeze_wrap, hsq.out])⟩
      case measure => simp [intOf]; omega
    · have hR : parse r = parse s.data.toList := parse_sq hsq.out
      have HR := Lib.hid hR; clear hR hsq
      go_wp2
      clear hand
      go_loop [6, 8] (fun li i => ∃ (j : Nat) (q : List UInt8), j ≤ s.size ∧ i = .int .i64 j ∧ li = .string ⟨q.toArray⟩ ∧ q.length = j ∧ Hid (q = lines (s.data.toList.take j))) (fun _ i => s.size - (intOf i).toNat)
      case atStart => exact ⟨0, [], Nat.zero_le _, rfl, rfl, rfl, Lib.hid rfl⟩
      case round =>
        obtain ⟨j, q, hj, rfl, rfl, hql, hq⟩ := hrel
        by_cases hjl : j < s.size
        · by_cases hc : s[j] = 32
          · have hd : ((s[j].toNat : Int) == 32) = true := by rw [hc]; rfl
            have HC := Lib.hid hc; clear hc
            have s1 : q.length + 1 ≤ 9223372036854775807 := by omega
            go_wp2
            go_round
            case rel => exact ⟨j + 1, q ++ [95], by omega, by go_num, by rw [cat_one], by simp; omega, Lib.hid (by rw [lines_snoc s j hjl, HC.out, hq.out]; rfl)⟩
            case measure => simp [intOf]; omega
          · have hd : ((s[j].toNat : Int) == 32) = false := u8_ne hc
            have HC := Lib.hid hc; clear hc
            have s1 : q.length + 1 ≤ 9223372036854775807 := by omega
            have hj1 : (j : Int) + 1 ≤ (s.size : Int) := by omega
            have hj2 : j + 1 ≤ s.size := by omega
            have hj3 : (s.extract j (j + 1)).size = 1 := by simp; omega
            have HE := Lib.hid (extract_one s j hjl)
            go_wp2
            go_round
            case rel => exact ⟨j + 1, q ++ [s[j]], by omega, by go_num, by rw [HE.out, cat_one], by simp; omega, Lib.hid (by rw [lines_snoc s j hjl, if_neg HC.out, hq.out])⟩
            case measure => simp [intOf]; omega
        · have hQ : parse q = parse s.data.toList := by
            have h1 := hq.out
            rw [List.take_of_length_le (by simp; omega)] at h1
            rw [h1]; exact parse_sq (squeeze_lines _)
          have HQ := Lib.hid hQ; clear hQ hq
          have hpl := parse_len s.data.toList
          obtain ⟨k1, nm, er, hp⟩ : ∃ k1 nm er, parse s.data.toList = ((k1, nm), er) := ⟨_, _, _, rfl⟩
          have hpr : parse r = ((k1, nm), er) := by rw [HR.out, hp]
          have hpq : parse q = ((k1, nm), er) := by rw [HQ.out, hp]
          have HP := Lib.hid hp; have HPR := Lib.hid hpr; have HPQ := Lib.hid hpq; clear hp hpr hpq hpl
          go_wp2_with fail
          refine (Parse_any _ _ (by omega) ht).mono ?_
          rintro e w1 ⟨he, hb1⟩
          rw [HP.out] at he
          dsimp only at he
          subst he
          have t1 := ht.below hb1
          have c1 : Below w1.heap.size w1 (w1.alloc (.cells #[.int .i64 (k1 : Int), .string ⟨nm.toArray⟩] 24)) := (Below.refl _ w1).alloc (Nat.le_refl _) _
          have t1' := t1.below c1
          go_wp2_with fail
          refine (Parse_eq HPR.out _ (by omega) t1').mono ?_
          rintro e w2 ⟨rfl, hb2⟩
          have t2 := t1'.below hb2
          have k2 := keep2 (by simpa using hb2)
          obtain ⟨a0, a1, _, _⟩ := k2
          have Z1 := hb1.size
          have Z2 : w1.heap.size + 1 ≤ w2.heap.size := by simpa using hb2.size
          have c2 : Below w2.heap.size w2 (w2.alloc (.cells #[.int .i64 (k1 : Int), .string ⟨nm.toArray⟩] 24)) := (Below.refl _ w2).alloc (Nat.le_refl _) _
          have t2' := t2.below c2
          go_wp2_with fail
          refine (Parse_eq HPQ.out _ (by omega) t2').mono ?_
          rintro e w3 ⟨rfl, hb3⟩
          have t3 := t2'.below hb3
          have k3 := keep2 (by simpa using hb3)
          obtain ⟨b0, b1, _, _⟩ := k3
          have Z3 : w2.heap.size + 1 ≤ w3.heap.size := by simpa using hb3.size
          have d0 : w3.cell? ⟨w1.heap.size, 0, none⟩ = some (.int .i64 (k1 : Int)) := (hb3.cell (p := ⟨w1.heap.size, 0, none⟩) (by show w1.heap.size < _; simp; omega)).trans (Rf.oldCell _ a0)
          have d1 : w3.cell? ⟨w1.heap.size, 1, none⟩ = some (.string ⟨nm.toArray⟩) := (hb3.cell (p := ⟨w1.heap.size, 1, none⟩) (by show w1.heap.size < _; simp; omega)).trans (Rf.oldCell _ a1)
          have z3 : w1.heap.size < w3.heap.size := by omega
          have z3' : w2.heap.size < w3.heap.size := by omega
          have c3 : Below w3.heap.size w3 (w3.alloc (.cells #[.int .i64 (k1 : Int), .string ⟨nm.toArray⟩] 24)) := (Below.refl _ w3).alloc (Nat.le_refl _) _
          have t3' := t3.below c3
          have B3 : Below w.heap.size w (w3.alloc (.cells #[.int .i64 (k1 : Int), .string ⟨nm.toArray⟩] 24)) := ((((hb1.trans (c1.mono hb1.size)).trans (hb2.mono (by simp; omega))).trans (c2.mono (by omega))).trans (hb3.mono (by simp; omega))).trans (c3.mono (by omega))
          clear a0 a1
          go_wp2_with fail
          refine (known_any _ t3').mono ?_
          rintro e w4 ⟨rfl, hb4⟩
          go_wp2
          go_ret
          exact ⟨rfl, B3.trans (hb4.mono (by simp; omega))⟩
end Go.Proofs.YtaapdhpfjiaeaaaDoor.Ti
