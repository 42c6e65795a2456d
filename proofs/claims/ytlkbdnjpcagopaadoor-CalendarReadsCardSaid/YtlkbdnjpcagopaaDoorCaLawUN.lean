/-
  The laws CalendarUnit, CalendarNests, CalendarInverse and CalendarReads return true for all arguments, in every world that holds the listed tables.
-/
import Derived.Test.YtlkbdnjpcagopaaDoorCaKnown
namespace Go.Proofs.YtlkbdnjpcagopaaDoor.Ca
open Go.RowKit
set_option linter.unusedVariables false

theorem i64_and26 (n : Int) : bits .and .i64 n 67108863 = n % 67108864 := by
  have h7 : (BitVec.ofInt 64 67108863).toNat = 2 ^ 26 - 1 := by decide
  have key : (BitVec.ofInt 64 n &&& BitVec.ofInt 64 67108863).toNat = (n % ((2 ^ 64 : Nat) : Int)).toNat % 2 ^ 26 := by
    rw [BitVec.toNat_and, BitVec.toNat_ofInt, h7, Nat.and_two_pow_sub_one_eq_mod]
  show IntKind.i64.wrap ((BitVec.ofInt 64 n &&& BitVec.ofInt 64 67108863).toNat : Nat) = n % 67108864
  rw [key, IntKind.wrap_i64]
  omega
theorem i64_and3 (n : Int) : bits .and .i64 n 3 = n % 4 := by
  have h7 : (BitVec.ofInt 64 3).toNat = 2 ^ 2 - 1 := by decide
  have key : (BitVec.ofInt 64 n &&& BitVec.ofInt 64 3).toNat = (n % ((2 ^ 64 : Nat) : Int)).toNat % 2 ^ 2 := by
    rw [BitVec.toNat_and, BitVec.toNat_ofInt, h7, Nat.and_two_pow_sub_one_eq_mod]
  show IntKind.i64.wrap ((BitVec.ofInt 64 n &&& BitVec.ofInt 64 3).toNat : Nat) = n % 4
  rw [key, IntKind.wrap_i64]
  omega
/-- The instant that the laws make of any number. -/
structure Pick (n A y m d c : Int) : Prop where
  a : bits .and .i64 n 67108863 = A
  a0 : 0 ≤ A
  a1 : A < 67108864
  ok : Ok y m d
  c1 : 0 ≤ c
  c2 : c < 1440
  n : inst y m d c = A % 52596000
theorem pick (n : Int) : ∃ A y m d c, Pick n A y m d c := by
  obtain ⟨y, m, d, c, hk, c1, c2, h⟩ := inst_is (n := n % 67108864 % 52596000) (by omega) (by omega)
  exact ⟨n % 67108864, y, m, d, c, i64_and26 n, by omega, by omega, hk, c1, c2, h.symm⟩

set_option maxRecDepth 100000 in
set_option maxHeartbeats 2000000 in
theorem CalendarUnit_any (s : ByteArray) (n : Int) (w : World) (hs : s.size ≤ maxLen) (ht : Tb w) : Calls Tryd.prog 11 #[.string s, .int .i64 n] w fun e w' => e = .returned (.bool true) ∧ Below w.heap.size w w' := by
  unfold maxLen at hs
  by_cases hl : 400 < s.size
  · have hl2 : (400 : Int) < (s.size : Int) := by omega
    have HK := Lib.hid (fun w ht => known_any w ht)
    clear hl
    go_enter Tryd.func11, Tryd.ntmps11
    go_wp2_with fail
    (with_reducible refine (HK.out _ ht).mono ?_)
    rintro e w1 ⟨rfl, hb⟩
    go_wp2
    go_ret
    exact ⟨rfl, hb⟩
  · have hl2 : (s.size : Int) ≤ 400 := by omega
    obtain ⟨A, y, m, d, c, P⟩ := pick n
    have hu := unit_bd s.data.toList
    have HU := Lib.hid (fun w => Unit_any s w (by omega))
    have HS := Lib.hid (fun w ht => Start_yes P.ok P.c1 P.c2 hu w ht)
    have HF := Lib.hid (fun w ht => Format_yes P.ok P.c1 P.c2 s w (by omega) ht)
    have hsc := start_clock (unit s.data.toList) P.c1 P.c2
    have HG := Lib.hid (fun w ht => Format_yes (start_ok (unit s.data.toList) P.ok) hsc.1 hsc.2 s w (by omega) ht)
    rw [fmt_start] at HG
    obtain ⟨S, hS⟩ : ∃ S : ByteArray, ⟨(fmt y m d c s.data.toList).toArray⟩ = S := ⟨_, rfl⟩
    rw [hS] at HF HG
    obtain ⟨u, hu2⟩ : ∃ u, unit s.data.toList = u := ⟨_, rfl⟩
    rw [hu2] at HU HS HG
    obtain ⟨K, hK⟩ : ∃ K, inst y (sm u m) (sd u d) (sc u c) = K := ⟨_, rfl⟩
    rw [hK] at HS HG
    rw [P.n] at HS HF
    have ha := P.a
    have a0 := P.a0
    have a1 := P.a1
    clear hS hu2 hK hsc hu hl P
    go_enter Tryd.func11, Tryd.ntmps11
    go_wp2_with fail
    (with_reducible refine (HU.out _).mono ?_)
    rintro e w1 ⟨rfl, hb1⟩
    have HB1 := Lib.hid hb1
    clear hb1 ha
    go_wp2_with fail
    (with_reducible refine (HS.out _ (ht.below HB1.out)).mono ?_)
    rintro e w2 ⟨rfl, hb2⟩
    have HB2 := Lib.hid (HB1.out.trans (hb2.mono HB1.out.size))
    clear hb2
    go_wp2_with fail
    (with_reducible refine (HF.out _ (ht.below HB2.out)).mono ?_)
    rintro e w3 ⟨rfl, hb3⟩
    have HB3 := Lib.hid (HB2.out.trans (hb3.mono HB2.out.size))
    clear hb3
    go_wp2_with fail
    (with_reducible refine (HG.out _ (ht.below HB3.out)).mono ?_)
    rintro e w4 ⟨rfl, hb4⟩
    have HB4 := Lib.hid (HB3.out.trans (hb4.mono HB3.out.size))
    clear hb4
    go_wp2_with fail
    refine (known_any _ (ht.below HB4.out)).mono ?_
    rintro e w5 ⟨rfl, hb5⟩
    have HB5 := Lib.hid (HB4.out.trans (hb5.mono HB4.out.size))
    clear hb5
    go_wp2
    go_ret
    exact ⟨rfl, HB5.out⟩
/-- What CalendarNests asks of a unit and the next coarser one. -/
theorem nests {y m d c u : Int} (hk : Ok y m d) (c1 : 0 ≤ c) (c2 : c < 1440) (h1 : 1 ≤ u) (h2 : u ≤ 4) :
    (inst y (sm u m) (sd u d) (sc u c) ≤ inst y m d c ∧ inst y (sm (u + 1) m) (sd (u + 1) d) (sc (u + 1) c) ≤ inst y (sm u m) (sd u d) (sc u c)) ∧
    (sm u (sm u m) = sm u m ∧ sd u (sd u d) = sd u d ∧ sc u (sc u c) = sc u c) ∧ (sm (u + 1) (sm u m) = sm (u + 1) m ∧ sd (u + 1) (sd u d) = sd (u + 1) d ∧ sc (u + 1) (sc u c) = sc (u + 1) c) := by
  have hd := hk.d1
  have hy := hk.in_year
  have hc1 := cum_one y
  have hm := hk.m1
  have hcb := cum_bd y hk.m1 (by have := hk.m2; omega)
  have hu : u = 1 ∨ u = 2 ∨ u = 3 ∨ u = 4 := by omega
  clear hk
  have i5 : inst y 1 1 0 = (dby y) * 1440 := by unfold inst dn; rw [hc1]; omega
  have ie : ∀ d c, inst y m d c = (dby y + cum y m + d - 1) * 1440 + c := fun d c => rfl
  have i0 := ie d c
  have i1 := ie d (c - c % 60)
  have i2 := ie d 0
  have i3 := ie 1 0
  clear ie
  rcases hu with rfl | rfl | rfl | rfl
  · show (inst y m d c ≤ inst y m d c ∧ inst y m d (c - c % 60) ≤ inst y m d c) ∧ (m = m ∧ d = d ∧ c = c) ∧ (m = m ∧ d = d ∧ (c - c % 60) = (c - c % 60))
    clear hy
    generalize cum y m = C at *
    generalize dby y = B at *
    refine ⟨⟨?_, ?_⟩, ⟨?_, ?_, ?_⟩, ?_, ?_, ?_⟩ <;> omega
  · show (inst y m d (c - c % 60) ≤ inst y m d c ∧ inst y m d 0 ≤ inst y m d (c - c % 60)) ∧ (m = m ∧ d = d ∧ (c - c % 60 - (c - c % 60) % 60) = (c - c % 60)) ∧ (m = m ∧ d = d ∧ 0 = 0)
    clear hy
    generalize cum y m = C at *
    generalize dby y = B at *
    refine ⟨⟨?_, ?_⟩, ⟨?_, ?_, ?_⟩, ?_, ?_, ?_⟩ <;> omega
  · show (inst y m d 0 ≤ inst y m d c ∧ inst y m 1 0 ≤ inst y m d 0) ∧ (m = m ∧ d = d ∧ 0 = 0) ∧ (m = m ∧ 1 = 1 ∧ 0 = 0)
    clear hy
    generalize cum y m = C at *
    generalize dby y = B at *
    refine ⟨⟨?_, ?_⟩, ⟨?_, ?_, ?_⟩, ?_, ?_, ?_⟩ <;> omega
  · show (inst y m 1 0 ≤ inst y m d c ∧ inst y 1 1 0 ≤ inst y m 1 0) ∧ (m = m ∧ 1 = 1 ∧ 0 = 0) ∧ (1 = 1 ∧ 1 = 1 ∧ 0 = 0)
    clear hy
    generalize cum y m = C at *
    generalize dby y = B at *
    refine ⟨⟨?_, ?_⟩, ⟨?_, ?_, ?_⟩, ?_, ?_, ?_⟩ <;> omega
set_option maxRecDepth 100000 in
set_option maxHeartbeats 2000000 in
theorem CalendarNests_any (n v : Int) (w : World) (ht : Tb w) : Calls Tryd.prog 6 #[.int .i64 n, .int .i64 v] w fun e w' => e = .returned (.bool true) ∧ Below w.heap.size w w' := by
  obtain ⟨A, y, m, d, c, P⟩ := pick n
  have hv := i64_and3 v
  obtain ⟨q, hq⟩ : ∃ q, v % 4 = q := ⟨_, rfl⟩
  have hq0 : 0 ≤ q := by omega
  have hq1 : q ≤ 3 := by omega
  rw [hq] at hv
  obtain ⟨⟨x1, x2⟩, ⟨x3, x4, x5⟩, x6, x7, x8⟩ := nests (u := 1 + q) P.ok P.c1 P.c2 (by omega) (by omega)
  have hsc := start_clock (1 + q) P.c1 P.c2
  have H1 := Lib.hid (fun w ht => Start_yes (u := 1 + q) P.ok P.c1 P.c2 (by omega) w ht)
  have H2 := Lib.hid (fun w ht => Start_yes (u := 1 + q) (start_ok (1 + q) P.ok) hsc.1 hsc.2 (by omega) w ht)
  have H3 := Lib.hid (fun w ht => Start_yes (u := 1 + q + 1) P.ok P.c1 P.c2 (by omega) w ht)
  have H4 := Lib.hid (fun w ht => Start_yes (u := 1 + q + 1) (start_ok (1 + q) P.ok) hsc.1 hsc.2 (by omega) w ht)
  rw [x3, x4, x5] at H2
  rw [x6, x7, x8] at H4
  obtain ⟨K, hK⟩ : ∃ K, inst y (sm (1 + q) m) (sd (1 + q) d) (sc (1 + q) c) = K := ⟨_, rfl⟩
  obtain ⟨L, hL⟩ : ∃ L, inst y (sm (1 + q + 1) m) (sd (1 + q + 1) d) (sc (1 + q + 1) c) = L := ⟨_, rfl⟩
  rw [hK] at H1 H2 H4 x1 x2
  rw [hL] at H3 H4 x2
  rw [P.n] at H1 H3 x1
  have ha := P.a
  have a0 := P.a0
  have a1 := P.a1
  clear hK hL hsc P x3 x4 x5 x6 x7 x8 hq
  go_enter Tryd.func6, Tryd.ntmps6
  go_wp2_with fail
  (with_reducible refine (H1.out _ ht).mono ?_)
  rintro e w1 ⟨rfl, hb1⟩
  have HB1 := Lib.hid hb1
  clear hb1 ha hv
  go_wp2_with fail
  (with_reducible refine (H2.out _ (ht.below HB1.out)).mono ?_)
  rintro e w2 ⟨rfl, hb2⟩
  have HB2 := Lib.hid (HB1.out.trans (hb2.mono HB1.out.size))
  clear hb2
  go_wp2_with fail
  (with_reducible refine (H3.out _ (ht.below HB2.out)).mono ?_)
  rintro e w3 ⟨rfl, hb3⟩
  have HB3 := Lib.hid (HB2.out.trans (hb3.mono HB2.out.size))
  clear hb3
  go_wp2_with fail
  (with_reducible refine (H4.out _ (ht.below HB3.out)).mono ?_)
  rintro e w4 ⟨rfl, hb4⟩
  have HB4 := Lib.hid (HB3.out.trans (hb4.mono HB3.out.size))
  clear hb4
  go_wp2_with fail
  refine (known_any _ (ht.below HB4.out)).mono ?_
  rintro e w5 ⟨rfl, hb5⟩
  have HB5 := Lib.hid (HB4.out.trans (hb5.mono HB4.out.size))
  clear hb5
  go_wp2
  go_ret
  exact ⟨rfl, HB5.out⟩
end Go.Proofs.YtlkbdnjpcagopaaDoor.Ca
