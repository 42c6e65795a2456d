/-
  The law CalendarMonths returns true for all numbers, in every world that holds the listed tables.
-/
import Derived.Test.YtlkbdnjpcagopaaDoorCaLawIN
import Derived.Test.YtlkbdnjpcagopaaDoorCaLawDA
namespace Go.Proofs.YtlkbdnjpcagopaaDoor.Ca
open Go.RowKit
set_option linter.unusedVariables false
set_option linter.unusedSimpArgs false

/-- The day behind the last one of a month is the first one of a month, or no instant. -/
theorem next_day {z j c : Int} (h1 : 2000 ≤ z) (h2 : z ≤ 2099) (j1 : 1 ≤ j) (j2 : j ≤ 12) (c1 : 0 ≤ c) (c2 : c < 1440) :
    (∃ z' j', Ok z' j' 1 ∧ inst z' j' 1 c = inst z j (ml z j) c + 1440) ∨ ¬ (0 ≤ inst z j (ml z j) c + 1440 ∧ inst z j (ml z j) c + 1440 < 52596000) := by
  have hs := cum_succ z j1 j2
  have hm := ml_ge z j
  by_cases h12 : j < 12
  · left
    have g := ml_ge z (j + 1)
    refine ⟨z, j + 1, ⟨h1, h2, by omega, by omega, by omega, by omega⟩, ?_⟩
    unfold inst dn; rw [hs]; omega
  · have hj : j = 12 := by omega
    subst hj
    have he := cum_end z
    rw [show (12 : Int) + 1 = 13 from rfl, he] at hs
    have hd := dby_succ z
    by_cases hz : z < 2099
    · left
      have g := ml_ge (z + 1) 1
      refine ⟨z + 1, 1, ⟨by omega, by omega, by omega, by omega, by omega, by omega⟩, ?_⟩
      unfold inst dn; rw [cum_one, hd]; omega
    · right
      have hz2 : z = 2099 := by omega
      subst hz2
      have e : dby (2099 + 1) = 36525 := dby_end
      unfold inst dn
      omega
theorem next_c {z j c : Int} (h : Ok z j 1) : True := trivial
set_option maxRecDepth 100000 in
set_option maxHeartbeats 4000000 in
theorem CalendarMonths_any (n k0 : Int) (w : World) (ht : Tb w) : Calls Tryd.prog 8 #[.int .i64 n, .int .i64 k0] w fun e w' => e = .returned (.bool true) ∧ Below w.heap.size w w' := by
  obtain ⟨A, y, m, d, c, P⟩ := pick n
  obtain ⟨k, hk0⟩ : ∃ k, k0.tmod 300 = k := ⟨_, rfl⟩
  have hkb : -299 ≤ k ∧ k ≤ 299 := by
    have h := Int.natAbs_tmod k0 300
    have := Nat.mod_lt k0.natAbs (show 0 < (300 : Int).natAbs by decide)
    rw [hk0] at h
    rw [← h] at this
    have e : (300 : Int).natAbs = 300 := rfl
    rw [e] at this
    omega
  obtain ⟨kb1, kb2⟩ := hkb
  have hkw : IntKind.i64.wrap k = k := IntWalk.i64_in _ (by omega)
  have H1 := Lib.hid (fun w ht => Add_yes (u := 4) (k := k) P.ok P.c1 P.c2 (by omega) w ht)
  have hU : addU y m d c 4 k = addM y m d c k := by unfold addU; rw [if_neg (by omega), if_pos rfl]
  rw [hU] at H1
  have ha := P.a
  have a0 := P.a0
  have a1 := P.a1
  have y1 := P.ok.y1
  have y2 := P.ok.y2
  have m1 := P.ok.m1
  have m2 := P.ok.m2
  have d1 := P.ok.d1
  have d2 := P.ok.d2
  have hml := ml_ge y m
  by_cases hM : 0 ≤ (y - 2000) * 12 + m - 1 + k ∧ (y - 2000) * 12 + m - 1 + k < 1200
  · obtain ⟨M, hMe⟩ : ∃ M, (y - 2000) * 12 + m - 1 + k = M := ⟨_, rfl⟩
    obtain ⟨z, hz⟩ : ∃ z, 2000 + M / 12 = z := ⟨_, rfl⟩
    obtain ⟨j, hj⟩ : ∃ j, M % 12 + 1 = j := ⟨_, rfl⟩
    have hz1 : 2000 ≤ z := by omega
    have hz2 : z ≤ 2099 := by omega
    have hj1 : 1 ≤ j := by omega
    have hj2 : j ≤ 12 := by omega
    have hml2 := ml_ge z j
    have hkk : (z - y) * 12 + j - m = k := by omega
    have hA : addM y m d c k = ⟨inst z j (min d (ml z j)) c, 0⟩ := by unfold addM; rw [hMe, hz, hj, if_pos (by omega)]
    rw [hA] at H1
    have H2 := Lib.hid (fun w ht => DateOf_yes P.ok P.c1 P.c2 w ht)
    by_cases hle : d ≤ ml z j
    · have em : min d (ml z j) = d := by omega
      rw [em] at H1
      have H3 := Lib.hid (fun w ht => DateOf_yes (y := z) (m := j) (d := d) (c := c) ⟨hz1, hz2, hj1, hj2, d1, hle⟩ P.c1 P.c2 w ht)
      obtain ⟨I, hI⟩ : ∃ I, inst z j d c = I := ⟨_, rfl⟩
      rw [hI] at H1 H3
      rw [P.n] at H1 H2
      clear P hA hU em hI hMe hz hj hM hml hml2
      go_enter Tryd.func8, Tryd.ntmps8
      go_wp2_with fail
      (with_reducible refine (H1.out _ ht).mono ?_)
      rintro e1 w1 ⟨rfl, hb1⟩
      have HB1 := Lib.hid hb1
      clear hb1 ha hk0 hkw
      go_wp2_with fail
      (with_reducible refine (H2.out _ (ht.below HB1.out)).mono ?_)
      rintro e2 w2 ⟨rfl, hb2⟩
      have HB2 := Lib.hid (HB1.out.trans (hb2.mono HB1.out.size))
      have X2 := Nm3.new w2 y m d
      have HX := Lib.hid (HB2.out.alloc HB2.out.size (.cells #[.int .i64 y, .int .i64 m, .int .i64 d] 23))
      clear hb2
      go_wp2_with fail
      (with_reducible refine (H3.out _ (ht.below HX.out)).mono ?_)
      rintro e3 w3 ⟨rfl, hb3⟩
      have HB3 := Lib.hid (HX.out.trans (hb3.mono HX.out.size))
      have X3 := (X2.below hb3).alloc (.cells #[.int .i64 z, .int .i64 j, .int .i64 d] 23)
      have Y3 := Nm3.new w3 z j d
      have HY := Lib.hid (HB3.out.alloc HB3.out.size (.cells #[.int .i64 z, .int .i64 j, .int .i64 d] 23))
      clear hb3 X2
      have q0 := X3.c0; have q1 := X3.c1; have q2 := X3.c2
      have r0 := Y3.c0; have r1 := Y3.c1; have r2 := Y3.c2
      go_wp2_with fail
      (with_reducible refine (known_any _ (ht.below HY.out)).mono ?_)
      rintro e4 w4 ⟨rfl, hb4⟩
      have HB4 := Lib.hid (HY.out.trans (hb4.mono HY.out.size))
      clear hb4
      go_wp2
      go_ret
      exact ⟨rfl, HB4.out⟩
    · have em : min d (ml z j) = ml z j := by omega
      rw [em] at H1
      have H3 := Lib.hid (fun w ht => DateOf_yes (y := z) (m := j) (d := ml z j) (c := c) ⟨hz1, hz2, hj1, hj2, by omega, by omega⟩ P.c1 P.c2 w ht)
      have hnx := next_day (c := c) hz1 hz2 hj1 hj2 P.c1 P.c2
      obtain ⟨I, hI⟩ : ∃ I, inst z j (ml z j) c = I := ⟨_, rfl⟩
      have hir := inst_range (y := z) (m := j) (d := ml z j) (c := c) ⟨hz1, hz2, hj1, hj2, by omega, by omega⟩ P.c1 P.c2
      obtain ⟨ir1, ir2, _, _⟩ := hir
      rw [hI] at H1 H3 hnx ir1 ir2
      rw [P.n] at H1 H2
      have HN : ∃ a b g : Int, (∀ w, Tb w → Calls Tryd.prog 15 #[.int .i64 (I + 1440)] w fun e' w' => e' = .returned (.tuple #[.agg #[.int .i64 a, .int .i64 b, .int .i64 (if g = 0 then 1 else 0)], .int .i64 (if g = 0 then c else 0), .int .i64 g]) ∧ Below w.heap.size w w') ∧ (g = 0 ∨ g = 2) := by
        rcases hnx with ⟨z', j', hk', hi'⟩ | hno
        · exact ⟨z', j', 0, fun w ht => by rw [← hi']; exact DateOf_yes hk' P.c1 P.c2 w ht, .inl rfl⟩
        · exact ⟨0, 0, 2, fun w ht => DateOf_no hno w, .inr rfl⟩
      obtain ⟨a, b, g, hN, hg⟩ := HN
      have H4 := Lib.hid hN
      obtain ⟨dd, hdd⟩ : ∃ dd, ml z j = dd := ⟨_, rfl⟩
      rw [hdd] at H3 hle hml2
      have hdl : dd < d := by omega
      clear P hA hU em hI hMe hz hj hM hml hN hnx hle hdd hml2
      rcases hg with rfl | rfl
      all_goals
        simp only [Int.reduceEq, if_true, if_false] at H4
        go_enter Tryd.func8, Tryd.ntmps8
        go_wp2_with fail
        (with_reducible refine (H1.out _ ht).mono ?_)
        rintro e1 w1 ⟨rfl, hb1⟩
        have HB1 := Lib.hid hb1
        clear hb1 ha hk0 hkw
        go_wp2_with fail
        (with_reducible refine (H2.out _ (ht.below HB1.out)).mono ?_)
        rintro e2 w2 ⟨rfl, hb2⟩
        have HB2 := Lib.hid (HB1.out.trans (hb2.mono HB1.out.size))
        have X2 := Nm3.new w2 y m d
        have HX := Lib.hid (HB2.out.alloc HB2.out.size (.cells #[.int .i64 y, .int .i64 m, .int .i64 d] 23))
        clear hb2
        go_wp2_with fail
        (with_reducible refine (H3.out _ (ht.below HX.out)).mono ?_)
        rintro e3 w3 ⟨rfl, hb3⟩
        have HB3 := Lib.hid (HX.out.trans (hb3.mono HX.out.size))
        have X3 := (X2.below hb3).alloc (.cells #[.int .i64 z, .int .i64 j, .int .i64 dd] 23)
        have Y3 := Nm3.new w3 z j dd
        have HY := Lib.hid (HB3.out.alloc HB3.out.size (.cells #[.int .i64 z, .int .i64 j, .int .i64 dd] 23))
        clear hb3 X2
        have q0 := X3.c0; have q1 := X3.c1; have q2 := X3.c2
        have r0 := Y3.c0; have r1 := Y3.c1; have r2 := Y3.c2
        go_wp2_with fail
        (with_reducible refine (H4.out _ (ht.below HY.out)).mono ?_)
        rintro e4 w4 ⟨rfl, hb4⟩
        have HB4 := Lib.hid (HY.out.trans (hb4.mono HY.out.size))
        clear hb4 q0 q1 q2 r0 r1 r2
        first
          | (have HZ := Lib.hid (HB4.out.alloc HB4.out.size (.cells #[.int .i64 a, .int .i64 b, .int .i64 1] 23))
             go_wp2_with fail
             (with_reducible refine (known_any _ (ht.below HZ.out)).mono ?_)
             rintro e5 w5 ⟨rfl, hb5⟩
             have HB5 := Lib.hid (HZ.out.trans (hb5.mono HZ.out.size))
             clear hb5
             go_wp2
             go_ret
             exact ⟨rfl, HB5.out⟩)
          | (have HZ := Lib.hid (HB4.out.alloc HB4.out.size (.cells #[.int .i64 a, .int .i64 b, .int .i64 0] 23))
             go_wp2_with fail
             (with_reducible refine (known_any _ (ht.below HZ.out)).mono ?_)
             rintro e5 w5 ⟨rfl, hb5⟩
             have HB5 := Lib.hid (HZ.out.trans (hb5.mono HZ.out.size))
             clear hb5
             go_wp2
             go_ret
             exact ⟨rfl, HB5.out⟩)
  · have hA : addM y m d c k = ⟨0, 15⟩ := by unfold addM; rw [if_neg hM]
    rw [hA, P.n] at H1
    clear P hA hU hM hml
    go_enter Tryd.func8, Tryd.ntmps8
    go_wp2_with fail
    (with_reducible refine (H1.out _ ht).mono ?_)
    rintro e1 w1 ⟨rfl, hb1⟩
    have HB1 := Lib.hid hb1
    clear hb1 ha hk0 hkw
    go_wp2_with fail
    (with_reducible refine (known_any _ (ht.below HB1.out)).mono ?_)
    rintro e4 w4 ⟨rfl, hb4⟩
    have HB4 := Lib.hid (HB1.out.trans (hb4.mono HB1.out.size))
    clear hb4
    go_wp2
    go_ret
    exact ⟨rfl, HB4.out⟩
end Go.Proofs.YtlkbdnjpcagopaaDoor.Ca
