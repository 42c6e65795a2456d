/-
  The law CalendarInverse returns true for all numbers, in every world that holds the listed tables.
-/
import Derived.Test.YtlkbdnjpcagopaaDoorCaLawUN
namespace Go.Proofs.YtlkbdnjpcagopaaDoor.Ca
open Go.RowKit
set_option linter.unusedVariables false

theorem bl0 {w w1 w2 : World} (h : Below w.heap.size w w1) (hb : Below w1.heap.size w1 w2) : Below w.heap.size w w2 := h.trans (hb.mono h.size)
theorem bl1 {w w1 w2 : World} {A : Obj} (h : Below w.heap.size w w1) (hb : Below (w1.alloc A).heap.size (w1.alloc A) w2) : Below w.heap.size w w2 :=
  (h.alloc h.size A).trans (hb.mono (h.alloc h.size A).size)
theorem wd_next {D : Int} (h : 0 ≤ D) : wd (D + 1) = wd D % 7 + 1 ∧ 1 ≤ wd D ∧ wd D ≤ 7 := by unfold wd; omega
set_option maxRecDepth 100000 in
set_option maxHeartbeats 2000000 in
theorem CalendarInverse_any (n : Int) (w : World) (ht : Tb w) : Calls Tryd.prog 4 #[.int .i64 n] w fun e w' => e = .returned (.bool true) ∧ Below w.heap.size w w' := by
  obtain ⟨A, y, m, d, c, P⟩ := pick n
  have H1 := Lib.hid (fun w ht => DateOf_yes P.ok P.c1 P.c2 w ht)
  have H2 := Lib.hid (fun w ht => Minute_any y m d c w ht)
  rw [minu_ok P.ok P.c1 P.c2] at H2
  have H3 := Lib.hid (fun w ht => Weekday_yes P.ok P.c1 P.c2 w ht)
  have hdn := (inst_range P.ok P.c1 P.c2).2.2.1
  have hr := P.ok.range
  rw [P.n] at H1 H2 H3 hdn
  obtain ⟨D, hD⟩ : ∃ D, dn y m d = D := ⟨_, rfl⟩
  rw [hD] at H3 hdn hr
  obtain ⟨x1, x2, x3⟩ := wd_next hr.1
  have ha := P.a
  have a0 := P.a0
  have a1 := P.a1
  by_cases hb : 52596000 ≤ A % 52596000 + 1440
  · have H4 := Lib.hid (fun w => Weekday_no (n := A % 52596000 + 1440) (by omega) w)
    clear P hD x1 hdn
    go_enter Tryd.func4, Tryd.ntmps4
    go_wp2_with fail
    (with_reducible refine (H1.out _ ht).mono ?_)
    rintro e w1 ⟨rfl, hb1⟩
    have HB1 := Lib.hid hb1
    clear hb1 ha
    go_wp2_with fail
    (with_reducible refine (H2.out _ (ht.below (HB1.out.alloc HB1.out.size _))).mono ?_)
    rintro e w2 ⟨rfl, hb2⟩
    have HB2 := Lib.hid (bl1 HB1.out hb2)
    clear hb2
    go_wp2_with fail
    (with_reducible refine (H3.out _ (ht.below HB2.out)).mono ?_)
    rintro e w3 ⟨rfl, hb3⟩
    have HB3 := Lib.hid (bl0 HB2.out hb3)
    clear hb3
    go_wp2_with fail
    (with_reducible refine (H4.out _).mono ?_)
    rintro e w4 ⟨rfl, hb4⟩
    have HB4 := Lib.hid (bl0 HB3.out hb4)
    clear hb4
    go_wp2_with fail
    (with_reducible refine (known_any _ (ht.below HB4.out)).mono ?_)
    rintro e w5 ⟨rfl, hb5⟩
    have HB5 := Lib.hid (bl0 HB4.out hb5)
    clear hb5
    go_wp2
    go_ret
    exact ⟨rfl, HB5.out⟩
  · obtain ⟨y', m', d', c', hk', k1, k2, hi⟩ := inst_is (n := A % 52596000 + 1440) (by omega) (by omega)
    have H4 := Lib.hid (fun w ht => Weekday_yes hk' k1 k2 w ht)
    have hdn' := (inst_range hk' k1 k2).2.2.1
    rw [← hi] at H4 hdn'
    have hD' : dn y' m' d' = D + 1 := by rw [← hdn', ← hdn]; omega
    rw [hD', x1] at H4
    obtain ⟨v, hv⟩ : ∃ v, wd D = v := ⟨_, rfl⟩
    rw [hv] at H3 H4 x2 x3
    clear P hD x1 hdn hdn' hD' hi hk' k1 k2 hv
    go_enter Tryd.func4, Tryd.ntmps4
    go_wp2_with fail
    (with_reducible refine (H1.out _ ht).mono ?_)
    rintro e w1 ⟨rfl, hb1⟩
    have HB1 := Lib.hid hb1
    clear hb1 ha
    go_wp2_with fail
    (with_reducible refine (H2.out _ (ht.below (HB1.out.alloc HB1.out.size _))).mono ?_)
    rintro e w2 ⟨rfl, hb2⟩
    have HB2 := Lib.hid (bl1 HB1.out hb2)
    clear hb2
    go_wp2_with fail
    (with_reducible refine (H3.out _ (ht.below HB2.out)).mono ?_)
    rintro e w3 ⟨rfl, hb3⟩
    have HB3 := Lib.hid (bl0 HB2.out hb3)
    clear hb3
    go_wp2_with fail
    (with_reducible refine (H4.out _ (ht.below HB3.out)).mono ?_)
    rintro e w4 ⟨rfl, hb4⟩
    have HB4 := Lib.hid (bl0 HB3.out hb4)
    clear hb4
    go_wp2_with fail
    (with_reducible refine (known_any _ (ht.below HB4.out)).mono ?_)
    rintro e w5 ⟨rfl, hb5⟩
    have HB5 := Lib.hid (bl0 HB4.out hb5)
    clear hb5
    go_wp2
    go_ret
    exact ⟨rfl, HB5.out⟩
end Go.Proofs.YtlkbdnjpcagopaaDoor.Ca
