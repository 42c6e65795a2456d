/-
  The law CalendarDates returns true for all arguments, in every world that holds the listed tables.
-/
import Derived.Test.YtlkbdnjpcagopaaDoorCaKnown
import Derived.Test.YtlkbdnjpcagopaaDoorCaRDate
import Derived.Laws.StructEq
namespace Go.Proofs.YtlkbdnjpcagopaaDoor.Ca
open Go.RowKit
set_option linter.unusedVariables false
set_option linter.unusedSimpArgs false

theorem date_eq (a b c : Int) (w : World) : (binOp .eql 23 (.agg #[.int .i64 a, .int .i64 b, .int .i64 c]) (.agg #[.int .i64 a, .int .i64 b, .int .i64 c])).run Tryd.prog w = .ok (.bool true) w := by
  have h : (Op.equalIn 10000 23 (.agg #[.int .i64 a, .int .i64 b, .int .i64 c]) (.agg #[.int .i64 a, .int .i64 b, .int .i64 c])).run Tryd.prog w = .ok true w := by
    rw [show (10000 : Nat) = 9998 + 1 + 1 from rfl, run_equalIn_agg _ _ _ _ _ (by kernel_rfl) (by kernel_rfl)]
    go_simp
  rw [run_eql_struct, h]
  simp
/-- Block b holds a date. -/
structure Nm3 (W : World) (b : Nat) (p q r : Int) : Prop where
  lt : b < W.heap.size
  c0 : W.cell? ⟨b, 0, none⟩ = some (.int .i64 p)
  c1 : W.cell? ⟨b, 1, none⟩ = some (.int .i64 q)
  c2 : W.cell? ⟨b, 2, none⟩ = some (.int .i64 r)
theorem Nm3.new (W : World) (p q r : Int) : Nm3 (W.alloc (.cells #[.int .i64 p, .int .i64 q, .int .i64 r] 23)) W.heap.size p q r := ⟨by simp, by simp, by simp, by simp⟩
theorem Nm3.below {W W' : World} {b : Nat} {p q r : Int} (h : Nm3 W b p q r) (hb : Below W.heap.size W W') : Nm3 W' b p q r :=
  ⟨by have := hb.size; have := h.lt; omega, (hb.cell (p := ⟨b, 0, none⟩) h.lt).trans h.c0, (hb.cell (p := ⟨b, 1, none⟩) h.lt).trans h.c1, (hb.cell (p := ⟨b, 2, none⟩) h.lt).trans h.c2⟩
theorem Nm3.alloc {W : World} {b : Nat} {p q r : Int} (h : Nm3 W b p q r) (o : Obj) : Nm3 (W.alloc o) b p q r := h.below ((Below.refl _ _).alloc (Nat.le_refl _) o)
/-- What the four functions of a number answer. -/
structure Ans (n p q r c e v f : Int) : Prop where
  d : ∀ w, Tb w → Calls Tryd.prog 15 #[.int .i64 n] w fun e' w' => e' = .returned (.tuple #[.agg #[.int .i64 p, .int .i64 q, .int .i64 r], .int .i64 c, .int .i64 e]) ∧ Below w.heap.size w w'
  rd : ∀ w, Calls Tryd.prog 16 #[.int .i64 n] w fun e' w' => e' = .returned (.tuple #[.agg #[.int .i64 p, .int .i64 q, .int .i64 r], .int .i64 c, .int .i64 e]) ∧ Below w.heap.size w w'
  wk : ∀ w, Tb w → Calls Tryd.prog 17 #[.int .i64 n] w fun e' w' => e' = .returned (.tuple #[.int .i64 v, .int .i64 f]) ∧ Below w.heap.size w w'
  rv : ∀ w, Calls Tryd.prog 18 #[.int .i64 n] w fun e' w' => e' = .returned (.tuple #[.int .i64 v, .int .i64 f]) ∧ Below w.heap.size w w'
theorem ans (n : Int) : ∃ p q r c e v f, Ans n p q r c e v f := by
  by_cases h : 0 ≤ n ∧ n < 52596000
  · obtain ⟨y, m, d, c, hk, c1, c2, rfl⟩ := inst_is h.1 h.2
    refine ⟨y, m, d, c, 0, wd (dn y m d), 0, fun w ht => DateOf_yes hk c1 c2 w ht, fun w => RDateOf_yes hk c1 c2 w, fun w ht => Weekday_yes hk c1 c2 w ht, fun w => ?_⟩
    have := RWeekday_yes h w
    rwa [(inst_range hk c1 c2).2.2.1] at this
  · exact ⟨0, 0, 0, 0, 2, 0, 2, fun w ht => DateOf_no h w, fun w => RDateOf_no h w, fun w ht => Weekday_no h w, fun w => RWeekday_no h w⟩
set_option maxRecDepth 100000 in
set_option maxHeartbeats 4000000 in
theorem CalendarDates_any (y m d clock n : Int) (w : World) (ht : Tb w) : Calls Tryd.prog 3 #[.agg #[.int .i64 y, .int .i64 m, .int .i64 d], .int .i64 clock, .int .i64 n] w fun e w' => e = .returned (.bool true) ∧ Below w.heap.size w w' := by
  obtain ⟨p, q, r, c, e, v, f, A⟩ := ans n
  have HA := Lib.hid A
  clear A
  have H1 := Lib.hid (fun w ht => Minute_any y m d clock w ht)
  have H2 := Lib.hid (fun w => RMinute_any y m d clock w)
  obtain ⟨k, hk⟩ : ∃ k, (minu y m d clock).n = k := ⟨_, rfl⟩
  obtain ⟨g, hg⟩ : ∃ g, (minu y m d clock).e = g := ⟨_, rfl⟩
  rw [hk, hg] at H1 H2
  clear hk hg
  have heq := date_eq p q r
  have HB0 := Lib.hid ((Below.refl _ w).alloc (Nat.le_refl _) (.cells #[.int .i64 y, .int .i64 m, .int .i64 d] 23))
  have N0 := Nm3.new w y m d
  go_enter Tryd.func3, Tryd.ntmps3
  go_wp2_with fail
  (with_reducible refine (H1.out _ (ht.below HB0.out)).mono ?_)
  rintro e1 w1 ⟨rfl, hb1⟩
  have HB1 := Lib.hid (HB0.out.trans (hb1.mono HB0.out.size))
  have N1 := N0.below hb1
  clear hb1 N0
  have c0 := N1.c0; have c1 := N1.c1; have c2 := N1.c2
  go_wp2_with fail
  (with_reducible refine (H2.out _).mono ?_)
  rintro e2 w2 ⟨rfl, hb2⟩
  have HB2 := Lib.hid (HB1.out.trans (hb2.mono HB1.out.size))
  clear hb2 N1 c0 c1 c2
  go_wp2_with fail
  (with_reducible refine (HA.out.d _ (ht.below HB2.out)).mono ?_)
  rintro e3 w3 ⟨rfl, hb3⟩
  have HB3 := Lib.hid (HB2.out.trans (hb3.mono HB2.out.size))
  have X3 := Nm3.new w3 p q r
  have HX := Lib.hid (HB3.out.alloc HB3.out.size (.cells #[.int .i64 p, .int .i64 q, .int .i64 r] 23))
  clear hb3
  go_wp2_with fail
  (with_reducible refine (HA.out.rd _).mono ?_)
  rintro e4 w4 ⟨rfl, hb4⟩
  have HB4 := Lib.hid (HX.out.trans (hb4.mono HX.out.size))
  have X4 := (X3.below hb4).alloc (.cells #[.int .i64 p, .int .i64 q, .int .i64 r] 23)
  have Y4 := Nm3.new w4 p q r
  have HY := Lib.hid (HB4.out.alloc HB4.out.size (.cells #[.int .i64 p, .int .i64 q, .int .i64 r] 23))
  clear hb4 X3
  go_wp2_with fail
  (with_reducible refine (HA.out.wk _ (ht.below HY.out)).mono ?_)
  rintro e5 w5 ⟨rfl, hb5⟩
  have HB5 := Lib.hid (HY.out.trans (hb5.mono HY.out.size))
  have X5 := X4.below hb5
  have Y5 := Y4.below hb5
  clear hb5 X4 Y4
  go_wp2_with fail
  (with_reducible refine (HA.out.rv _).mono ?_)
  rintro e6 w6 ⟨rfl, hb6⟩
  have HB6 := Lib.hid (HB5.out.trans (hb6.mono HB5.out.size))
  have X6 := X5.below hb6
  have Y6 := Y5.below hb6
  clear hb6 X5 Y5
  have c0 := X6.c0; have c1 := X6.c1; have c2 := X6.c2
  have d0 := Y6.c0; have d1 := Y6.c1; have d2 := Y6.c2
  go_wp2_with fail
  (with_reducible refine (known_any _ (ht.below HB6.out)).mono ?_)
  rintro e7 w7 ⟨rfl, hb7⟩
  have HB7 := Lib.hid (HB6.out.trans (hb7.mono HB6.out.size))
  clear hb7
  go_wp2
  go_ret
  exact ⟨rfl, HB7.out⟩
end Go.Proofs.YtlkbdnjpcagopaaDoor.Ca
