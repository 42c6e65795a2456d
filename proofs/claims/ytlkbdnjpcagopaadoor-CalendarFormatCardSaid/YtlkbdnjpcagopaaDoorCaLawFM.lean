/-
  The law CalendarFormat returns true for all patterns and numbers, in every world that holds the listed tables.
-/
import Derived.Test.YtlkbdnjpcagopaaDoorCaKnown
import Derived.Test.YtlkbdnjpcagopaaDoorCaRFmt
import Derived.Test.YtlkbdnjpcagopaaDoorCaRUn
namespace Go.Proofs.YtlkbdnjpcagopaaDoor.Ca
open Go.RowKit
set_option linter.unusedVariables false

/-- What the two Formats answer. -/
theorem fmt_ans (s : ByteArray) (n : Int) : ∃ (T : ByteArray) (g : Int), (∀ w, Tb w → Calls Tryd.prog 26 #[.string s, .int .i64 n] w fun e w' => e = .returned (.tuple #[.string T, .int .i64 g]) ∧ Below w.heap.size w w') ∧
    (∀ w, Calls Tryd.prog 27 #[.string s, .int .i64 n] w fun e w' => e = .returned (.tuple #[.string T, .int .i64 g]) ∧ Below w.heap.size w w') := by
  by_cases h : 0 ≤ n ∧ n < 52596000
  · by_cases hs : 400 < s.size
    · exact ⟨⟨#[]⟩, 3, fun w ht => Format_no2 h s w hs, fun w => RFormat_no2 h s w hs⟩
    · obtain ⟨y, m, d, c, hk, c1, c2, rfl⟩ := inst_is h.1 h.2
      exact ⟨_, 0, fun w ht => Format_yes hk c1 c2 s w (by omega) ht, fun w => RFormat_yes hk c1 c2 s w (by omega)⟩
  · exact ⟨⟨#[]⟩, 2, fun w ht => Format_no1 h s w, fun w => RFormat_no1 h s w⟩
set_option maxRecDepth 100000 in
set_option maxHeartbeats 2000000 in
theorem CalendarFormat_any (s : ByteArray) (n : Int) (w : World) (hs : s.size ≤ maxLen) (ht : Tb w) : Calls Tryd.prog 10 #[.string s, .int .i64 n] w fun e w' => e = .returned (.bool true) ∧ Below w.heap.size w w' := by
  unfold maxLen at hs
  by_cases hl : 500 < s.size
  · have hl2 : (500 : Int) < (s.size : Int) := by omega
    clear hl
    go_enter Tryd.func10, Tryd.ntmps10
    go_wp2_with fail
    (with_reducible refine (known_any _ ht).mono ?_)
    rintro e w1 ⟨rfl, hb⟩
    go_wp2
    go_ret
    exact ⟨rfl, hb⟩
  · have hl2 : (s.size : Int) ≤ 500 := by omega
    obtain ⟨T, g, h1, h2⟩ := fmt_ans s n
    have H1 := Lib.hid h1
    have H2 := Lib.hid h2
    have H3 := Lib.hid (fun w => Unit_any s w (by omega))
    have H4 := Lib.hid (fun w => RUnit_any s w (by omega))
    obtain ⟨u, hu⟩ : ∃ u, unit s.data.toList = u := ⟨_, rfl⟩
    rw [hu] at H3 H4
    clear hu h1 h2 hl
    go_enter Tryd.func10, Tryd.ntmps10
    go_wp2_with fail
    (with_reducible refine (H1.out _ ht).mono ?_)
    rintro e w1 ⟨rfl, hb1⟩
    have HB1 := Lib.hid hb1
    clear hb1
    go_wp2_with fail
    (with_reducible refine (H2.out _).mono ?_)
    rintro e w2 ⟨rfl, hb2⟩
    have HB2 := Lib.hid (HB1.out.trans (hb2.mono HB1.out.size))
    clear hb2
    go_wp2_with fail
    (with_reducible refine (H3.out _).mono ?_)
    rintro e w3 ⟨rfl, hb3⟩
    have HB3 := Lib.hid (HB2.out.trans (hb3.mono HB2.out.size))
    clear hb3
    go_wp2_with fail
    (with_reducible refine (H4.out _).mono ?_)
    rintro e w4 ⟨rfl, hb4⟩
    have HB4 := Lib.hid (HB3.out.trans (hb4.mono HB3.out.size))
    clear hb4
    go_wp2_with fail
    (with_reducible refine (known_any _ (ht.below HB4.out)).mono ?_)
    rintro e w5 ⟨rfl, hb5⟩
    have HB5 := Lib.hid (HB4.out.trans (hb5.mono HB4.out.size))
    clear hb5
    go_wp2
    go_ret
    exact ⟨rfl, HB5.out⟩
end Go.Proofs.YtlkbdnjpcagopaaDoor.Ca
