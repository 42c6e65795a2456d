/-
  The law CalendarParse returns true for all strings, in every world that holds the listed tables.
-/
import Derived.Test.YtlkbdnjpcagopaaDoorCaKnown
import Derived.Test.YtlkbdnjpcagopaaDoorCaRPar2
namespace Go.Proofs.YtlkbdnjpcagopaaDoor.Ca
open Go.RowKit
set_option linter.unusedVariables false

set_option maxRecDepth 100000 in
set_option maxHeartbeats 2000000 in
theorem CalendarParse_any (s : ByteArray) (w : World) (hs : s.size ≤ maxLen) (ht : Tb w) : Calls Tryd.prog 9 #[.string s] w fun e w' => e = .returned (.bool true) ∧ Below w.heap.size w w' := by
  unfold maxLen at hs
  by_cases hl : 100 < s.size
  · have hl2 : (100 : Int) < (s.size : Int) := by omega
    clear hl
    go_enter Tryd.func9, Tryd.ntmps9
    go_wp2_with fail
    (with_reducible refine (known_any _ ht).mono ?_)
    rintro e w1 ⟨rfl, hb⟩
    go_wp2
    go_ret
    exact ⟨rfl, hb⟩
  · have hl2 : (s.size : Int) ≤ 100 := by omega
    have H1 := Lib.hid (fun w ht => Parse_any s w (by omega) ht)
    have H2 := Lib.hid (fun w => RParse_any s w (by omega))
    obtain ⟨k, hk⟩ : ∃ k, (parse s.data.toList).n = k := ⟨_, rfl⟩
    obtain ⟨g, hg⟩ : ∃ g, (parse s.data.toList).e = g := ⟨_, rfl⟩
    rw [hk, hg] at H1 H2
    clear hk hg hl
    go_enter Tryd.func9, Tryd.ntmps9
    go_wp2_with fail
    (with_reducible refine (H1.out _ ht).mono ?_)
    rintro e w1 ⟨rfl, hb1⟩
    have HB1 := Lib.hid hb1
    clear hb1
    go_wp2_with fail
    (with_reducible refine (H2.out _).mono ?_)
    rintro e w2 ⟨rfl, hb2⟩
    have HB2 := Lib.hid (HB1.out.trans (hb2.mono HB1.out.size))
    clear hb2
    go_wp2_with fail
    (with_reducible refine (known_any _ (ht.below HB2.out)).mono ?_)
    rintro e w3 ⟨rfl, hb3⟩
    have HB3 := Lib.hid (HB2.out.trans (hb3.mono HB2.out.size))
    clear hb3
    go_wp2
    go_ret
    exact ⟨rfl, HB3.out⟩
end Go.Proofs.YtlkbdnjpcagopaaDoor.Ca
