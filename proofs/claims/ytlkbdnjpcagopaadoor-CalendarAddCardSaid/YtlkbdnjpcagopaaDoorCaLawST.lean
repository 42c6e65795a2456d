/-
  The laws CalendarStart and CalendarAdd return true for all arguments, in every world that holds the listed tables.
-/
import Derived.Test.YtlkbdnjpcagopaaDoorCaKnown
import Derived.Test.YtlkbdnjpcagopaaDoorCaRAdd6
namespace Go.Proofs.YtlkbdnjpcagopaaDoor.Ca
open Go.RowKit
set_option linter.unusedVariables false
set_option linter.unusedSimpArgs false

theorem no_inst {n : Int} (h : ¬ (0 ≤ n ∧ n < 52596000)) : True := trivial
set_option maxRecDepth 100000 in
set_option maxHeartbeats 2000000 in
theorem CalendarStart_any (u n : Int) (w : World) (ht : Tb w) : Calls Tryd.prog 5 #[.int .i64 u, .int .i64 n] w fun e w' => e = .returned (.bool true) ∧ Below w.heap.size w w' := by
  by_cases h2 : 0 ≤ n ∧ n < 52596000
  · by_cases h1 : 1 ≤ u ∧ u ≤ 5
    · obtain ⟨y, m, d, c, hk, c1, c2, rfl⟩ := inst_is h2.1 h2.2
      have C1 := Lib.hid (fun w ht => Start_yes hk c1 c2 h1 w ht)
      have C2 := Lib.hid (fun w => RStart_yes hk c1 c2 h1 w)
      obtain ⟨r, hr⟩ : ∃ r, inst y (sm u m) (sd u d) (sc u c) = r := ⟨_, rfl⟩
      rw [hr] at C1 C2
      clear hr
      obtain ⟨n, hn⟩ : ∃ n, inst y m d c = n := ⟨_, rfl⟩
      rw [hn] at C1 C2
      rw [hn]
      clear hn h2 h1 hk
      go_enter Tryd.func5, Tryd.ntmps5
      go_wp2_with fail
      (with_reducible refine (C1.out _ ht).mono ?_)
      rintro e w1 ⟨rfl, hb1⟩
      have HB1 := Lib.hid hb1
      clear hb1
      go_wp2_with fail
      (with_reducible refine (C2.out _).mono ?_)
      rintro e w2 ⟨rfl, hb2⟩
      have HB2 := Lib.hid (HB1.out.trans (hb2.mono HB1.out.size))
      clear hb2
      go_wp2_with fail
      (with_reducible refine (known_any _ (ht.below HB2.out)).mono ?_)
      rintro e w3 ⟨rfl, hb3⟩
      have HB3 := Lib.hid (HB2.out.trans (hb3.mono HB2.out.size))
      clear hb3
      go_wp2
      go_ret
      exact ⟨rfl, HB3.out⟩
    · have C1 := Lib.hid (fun w => Start_no1 (n := n) h1 w)
      obtain ⟨y, m, d, c, hk, c1, c2, rfl⟩ := inst_is h2.1 h2.2
      have C2 := Lib.hid (fun w => RStart_no2 hk c1 c2 h1 w)
      obtain ⟨n, hn⟩ : ∃ n, inst y m d c = n := ⟨_, rfl⟩
      rw [hn] at C1 C2
      rw [hn]
      clear hn h2 h1 hk
      go_enter Tryd.func5, Tryd.ntmps5
      go_wp2_with fail
      (with_reducible refine (C1.out _).mono ?_)
      rintro e w1 ⟨rfl, hb1⟩
      have HB1 := Lib.hid hb1
      clear hb1
      go_wp2_with fail
      (with_reducible refine (C2.out _).mono ?_)
      rintro e w2 ⟨rfl, hb2⟩
      have HB2 := Lib.hid (HB1.out.trans (hb2.mono HB1.out.size))
      clear hb2
      go_wp2_with fail
      (with_reducible refine (known_any _ (ht.below HB2.out)).mono ?_)
      rintro e w3 ⟨rfl, hb3⟩
      have HB3 := Lib.hid (HB2.out.trans (hb3.mono HB2.out.size))
      clear hb3
      go_wp2
      go_ret
      exact ⟨rfl, HB3.out⟩
  · have C2 := Lib.hid (fun w => RStart_no1 (u := u) h2 w)
    have C1 : Hid (∀ w, Calls Tryd.prog 20 #[.int .i64 u, .int .i64 n] w fun e w' => e = .returned (.tuple #[.int .i64 0, .int .i64 2]) ∧ Below w.heap.size w w') := Lib.hid (fun w => by
      by_cases h1 : 1 ≤ u ∧ u ≤ 5
      · exact Start_no2 h1 h2 w
      · exact Start_no1 h1 w)
    clear h2
    go_enter Tryd.func5, Tryd.ntmps5
    go_wp2_with fail
    (with_reducible refine (C1.out _).mono ?_)
    rintro e w1 ⟨rfl, hb1⟩
    have HB1 := Lib.hid hb1
    clear hb1
    go_wp2_with fail
    (with_reducible refine (C2.out _).mono ?_)
    rintro e w2 ⟨rfl, hb2⟩
    have HB2 := Lib.hid (HB1.out.trans (hb2.mono HB1.out.size))
    clear hb2
    go_wp2_with fail
    (with_reducible refine (known_any _ (ht.below HB2.out)).mono ?_)
    rintro e w3 ⟨rfl, hb3⟩
    have HB3 := Lib.hid (HB2.out.trans (hb3.mono HB2.out.size))
    clear hb3
    go_wp2
    go_ret
    exact ⟨rfl, HB3.out⟩
set_option maxRecDepth 100000 in
set_option maxHeartbeats 2000000 in
theorem CalendarAdd_any (n u k : Int) (w : World) (ht : Tb w) : Calls Tryd.prog 7 #[.int .i64 n, .int .i64 u, .int .i64 k] w fun e w' => e = .returned (.bool true) ∧ Below w.heap.size w w' := by
  by_cases h2 : 0 ≤ n ∧ n < 52596000
  · by_cases h1 : 1 ≤ u ∧ u ≤ 5
    · obtain ⟨y, m, d, c, hk, c1, c2, rfl⟩ := inst_is h2.1 h2.2
      have C1 := Lib.hid (fun w ht => Add_yes (k := k) hk c1 c2 h1 w ht)
      have C2 := Lib.hid (fun w => RAdd_yes (k := k) hk c1 c2 h1 w)
      obtain ⟨r, hr⟩ : ∃ r, (addU y m d c u k).n = r := ⟨_, rfl⟩
      obtain ⟨q, hq⟩ : ∃ q, (addU y m d c u k).e = q := ⟨_, rfl⟩
      rw [hr, hq] at C1 C2
      clear hr hq
      obtain ⟨n, hn⟩ : ∃ n, inst y m d c = n := ⟨_, rfl⟩
      rw [hn] at C1 C2
      rw [hn]
      clear hn h2 h1 hk
      go_enter Tryd.func7, Tryd.ntmps7
      go_wp2_with fail
      (with_reducible refine (C1.out _ ht).mono ?_)
      rintro e w1 ⟨rfl, hb1⟩
      have HB1 := Lib.hid hb1
      clear hb1
      go_wp2_with fail
      (with_reducible refine (C2.out _).mono ?_)
      rintro e w2 ⟨rfl, hb2⟩
      have HB2 := Lib.hid (HB1.out.trans (hb2.mono HB1.out.size))
      clear hb2
      go_wp2_with fail
      (with_reducible refine (known_any _ (ht.below HB2.out)).mono ?_)
      rintro e w3 ⟨rfl, hb3⟩
      have HB3 := Lib.hid (HB2.out.trans (hb3.mono HB2.out.size))
      clear hb3
      go_wp2
      go_ret
      exact ⟨rfl, HB3.out⟩
    · have C1 := Lib.hid (fun w => Add_no2 (k := k) h2 h1 w)
      obtain ⟨y, m, d, c, hk, c1, c2, rfl⟩ := inst_is h2.1 h2.2
      have C2 := Lib.hid (fun w => RAdd_no2 (k := k) hk c1 c2 h1 w)
      obtain ⟨n, hn⟩ : ∃ n, inst y m d c = n := ⟨_, rfl⟩
      rw [hn] at C1 C2
      rw [hn]
      clear hn h2 h1 hk
      go_enter Tryd.func7, Tryd.ntmps7
      go_wp2_with fail
      (with_reducible refine (C1.out _).mono ?_)
      rintro e w1 ⟨rfl, hb1⟩
      have HB1 := Lib.hid hb1
      clear hb1
      go_wp2_with fail
      (with_reducible refine (C2.out _).mono ?_)
      rintro e w2 ⟨rfl, hb2⟩
      have HB2 := Lib.hid (HB1.out.trans (hb2.mono HB1.out.size))
      clear hb2
      go_wp2_with fail
      (with_reducible refine (known_any _ (ht.below HB2.out)).mono ?_)
      rintro e w3 ⟨rfl, hb3⟩
      have HB3 := Lib.hid (HB2.out.trans (hb3.mono HB2.out.size))
      clear hb3
      go_wp2
      go_ret
      exact ⟨rfl, HB3.out⟩
  · have C2 := Lib.hid (fun w => RAdd_no1 (u := u) (k := k) h2 w)
    have C1 := Lib.hid (fun w => Add_no1 (u := u) (k := k) h2 w)
    clear h2
    go_enter Tryd.func7, Tryd.ntmps7
    go_wp2_with fail
    (with_reducible refine (C1.out _).mono ?_)
    rintro e w1 ⟨rfl, hb1⟩
    have HB1 := Lib.hid hb1
    clear hb1
    go_wp2_with fail
    (with_reducible refine (C2.out _).mono ?_)
    rintro e w2 ⟨rfl, hb2⟩
    have HB2 := Lib.hid (HB1.out.trans (hb2.mono HB1.out.size))
    clear hb2
    go_wp2_with fail
    (with_reducible refine (known_any _ (ht.below HB2.out)).mono ?_)
    rintro e w3 ⟨rfl, hb3⟩
    have HB3 := Lib.hid (HB2.out.trans (hb3.mono HB2.out.size))
    clear hb3
    go_wp2
    go_ret
    exact ⟨rfl, HB3.out⟩
end Go.Proofs.YtlkbdnjpcagopaaDoor.Ca
