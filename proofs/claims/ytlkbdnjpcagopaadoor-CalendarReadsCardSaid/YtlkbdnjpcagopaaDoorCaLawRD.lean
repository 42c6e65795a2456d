/-
  The law CalendarReads returns true for all numbers, in every world that holds the listed tables.
-/
import Derived.Test.YtlkbdnjpcagopaaDoorCaLawUN
import Derived.Test.YtlkbdnjpcagopaaDoorCaParse
namespace Go.Proofs.YtlkbdnjpcagopaaDoor.Ca
open Go.RowKit
set_option linter.unusedVariables false
set_option linter.unusedSimpArgs false

theorem ymd_len {y m d : Int} (h : Ok y m d) : (ymd y m d).length = 10 := by rw [ymd_is h]; rfl
theorem hi_len {c : Int} (h1 : 0 ≤ c) (h2 : c < 1440) : (hi c).length = 5 := by rw [hi_is h1 h2]; rfl
set_option maxRecDepth 100000 in
set_option maxHeartbeats 4000000 in
theorem CalendarReads_any (n : Int) (w : World) (ht : Tb w) : Calls Tryd.prog 12 #[.int .i64 n] w fun e w' => e = .returned (.bool true) ∧ Below w.heap.size w w' := by
  obtain ⟨A, y, m, d, c, P⟩ := pick n
  have H1 := Lib.hid (fun w ht => Format_yes P.ok P.c1 P.c2 ⟨#[89, 45, 109, 45, 100, 32, 72, 58, 105]⟩ w (by decide) ht)
  have e1 : (⟨#[89, 45, 109, 45, 100, 32, 72, 58, 105]⟩ : ByteArray).data.toList = [89, 45, 109, 45, 100, 32, 72, 58, 105] := rfl
  rw [e1, fmt_ymdhi] at H1
  have H3 := Lib.hid (fun w ht => Format_yes P.ok P.c1 P.c2 ⟨#[92, 89, 92, 109, 32, 89, 45, 109, 45, 100]⟩ w (by decide) ht)
  have e3 : (⟨#[92, 89, 92, 109, 32, 89, 45, 109, 45, 100]⟩ : ByteArray).data.toList = [92, 89, 92, 109, 32, 89, 45, 109, 45, 100] := rfl
  rw [e3, fmt_esc] at H3
  have ly := ymd_len P.ok
  have lh := hi_len P.c1 P.c2
  obtain ⟨S, hS⟩ : ∃ S : ByteArray, ⟨(ymd y m d ++ 32 :: hi c).toArray⟩ = S := ⟨_, rfl⟩
  obtain ⟨T, hT⟩ : ∃ T : ByteArray, ⟨(89 :: 109 :: 32 :: ymd y m d).toArray⟩ = T := ⟨_, rfl⟩
  have sS : S.size = 16 := by rw [← hS]; show (ymd y m d ++ 32 :: hi c).toArray.size = 16; simp; omega
  have sT : T.size = 13 := by rw [← hT]; show (89 :: 109 :: 32 :: ymd y m d).toArray.size = 13; simp; omega
  have dS : S.data.toList = ymd y m d ++ 32 :: hi c := by rw [← hS]
  have dT : T.data.toList = 89 :: 109 :: 32 :: ymd y m d := by rw [← hT]
  rw [hS] at H1
  rw [hT] at H3
  have H2 := Lib.hid (fun w ht => Parse_any S w (by omega) ht)
  rw [dS, read_full P.ok P.c1 P.c2, P.n] at H2
  have hx : (T.extract 3 13).data.toList = ymd y m d := by rw [Lib.extract_data, dT]; simp; rw [List.take_of_length_le (by omega)]
  have H5 := Lib.hid (fun w ht => Parse_any (T.extract 3 13) w (by simp; omega) ht)
  rw [hx, read_date P.ok] at H5
  have hx2 : T.extract 0 3 = ⟨#[89, 109, 32]⟩ := by
    apply ByteArray.ext; apply Array.ext'
    rw [Lib.extract_data, dT]; rfl
  have H4 := Lib.hid (fun w ht => Start_yes (u := 3) P.ok P.c1 P.c2 (by omega) w ht)
  have hs3 : inst y (sm 3 m) (sd 3 d) (sc 3 c) = inst y m d 0 := rfl
  rw [hs3] at H4
  obtain ⟨K, hK⟩ : ∃ K, inst y m d 0 = K := ⟨_, rfl⟩
  rw [hK] at H4 H5
  rw [P.n] at H1 H3 H4
  have ha := P.a
  have a0 := P.a0
  have a1 := P.a1
  have hq : (((T.extract 0 3) : ByteArray) != ⟨#[89, 109, 32]⟩) = false := by rw [hx2]; rfl
  clear P hS hT dS dT hx hs3 hK ly lh e1 e3 sS
  go_enter Tryd.func12, Tryd.ntmps12
  go_wp2_with fail
  (with_reducible refine (H1.out _ ht).mono ?_)
  rintro e w1 ⟨rfl, hb1⟩
  have HB1 := Lib.hid hb1
  clear hb1 ha
  go_wp2_with fail
  (with_reducible refine (H2.out _ (ht.below HB1.out)).mono ?_)
  rintro e w2 ⟨rfl, hb2⟩
  have HB2 := Lib.hid (HB1.out.trans (hb2.mono HB1.out.size))
  clear hb2
  go_wp2_with fail
  (with_reducible refine (H3.out _ (ht.below HB2.out)).mono ?_)
  rintro e w3 ⟨rfl, hb3⟩
  have HB3 := Lib.hid (HB2.out.trans (hb3.mono HB2.out.size))
  clear hb3
  go_wp2_with fail
  (with_reducible refine (H4.out _ (ht.below HB3.out)).mono ?_)
  rintro e w4 ⟨rfl, hb4⟩
  have HB4 := Lib.hid (HB3.out.trans (hb4.mono HB3.out.size))
  clear hb4
  go_wp2_with fail
  (with_reducible refine (H5.out _ (ht.below HB4.out)).mono ?_)
  rintro e w5 ⟨rfl, hb5⟩
  have HB5 := Lib.hid (HB4.out.trans (hb5.mono HB4.out.size))
  clear hb5
  go_wp2_with fail
  (with_reducible refine (known_any _ (ht.below HB5.out)).mono ?_)
  rintro e w6 ⟨rfl, hb6⟩
  have HB6 := Lib.hid (HB5.out.trans (hb6.mono HB5.out.size))
  clear hb6
  go_wp2
  go_ret
  exact ⟨rfl, HB6.out⟩
end Go.Proofs.YtlkbdnjpcagopaaDoor.Ca
