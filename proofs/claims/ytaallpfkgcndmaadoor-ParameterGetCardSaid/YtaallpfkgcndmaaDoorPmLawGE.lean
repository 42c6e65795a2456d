/-
  The law ParameterGet, for every list of bindings and every name.
-/
import Derived.Test.YtaallpfkgcndmaaDoorPmKnown
namespace Go.Proofs.YtaallpfkgcndmaaDoor.Pm
open Go.RowKit Go.Shelf
set_option linter.unusedVariables false
set_option linter.unusedSimpArgs false

set_option maxRecDepth 100000 in
set_option maxHeartbeats 4000000 in
theorem ParameterGet_any (v : Value) (l : List Bd) (a : ByteArray) (w : World) (hr : RdB w w.heap.size v l) :
    Calls Tryd.prog 5 #[v, .string a] w fun e w' => e = .returned (.bool true) ∧ Below w.heap.size w w' := by
  obtain ⟨A1, c1, hv, l1, m1, _⟩ := hr.ex
  unfold maxLen at m1
  have HR := Lib.hid hr
  clear hr
  by_cases h1 : 100 < l.length
  · have d1 : decide ((100 : Int) < (l.length : Int)) = true := decide_eq_true (by omega)
    subst hv
    go_enter Tryd.func5, Tryd.ntmps5
    go_wp2_with fail
    with_reducible refine (known_any w).mono ?_
    rintro e w2 ⟨rfl, b2⟩
    go_wp2
    go_ret
    exact ⟨rfl, b2⟩
  · have d1 : decide ((100 : Int) < (l.length : Int)) = false := decide_eq_false (by omega)
    by_cases h2 : 200 < a.size
    · have d2 : decide ((200 : Int) < (a.size : Int)) = true := decide_eq_true (by omega)
      subst hv
      go_enter Tryd.func5, Tryd.ntmps5
      go_wp2_with fail
      with_reducible refine (known_any w).mono ?_
      rintro e w2 ⟨rfl, b2⟩
      go_wp2
      go_ret
      exact ⟨rfl, b2⟩
    · have d2 : decide ((200 : Int) < (a.size : Int)) = false := decide_eq_false (by omega)
      have HG := Lib.hid (Get_any v l a w HR.out (by omega))
      have ha2 : a.size ≤ 4294967281 := by omega
      obtain ⟨s, hs⟩ : ∃ s, bsl ((find (tr a.data.toList) l).getD []) = s := ⟨_, rfl⟩
      obtain ⟨bo, hbo⟩ : ∃ bo, (find (tr a.data.toList) l).isSome = bo := ⟨_, rfl⟩
      have HO : Hid (outG (find (tr a.data.toList) l) = .tuple #[.string s, .bool bo]) := Lib.hid (by unfold outG; rw [hs, hbo])
      have hss : (s.toList == s.toList) = true := by simp
      have hbb : (bo == bo) = true := by cases bo <;> rfl
      have hl2 : l.length ≤ 65536 := by omega
      clear hs hbo h1 h2
      subst hv
      go_enter Tryd.func5, Tryd.ntmps5
      go_wp2_with fail
      with_reducible refine HG.out.mono ?_
      rintro e w1 ⟨rfl, b1⟩
      rw [HO.out]
      have HQ := Lib.hid (RGet_any _ l a w1 (HR.out.up b1) ha2)
      have B1 := Lib.hid b1
      clear b1 HG
      go_wp2_with fail
      with_reducible refine HQ.out.mono ?_
      rintro e w2 ⟨rfl, b2⟩
      rw [HO.out]
      have B2 := Lib.hid (B1.out.trans (b2.mono B1.out.size))
      have HN := Lib.hid (Names_any _ l w2 (HR.out.up B2.out) hl2)
      clear b2 HQ B1
      go_wp2_with fail
      with_reducible refine HN.out.mono ?_
      rintro e w3 ⟨v3, rfl, o3, b3⟩
      have B3 := Lib.hid (B2.out.trans (b3.mono B2.out.size))
      have HM := Lib.hid (RNames_any _ l w3 (HR.out.up B3.out) hl2)
      have O3 := Lib.hid o3
      clear b3 o3 HN B2
      go_wp2_with fail
      with_reducible refine HM.out.mono ?_
      rintro e w4 ⟨v4, rfl, o4, b4⟩
      have B4 := Lib.hid (B3.out.trans (b4.mono B3.out.size))
      have HS := Lib.hid (same_s v3 v4 _ w4 (O3.out.rd.up b4) o4.rd)
      obtain ⟨A3, c3, hv3, _⟩ := O3.out.rd.ex
      obtain ⟨A4, c4, hv4, _⟩ := o4.rd.ex
      rw [List.length_map] at hv3 hv4
      subst hv3 hv4
      clear b4 o4 HM B3 O3
      go_wp2_with fail
      with_reducible refine HS.out.mono ?_
      rintro e w5 ⟨rfl, b5⟩
      have B5 := Lib.hid (B4.out.trans (b5.mono B4.out.size))
      clear b5 HS B4
      go_wp2_with fail
      with_reducible refine (known_any w5).mono ?_
      rintro e w6 ⟨rfl, b6⟩
      have B6 := Lib.hid (B5.out.trans (b6.mono B5.out.size))
      clear b6 B5
      go_wp2_with fail
      go_ret
      exact ⟨rfl, B6.out⟩
end Go.Proofs.YtaallpfkgcndmaaDoor.Pm
