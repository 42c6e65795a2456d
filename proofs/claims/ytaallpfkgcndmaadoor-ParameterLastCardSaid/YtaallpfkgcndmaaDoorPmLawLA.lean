/-
  The law ParameterLast, for every list of arguments and every name, text and name that is asked for.
-/
import Derived.Test.YtaallpfkgcndmaaDoorPmApp
namespace Go.Proofs.YtaallpfkgcndmaaDoor.Pm
open Go.RowKit Go.Shelf
set_option linter.unusedVariables false
set_option linter.unusedSimpArgs false

theorem puts_snoc (l : List Val) (n t : By) : bind (puts dec tr 0 (l ++ [(true, n, t)])) = put (tr n) (tr t) (bind (puts dec tr 0 l)) := by
  rw [puts_append]
  simp only [puts]
  rw [bind_snoc]
theorem outG_some {o : Option By} {t : By} (h : o = some t) : outG o = .tuple #[.string (bsl t), .bool true] := by rw [h]; rfl
set_option maxRecDepth 100000 in
set_option maxHeartbeats 8000000 in
theorem ParameterLast_any (v : Value) (l : List Val) (a1 a2 a3 : ByteArray) (w : World) (hr : RdV w w.heap.size v l) :
    Calls Tryd.prog 6 #[v, .string a1, .string a2, .string a3] w fun e w' => e = .returned (.bool true) ∧ Below w.heap.size w w' := by
  have HR := Lib.hid hr
  obtain ⟨A1, c1, hv1, _, m1, _⟩ := hr.ex
  unfold maxLen at m1
  clear hr
  subst hv1
  go_enter Tryd.func6, Tryd.ntmps6
  go_wp2_with fail
  with_reducible refine (large_any _ l w HR.out).mono ?_
  rintro e w1 ⟨b, rfl, hS, rfl⟩
  cases b with
  | true =>
    go_wp2_with fail
    with_reducible refine (known_any w1).mono ?_
    rintro e w2 ⟨rfl, b2⟩
    go_wp2
    go_ret
    exact ⟨rfl, b2⟩
  | false =>
  have hs := hS rfl
  clear hS
  by_cases h40 : 40 ≤ l.length
  · have d40 : decide ((40 : Int) ≤ (l.length : Int)) = true := decide_eq_true (by omega)
    go_wp2_with fail
    with_reducible refine (known_any w1).mono ?_
    rintro e w2 ⟨rfl, b2⟩
    go_wp2
    go_ret
    exact ⟨rfl, b2⟩
  have d40 : decide ((40 : Int) ≤ (l.length : Int)) = false := decide_eq_false (by omega)
  by_cases z1 : 100 < a1.size
  · have d1 : decide ((100 : Int) < (a1.size : Int)) = true := decide_eq_true (by omega)
    go_wp2_with fail
    with_reducible refine (known_any w1).mono ?_
    rintro e w2 ⟨rfl, b2⟩
    go_wp2
    go_ret
    exact ⟨rfl, b2⟩
  have d1 : decide ((100 : Int) < (a1.size : Int)) = false := decide_eq_false (by omega)
  by_cases z2 : 100 < a2.size
  · have d2 : decide ((100 : Int) < (a2.size : Int)) = true := decide_eq_true (by omega)
    go_wp2_with fail
    with_reducible refine (known_any w1).mono ?_
    rintro e w2 ⟨rfl, b2⟩
    go_wp2
    go_ret
    exact ⟨rfl, b2⟩
  have d2 : decide ((100 : Int) < (a2.size : Int)) = false := decide_eq_false (by omega)
  by_cases z3 : 100 < a3.size
  · have d3 : decide ((100 : Int) < (a3.size : Int)) = true := decide_eq_true (by omega)
    go_wp2_with fail
    with_reducible refine (known_any w1).mono ?_
    rintro e w2 ⟨rfl, b2⟩
    go_wp2
    go_ret
    exact ⟨rfl, b2⟩
  have d3 : decide ((100 : Int) < (a3.size : Int)) = false := decide_eq_false (by omega)
  have y1 : a1.data.toList.length ≤ 100 := by rw [size_list]; omega
  have y2 : a2.data.toList.length ≤ 100 := by rw [size_list]; omega
  have hs2 : Sm (l ++ [(true, a1.data.toList, a2.data.toList)]) := ⟨by rw [List.length_append, List.length_singleton]; omega, fun x hx => by
    rcases List.mem_append.1 hx with h | h
    · exact hs.name x h
    · rw [List.mem_singleton] at h; subst h; exact y1, fun x hx => by
    rcases List.mem_append.1 hx with h | h
    · exact hs.text x h
    · rw [List.mem_singleton] at h; subst h; exact Nat.le_trans y2 (by omega)⟩
  -- the two lists of parameters
  obtain ⟨La, hLa⟩ : ∃ La, bind (puts dec tr 0 l) = La := ⟨_, rfl⟩
  obtain ⟨Lb, hLb⟩ : ∃ Lb, bind (puts dec tr 0 (l ++ [(true, a1.data.toList, a2.data.toList)])) = Lb := ⟨_, rfl⟩
  have hput : Lb = put (tr a1.data.toList) (tr a2.data.toList) La := by rw [← hLb, puts_snoc, hLa]
  have hasc : Asc La := by rw [← hLa]; exact asc_bind _
  have G1 := Lib.hid (outG_some (show find (tr a1.data.toList) Lb = some (tr a2.data.toList) by rw [hput]; exact find_put_same hasc))
  have GA := Lib.hid (show (if 40 < l.length then (8 : Int) else 0) = 0 ∧ (if 40 < l.length then ([] : List Bd) else bind (puts dec tr 0 l)) = La from ⟨if_neg (by omega), by rw [if_neg (by omega)]; exact hLa⟩)
  have GB := Lib.hid (show (if 40 < (l ++ [(true, a1.data.toList, a2.data.toList)]).length then (8 : Int) else 0) = 0 ∧ (if 40 < (l ++ [(true, a1.data.toList, a2.data.toList)]).length then ([] : List Bd) else bind (puts dec tr 0 (l ++ [(true, a1.data.toList, a2.data.toList)]))) = Lb from ⟨if_neg (by rw [List.length_append, List.length_singleton]; omega), by rw [if_neg (by rw [List.length_append, List.length_singleton]; omega)]; exact hLb⟩)
  obtain ⟨sa, hsa⟩ : ∃ s, bsl ((find (tr a3.data.toList) La).getD []) = s := ⟨_, rfl⟩
  obtain ⟨oa, hoa⟩ : ∃ bo, (find (tr a3.data.toList) La).isSome = bo := ⟨_, rfl⟩
  have G2 : Hid (outG (find (tr a3.data.toList) La) = .tuple #[.string sa, .bool oa]) := Lib.hid (by unfold outG; rw [hsa, hoa])
  obtain ⟨sb, hsb⟩ : ∃ s, bsl ((find (tr a3.data.toList) Lb).getD []) = s := ⟨_, rfl⟩
  obtain ⟨ob, hob⟩ : ∃ bo, (find (tr a3.data.toList) Lb).isSome = bo := ⟨_, rfl⟩
  have G3 : Hid (outG (find (tr a3.data.toList) Lb) = .tuple #[.string sb, .bool ob]) := Lib.hid (by unfold outG; rw [hsb, hob])
  have G4 : Hid (tr a3.data.toList ≠ tr a1.data.toList → sb = sa ∧ ob = oa) := Lib.hid (fun hne => by
    have := find_put_other (n := tr a1.data.toList) (t := tr a2.data.toList) hne hasc
    rw [← hput] at this
    rw [this] at hsb hob
    exact ⟨hsb.symm.trans hsa, hob.symm.trans hoa⟩)
  clear hsa hoa hsb hob hput hasc hLa hLb y1 y2
  have HS := Lib.hid (And.intro hs hs2)
  have HB := Lib.hid (Bind_any _ l w1 HR.out HS.out.1)
  go_wp2_with fail
  with_reducible refine HB.out.mono ?_
  rintro e w2 ⟨v2, rfl, o2, b2⟩
  rw [GA.out.1]
  rw [GA.out.2] at o2
  obtain ⟨A2, c2, hv2, _⟩ := o2.rd.ex
  have O2 := Lib.hid o2
  have B2 := Lib.hid b2
  -- the longer list
  obtain ⟨v3, w3, r3, o3, b3⟩ := run_copyV w2 22 _ l (HR.out.up b2) (by omega)
  have b3' : Below w3.heap.size w3 (w3.alloc (.cells #[.bool true, .string a1, .string a2] 40)) := (Below.refl _ _).alloc (Nat.le_refl _) _
  obtain ⟨v4, w4, r4, o4, b4⟩ := run_pushV (w3.alloc (.cells #[.bool true, .string a1, .string a2] 40)) 22 v3 l (true, a1.data.toList, a2.data.toList) w2.heap.size w3.heap.size (row_below o3 b3' (Nat.le_refl _)) (heap_alloc_new w3 _) (by omega) (Nat.le_trans b3.size b3'.size)
  have bw4 : Below w2.heap.size w2 w4 := b3.trans ((b3'.mono b3.size).trans b4)
  obtain ⟨A3, c3, hv3, _⟩ := OwnV.rd o3 |>.ex
  obtain ⟨A4, c4, hv4, _⟩ := OwnV.rd o4 |>.ex
  rw [List.length_append, List.length_singleton] at hv4
  subst hv3 hv4
  have HB4 := Lib.hid (Bind_any _ _ w4 (OwnV.rd o4) HS.out.2)
  have B4 := Lib.hid (b2.trans (bw4.mono b2.size))
  have RA := Lib.hid (O2.out.rd.up bw4)
  have R3 := Lib.hid r3; have R4 := Lib.hid r4
  clear r3 r4 o3 o4 b3 b3' b4 bw4 o2 b2 B2 HB O2
  subst hv2
  go_wp2_with (first
    | (at_builtin; refine wpList_app rfl (.const (.slice none 0 0)) (.tmp 48) _ rfl rfl rfl R3.out ?_; clear R3)
    | (at_builtin; refine wpList_app rfl (.tmp 49) (.tmp 53) _ rfl rfl rfl R4.out ?_; clear R4))
  with_reducible refine HB4.out.mono ?_
  rintro e w5 ⟨v5, rfl, o5, b5⟩
  rw [GB.out.1]
  rw [GB.out.2] at o5
  obtain ⟨A5, c5, hv5, _⟩ := o5.rd.ex
  have O5 := Lib.hid o5.rd
  have B5 := Lib.hid (B4.out.trans (b5.mono B4.out.size))
  have RA5 := Lib.hid (RA.out.up b5)
  have HG := Lib.hid (Get_any v5 Lb a1 w5 o5.rd (by omega))
  clear o5 b5 HB4 B4 RA
  subst hv5
  go_wp2_with fail
  with_reducible refine HG.out.mono ?_
  rintro e w6 ⟨rfl, b6⟩
  rw [G1.out]
  have B6 := Lib.hid (B5.out.trans (b6.mono B5.out.size))
  have RA6 := Lib.hid (RA5.out.up b6)
  have O6 := Lib.hid (O5.out.up b6)
  have HG := Lib.hid (Get_any _ La a3 w6 RA6.out (by omega))
  clear b6 B5 RA5 O5
  go_wp2_with fail
  with_reducible refine HG.out.mono ?_
  rintro e w7 ⟨rfl, b7⟩
  rw [G2.out]
  have B7 := Lib.hid (B6.out.trans (b7.mono B6.out.size))
  have O7 := Lib.hid (O6.out.up b7)
  have HG := Lib.hid (Get_any _ Lb a3 w7 O7.out (by omega))
  clear b7 B6 O6 RA6
  go_wp2_with fail
  with_reducible refine HG.out.mono ?_
  rintro e w8 ⟨rfl, b8⟩
  rw [G3.out]
  have B8 := Lib.hid (B7.out.trans (b8.mono B7.out.size))
  have HT2 := Lib.hid (RTrim_any a2 w8 (by omega))
  have HT3 := Lib.hid (RTrim_any a3 w8 (by omega))
  have HT1 := Lib.hid (RTrim_any a1 w8 (by omega))
  have e1 := str_beq (tr a2.data.toList) (tr a2.data.toList)
  rw [decide_eq_true rfl] at e1
  clear b8 B7 O7 HG
  go_wp2_with fail
  with_reducible refine HT2.out.mono ?_
  rintro e w9 ⟨rfl, rfl⟩
  clear HT2
  go_wp2_with fail
  with_reducible refine HT3.out.mono ?_
  rintro e w9 ⟨rfl, rfl⟩
  clear HT3
  go_wp2_with fail
  with_reducible refine HT1.out.mono ?_
  rintro e w9 ⟨rfl, rfl⟩
  clear HT1
  have e2 := str_beq (tr a3.data.toList) (tr a1.data.toList)
  by_cases hq : tr a3.data.toList = tr a1.data.toList
  · rw [decide_eq_true hq] at e2
    clear hq
    go_wp2_with fail
    with_reducible refine (known_any w9).mono ?_
    rintro e w10 ⟨rfl, b10⟩
    have B10 := Lib.hid (B8.out.trans (b10.mono B8.out.size))
    clear b10
    go_wp2_with fail
    go_ret
    exact ⟨rfl, B10.out⟩
  · rw [decide_eq_false hq] at e2
    obtain ⟨rfl, rfl⟩ := G4.out hq
    clear hq
    have e3 : (sb.toList == sb.toList) = true := by simp
    have e4 : (ob == ob) = true := by cases ob <;> rfl
    go_wp2_with fail
    with_reducible refine (known_any w9).mono ?_
    rintro e w10 ⟨rfl, b10⟩
    have B10 := Lib.hid (B8.out.trans (b10.mono B8.out.size))
    clear b10
    go_wp2_with fail
    go_ret
    exact ⟨rfl, B10.out⟩
end Go.Proofs.YtaallpfkgcndmaaDoor.Pm
