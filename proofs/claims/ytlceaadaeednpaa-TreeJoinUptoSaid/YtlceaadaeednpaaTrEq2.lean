/-
  The contracts of package tree's equalNodes and Equal.
-/
import Derived.Test.YtlceaadaeednpaaTrEq
namespace Go.Proofs.Ytlceaadaeednpaa.Tr
open Go.RowKit

theorem ba_list {a b : ByteArray} (h : a.toList = b.toList) : a = b := by
  rw [ByteArray.toList_eq, ByteArray.toList_eq] at h
  exact ba_ext h rfl

set_option maxHeartbeats 4000000 in
theorem equalNodes_step (d : Nat) (hL : EqL d) (hF : EqAF d) : EqN d := by
  intro B a b l m w h1 h2 hB
  obtain ⟨n1, v1, rfl, z1, _, _, r1, r2⟩ := h1
  obtain ⟨n2, v2, rfl, z2, _, _, q1, q2⟩ := h2
  obtain ⟨A1, c1, rfl⟩ := r1.form
  obtain ⟨A2, c2, rfl⟩ := ARd.form r2
  obtain ⟨A3, c3, rfl⟩ := q1.form
  obtain ⟨A4, c4, rfl⟩ := ARd.form q2
  cases l with | mk k1 t1 s1 ks1 as1 => cases m with | mk k2 t2 s2 ks2 as2 =>
  simp only [Nd.kind, Nd.tag, Nd.text, Nd.kids, Nd.args] at *
  have HV := Lib.hid (And.intro (And.intro r1 r2) (And.intro q1 q2)); clear r1 r2 q1 q2 z1 z2
  have T0 := Lib.hid (two_below w (Obj.cells #[Value.int .i64 k1, Value.int .i64 t1, Value.string s1, Value.slice A1 ks1.length c1, Value.slice A2 as1.length c2] 31) (Obj.cells #[Value.int .i64 k2, Value.int .i64 t2, Value.string s2, Value.slice A3 ks2.length c3, Value.slice A4 as2.length c4] 31))
  by_cases hk : k1 = k2
  case neg =>
    have HN : Hid (eqB (Nd.mk k1 t1 s1 ks1 as1) (Nd.mk k2 t2 s2 ks2 as2) = false) := Lib.hid (eqB_false (fun e => hk (by injection e)))
    have hk' : (k1 == k2) = false := by simpa using hk
    go_enter Try.func17, Try.ntmps17
    go_wp2_with fail
    go_ret
    exact ⟨ret_bool HN.out.symm, T0.out⟩
  by_cases ht : t1 = t2
  case neg =>
    have HN : Hid (eqB (Nd.mk k1 t1 s1 ks1 as1) (Nd.mk k2 t2 s2 ks2 as2) = false) := Lib.hid (eqB_false (fun e => ht (by injection e)))
    have ht' : (t1 == t2) = false := by simpa using ht
    subst hk
    go_enter Try.func17, Try.ntmps17
    go_wp2_with fail
    go_ret
    exact ⟨ret_bool HN.out.symm, T0.out⟩
  by_cases hs : s1 = s2
  case neg =>
    have HN : Hid (eqB (Nd.mk k1 t1 s1 ks1 as1) (Nd.mk k2 t2 s2 ks2 as2) = false) := Lib.hid (eqB_false (fun e => hs (by injection e)))
    subst hk ht
    have hs' : (s1.toList == s2.toList) = false := by
      rw [beq_eq_false_iff_ne]
      intro e
      exact hs (ba_list e)
    have hs2 : ¬ s1.toList = s2.toList := fun e => hs (ba_list e)
    go_enter Try.func17, Try.ntmps17
    go_wp2_with fail
    go_ret
    exact ⟨ret_bool HN.out.symm, T0.out⟩
  subst hk ht hs
  go_enter Try.func17, Try.ntmps17
  go_wp2_with fail
  refine (hL B _ _ ks1 ks2 _ (HV.out.1.1.below T0.out hB (Nat.le_refl _)) (HV.out.2.1.below T0.out hB (Nat.le_refl _)) (Nat.le_trans hB T0.out.size)).mono ?_
  rintro e w1 ⟨rfl, hb⟩
  obtain ⟨q1, q2⟩ := two_keep hb
  have x1 : w1.cell? ⟨w.heap.size, 4, none⟩ = some (Value.slice A2 as1.length c2) := cell_heap q1 rfl
  have x2 : w1.cell? ⟨w.heap.size + 1, 4, none⟩ = some (Value.slice A4 as2.length c4) := cell_heap q2 rfl
  have T1 := Lib.hid (T0.out.trans (hb.mono T0.out.size))
  clear hb q1 q2
  cases hE : eqB ks1 ks2 with
  | false =>
    have HF := Lib.hid (eqB_no hE); clear hE
    go_wp2_with fail
    go_ret
    exact ⟨ret_bool (eqB_false (fun e => HF.out (by injection e))).symm, T1.out⟩
  | true =>
    have HF := Lib.hid (eqB_iff.1 hE); clear hE
    go_wp2_with fail
    refine (hF B _ _ as1 as2 _ (HV.out.1.2.below T1.out hB (Nat.le_refl _)) (HV.out.2.2.below T1.out hB (Nat.le_refl _)) (Nat.le_trans hB T1.out.size)).mono ?_
    rintro e w2 ⟨rfl, hb⟩
    have T2 := Lib.hid (T1.out.trans (hb.mono T1.out.size)); clear hb
    cases hE : eqB as1 as2 with
    | false =>
      have HF := Lib.hid (eqB_no hE); clear hE
      go_wp2_with fail
      go_ret
      exact ⟨ret_bool (eqB_false (fun e => HF.out (by injection e))).symm, T2.out⟩
    | true =>
      have HG := Lib.hid (eqB_iff.1 hE); clear hE
      go_wp2_with fail
      go_ret
      exact ⟨ret_bool (eqB_true (by rw [HF.out, HG.out])).symm, T2.out⟩

set_option maxHeartbeats 4000000 in
theorem Equal_step (d : Nat) (hN : EqNF d) : EqL d := by
  intro B a b l m w h1 h2 hB
  obtain ⟨A1, c1, rfl⟩ := h1.form
  obtain ⟨A2, c2, rfl⟩ := h2.form
  have H1 := Lib.hid h1; have H2 := Lib.hid h2; clear h1 h2
  go_enter Try.func7, Try.ntmps7
  go_wp2_with fail
  refine (hN B _ _ l m w H1.out H2.out hB).mono ?_
  rintro e w1 ⟨rfl, hb⟩
  go_wp2_with fail
  go_ret
  exact ⟨rfl, hb⟩
theorem equals : ∀ d, EqL d
  | 0 => fun _ _ _ _ _ _ h => h.elim
  | d + 1 => Equal_step (d + 1) (EqualFuncN_step d (equalNodes_step d (equals d) (EqualFuncA_step d (equalArgs_step d (equals d)))))
end Go.Proofs.Ytlceaadaeednpaa.Tr
