/-
  The law on powers (P8.2).
-/
import Derived.Test.YtfocokjihbenmaaDoorFoPowP
import Derived.Test.YtfocokjihbenmaaDoorFoLaw
namespace Go.Proofs.YtfocokjihbenmaaDoor.Fo
open Go.RowKit Go.Proofs.YtfocokjihbenmaaDoor.Nu
set_option linter.unusedVariables false
set_option linter.unusedSimpArgs false

theorem and_63 (n : Int) : 0 ≤ bits .and .i64 n 63 ∧ bits .and .i64 n 63 ≤ 63 := by
  have h2 : (BitVec.ofInt 64 63).toNat = 63 := by decide
  have h3 : (BitVec.ofInt 64 n).toNat &&& 63 ≤ 63 := Nat.and_le_right
  have e : bits .and .i64 n 63 = IntKind.i64.wrap ((BitVec.ofInt 64 n &&& BitVec.ofInt 64 63).toNat : Int) := rfl
  rw [e, BitVec.toNat_and, h2, IntKind.wrap_i64]
  omega
theorem EvPw (s : ByteArray) (L : List UInt8) (h : s.data.toList = L) (n d x : Int) (hv : ev L = ⟨n, d, x⟩) (w : World) (ht : Tb w) : Calls Tryd.prog 8 #[.string s] w fun e w' => e = .returned (.tuple #[.agg #[.int .i64 n, .int .i64 d], .int .i64 x]) ∧ Below w.heap.size w w' := by
  have h2 := Eval_any s w ht
  rw [h, hv] at h2
  exact h2
theorem tmod_bd10 (n : Int) : (n.tmod 10).natAbs ≤ 9 := by
  have := Int.natAbs_tmod n 10
  rw [this]
  have h2 : n.natAbs % (Int.natAbs 10) < Int.natAbs 10 := Nat.mod_lt _ (by decide)
  have h3 : Int.natAbs 10 = 10 := rfl
  omega
theorem pw_out {a n : Int} (h : pwOk a n = true) (ho : n < 0 ∨ 30 < n) : ∃ u v, ev (pwT a n) = ⟨u, v, 2⟩ := by
  unfold pwOk at h
  simp only [if_pos ho, decide_eq_true_eq] at h
  generalize ev (pwT a n) = r at h
  obtain ⟨u, v, e⟩ := r
  exact ⟨u, v, by simp at h; rw [h]⟩
theorem pw_in {a n : Int} (h : pwOk a n = true) (h0 : ¬ (n < 0 ∨ 30 < n)) :
    (1000000000 < want a n.toNat 1 ∨ want a n.toNat 1 < -1000000000) ∧ (∃ u v, ev (pwT a n) = ⟨u, v, 15⟩) ∨ (-1000000000 ≤ want a n.toNat 1 ∧ want a n.toNat 1 ≤ 1000000000) ∧ ev (pwT a n) = ⟨want a n.toNat 1, 1, 0⟩ := by
  unfold pwOk at h
  simp only [if_neg h0] at h
  generalize ev (pwT a n) = r at h ⊢
  obtain ⟨u, v, e⟩ := r
  by_cases hw : 1000000000 < want a n.toNat 1 ∨ want a n.toNat 1 < -1000000000
  · rw [if_pos hw] at h
    simp at h
    exact .inl ⟨hw, u, v, by rw [h]⟩
  · rw [if_neg hw] at h
    simp at h
    exact .inr ⟨by omega, by rw [h.1, h.2.1, h.2.2]⟩
theorem want_stop {a : Int} {k : Nat} {x : Int} (h : k = 0 ∨ 1000000000 < x ∨ x < -1000000000) : want a k x = x := by
  cases k with
  | zero => rfl
  | succ k => unfold want; rw [if_neg (by omega)]
theorem want_go {a : Int} {k : Nat} {x : Int} (h : -1000000000 ≤ x ∧ x ≤ 1000000000) : want a (k + 1) x = want a k (x * a) := by
  rw [want, if_pos h]
theorem mul_bd {a x : Int} (ha : a.natAbs ≤ 9) (hx : -1000000000 ≤ x ∧ x ≤ 1000000000) : -9000000000 ≤ x * a ∧ x * a ≤ 9000000000 := by
  have h1 : (x * a).natAbs ≤ 1000000000 * 9 := by
    rw [Int.natAbs_mul]
    exact Nat.mul_le_mul (by omega) ha
  omega
set_option maxRecDepth 100000 in
set_option maxHeartbeats 4000000 in
theorem FormulaPowers_any (a b : Int) (w : World) (ht : Tb w) : Calls Tryd.prog 7 #[.int .i64 a, .int .i64 b] w fun e w' => e = .returned (.bool true) ∧ Below w.heap.size w w' := by
  obtain ⟨i, hi⟩ : ∃ i, a.tmod 10 = i := ⟨_, rfl⟩
  have hi2 : i.natAbs ≤ 9 := by rw [← hi]; exact tmod_bd10 a
  obtain ⟨k0, k63⟩ := and_63 b
  have HDi := Lib.hid (digits_any i (by omega))
  have HT := Lib.hid ht
  clear ht
  obtain ⟨j, hj⟩ : ∃ j : Int, bits .and .i64 b 63 = j := ⟨_, rfl⟩
  rw [hj] at k0 k63
  have HO := Lib.hid (pw_ok (a := i) (n := j - 16) hi2 (by omega) (by omega))
  have HDj := Lib.hid (digits_any (j - 16) (by omega))
  have hli := dg_len i (by omega)
  have hlj := dg_len (j - 16) (by omega)
  by_cases hout : j - 16 < 0 ∨ 30 < j - 16
  · obtain ⟨u, v, HV⟩ := pw_out HO.out hout
    have HV := Lib.hid HV
    unfold pwT at HV
    generalize dg i = x at HV HDi hli
    generalize dg (j - 16) = y at HV HDj hlj
    have eqr := eq_num
    rcases hout with h | h
    · have hd : decide (j - 16 < 0) = true := decide_eq_true h
      clear h HO
      go_enter Tryd.func7, Tryd.ntmps7
      go_wp2_with fail
      (with_reducible refine (HDi.out _).mono ?_)
      rintro e w1 ⟨rfl, hb1⟩
      have HB1 := Lib.hid hb1; clear hb1
      go_wp2_with fail
      (with_reducible refine (HDj.out _).mono ?_)
      rintro e w2 ⟨rfl, hb2⟩
      have HB2 := Lib.hid (HB1.out.trans (hb2.mono HB1.out.size)); clear hb2
      go_wp2_with fail
      refine (EvPw _ (x ++ [32, 94, 32] ++ y) (by simp) u v 2 HV.out _ (HT.out.below HB2.out)).mono ?_
      rintro e w3 ⟨rfl, hb3⟩
      have HB3 := Lib.hid (HB2.out.trans (hb3.mono HB2.out.size)); clear hb3
      have HA3 := Lib.hid (HB3.out.alloc HB3.out.size (nb1 u v))
      have HK := Lib.hid (known_any (w3.alloc (nb1 u v)) (HT.out.below HA3.out))
      unfold nb1 at HK
      go_wp2_with fail
      refine HK.out.mono ?_
      rintro e w6 ⟨rfl, hb6⟩
      go_wp2
      go_ret
      exact ⟨rfl, HA3.out.trans (hb6.mono HA3.out.size)⟩
    · have hd : decide (j - 16 < 0) = false := by rw [decide_eq_false_iff_not]; omega
      have hd2 : decide (j - 16 > 30) = true := by rw [decide_eq_true_iff]; omega
      clear h HO
      go_enter Tryd.func7, Tryd.ntmps7
      go_wp2_with fail
      (with_reducible refine (HDi.out _).mono ?_)
      rintro e w1 ⟨rfl, hb1⟩
      have HB1 := Lib.hid hb1; clear hb1
      go_wp2_with fail
      (with_reducible refine (HDj.out _).mono ?_)
      rintro e w2 ⟨rfl, hb2⟩
      have HB2 := Lib.hid (HB1.out.trans (hb2.mono HB1.out.size)); clear hb2
      go_wp2_with fail
      refine (EvPw _ (x ++ [32, 94, 32] ++ y) (by simp) u v 2 HV.out _ (HT.out.below HB2.out)).mono ?_
      rintro e w3 ⟨rfl, hb3⟩
      have HB3 := Lib.hid (HB2.out.trans (hb3.mono HB2.out.size)); clear hb3
      have HA3 := Lib.hid (HB3.out.alloc HB3.out.size (nb1 u v))
      have HK := Lib.hid (known_any (w3.alloc (nb1 u v)) (HT.out.below HA3.out))
      unfold nb1 at HK
      go_wp2_with fail
      refine HK.out.mono ?_
      rintro e w6 ⟨rfl, hb6⟩
      go_wp2
      go_ret
      exact ⟨rfl, HA3.out.trans (hb6.mono HA3.out.size)⟩
  · obtain ⟨N, hN⟩ : ∃ N : Nat, (j - 16).toNat = N := ⟨_, rfl⟩
    have HNj : Hid (j - 16 = (N : Int)) := Lib.hid (by omega)
    have hNb : N ≤ 47 := by omega
    have hI := pw_in HO.out hout
    have hd : decide (j - 16 < 0) = false := by rw [decide_eq_false_iff_not]; omega
    have hd2 : decide (j - 16 > 30) = false := by rw [decide_eq_false_iff_not]; omega
    rw [hN] at hI
    clear hout HO hN
    obtain ⟨u, v, z, hV⟩ : ∃ u v z, ev (pwT i (j - 16)) = ⟨u, v, z⟩ := ⟨_, _, _, rfl⟩
    rw [hV] at hI
    have HV := Lib.hid hV; clear hV
    unfold pwT at HV
    generalize dg i = x at HV HDi hli
    generalize dg (j - 16) = y at HV HDj hlj
    have eqr := eq_num
    obtain ⟨F, hF⟩ : ∃ F, want i N 1 = F := ⟨_, rfl⟩
    rw [hF] at hI
    have HF := Lib.hid hF; clear hF
    have HI := Lib.hid hI; clear hI
    have HI2 := Lib.hid hi2
    clear hi2
    go_enter Tryd.func7, Tryd.ntmps7
    go_wp2_with fail
    (with_reducible refine (HDi.out _).mono ?_)
    rintro e w1 ⟨rfl, hb1⟩
    have HB1 := Lib.hid hb1; clear hb1
    go_wp2_with fail
    (with_reducible refine (HDj.out _).mono ?_)
    rintro e w2 ⟨rfl, hb2⟩
    have HB2 := Lib.hid (HB1.out.trans (hb2.mono HB1.out.size)); clear hb2
    go_wp2_with fail
    refine (EvPw _ (x ++ [32, 94, 32] ++ y) (by simp) u v z HV.out _ (HT.out.below HB2.out)).mono ?_
    rintro e w3 ⟨rfl, hb3⟩
    have HB3 := Lib.hid (HB2.out.trans (hb3.mono HB2.out.size)); clear hb3
    have HA3 := Lib.hid (HB3.out.alloc HB3.out.size (nb1 u v))
    have HK := Lib.hid (known_any (w3.alloc (nb1 u v)) (HT.out.below HA3.out))
    have hAt := nhh w3 (nb1 u v)
    have HC := Lib.hid (cc2 hAt)
    have HL := Lib.hid (lth hAt)
    clear hAt
    unfold nb1 at HK HA3 HC HL
    go_wp2_with fail
    generalize (w3.alloc (.cells #[.int .i64 u, .int .i64 v] 23)) = W at *
    go_loopw [7, 8] (fun wv iv wr => ∃ (k : Nat) (q : Int), iv = .int .i64 k ∧ wv = .int .i64 q ∧ k ≤ N ∧ -9000000000 ≤ q ∧ q ≤ 9000000000 ∧ Hid (want i (N - k) q = F) ∧ Hid (wr = W)) (fun _ iv _ => N - (intOf iv).toNat)
    case atStart => exact ⟨0, 1, rfl, rfl, Nat.zero_le _, by omega, by omega, Lib.hid HF.out, Lib.hid rfl⟩
    case round =>
      obtain ⟨k, q, rfl, rfl, hk, q1, q2, hq, hw⟩ := hrel
      have hw' := hw.out
      subst hw'
      by_cases hgo : k < N ∧ -1000000000 ≤ q ∧ q ≤ 1000000000
      · have d1 : decide ((k : Int) < j - 16) = true := by rw [decide_eq_true_iff, HNj.out]; omega
        have d2 : decide (q ≤ 1000000000) = true := by rw [decide_eq_true_iff]; omega
        have d3 : decide (q ≥ -1000000000) = true := by rw [decide_eq_true_iff]; omega
        have hq2 := hq.out
        obtain ⟨m, hm⟩ : ∃ m, N - k = m + 1 := ⟨N - k - 1, by omega⟩
        rw [hm, want_go hgo.2] at hq2
        have hm2 : N - (k + 1) = m := by omega
        rw [← hm2] at hq2
        have HQ := Lib.hid hq2
        obtain ⟨m1, m2⟩ := mul_bd HI2.out hgo.2
        have HG := Lib.hid hgo
        clear hgo hq hq2 hm hm2
        go_wp2_with fail
        go_roundw
        case rel => exact ⟨k + 1, q * i, by simp, rfl, by have := HG.out; omega, m1, m2, HQ, Lib.hid (by first | rfl | trivial)⟩
        case measure => have := HG.out; simp [intOf]; omega
      · have hst : F = q := by
          rw [← hq.out]
          exact want_stop (by omega)
        subst hst
        obtain ⟨c0, c1⟩ := HC.out
        have hlt := HL.out
        have HG := Lib.hid hgo
        clear hgo hq
        rcases HI.out with ⟨hbig, u2, v2, h2⟩ | ⟨hsm, h2⟩
        · injection h2 with h3 h4 h5
          subst h3; subst h4; subst h5
          have HBig := Lib.hid hbig; clear hbig HI
          by_cases p1 : k < N
          · have d1 : decide ((k : Int) < j - 16) = true := by rw [decide_eq_true_iff, HNj.out]; omega
            by_cases p2 : F ≤ 1000000000
            · have d2 : decide (F ≤ 1000000000) = true := by rw [decide_eq_true_iff]; omega
              have d3 : decide (F ≥ -1000000000) = false := by rw [decide_eq_false_iff_not]; have := HBig.out; omega
              have d4 : decide (F > 1000000000) = false := by rw [decide_eq_false_iff_not]; omega
              have d5 : decide (F < -1000000000) = true := by rw [decide_eq_true_iff]; have := HBig.out; omega
              clear p1 p2
              go_wp2_with fail
              refine HK.out.mono ?_
              rintro e w6 ⟨rfl, hb6⟩
              go_wp2
              go_ret
              exact ⟨rfl, HA3.out.trans (hb6.mono HA3.out.size)⟩
            · have d2 : decide (F ≤ 1000000000) = false := by rw [decide_eq_false_iff_not]; omega
              have d4 : decide (F > 1000000000) = true := by rw [decide_eq_true_iff]; omega
              clear p1 p2
              go_wp2_with fail
              refine HK.out.mono ?_
              rintro e w6 ⟨rfl, hb6⟩
              go_wp2
              go_ret
              exact ⟨rfl, HA3.out.trans (hb6.mono HA3.out.size)⟩
          · have d1 : decide ((k : Int) < j - 16) = false := by rw [decide_eq_false_iff_not, HNj.out]; omega
            by_cases p2 : F ≤ 1000000000
            · have d4 : decide (F > 1000000000) = false := by rw [decide_eq_false_iff_not]; omega
              have d5 : decide (F < -1000000000) = true := by rw [decide_eq_true_iff]; have := HBig.out; omega
              clear p1 p2
              go_wp2_with fail
              refine HK.out.mono ?_
              rintro e w6 ⟨rfl, hb6⟩
              go_wp2
              go_ret
              exact ⟨rfl, HA3.out.trans (hb6.mono HA3.out.size)⟩
            · have d4 : decide (F > 1000000000) = true := by rw [decide_eq_true_iff]; omega
              clear p1 p2
              go_wp2_with fail
              refine HK.out.mono ?_
              rintro e w6 ⟨rfl, hb6⟩
              go_wp2
              go_ret
              exact ⟨rfl, HA3.out.trans (hb6.mono HA3.out.size)⟩
        · injection h2 with h3 h4 h5
          subst h3; subst h4; subst h5
          have p1 : ¬ k < N := fun h => HG.out ⟨h, hsm⟩
          have d1 : decide ((k : Int) < j - 16) = false := by rw [decide_eq_false_iff_not, HNj.out]; omega
          have d4 : decide (u > 1000000000) = false := by rw [decide_eq_false_iff_not]; omega
          have d5 : decide (u < -1000000000) = false := by rw [decide_eq_false_iff_not]; omega
          have he : eqN u 1 u 1 = true := by simp [eqN]
          clear p1 hsm HI
          go_wp2_with fail
          refine HK.out.mono ?_
          rintro e w6 ⟨rfl, hb6⟩
          go_wp2
          go_ret
          exact ⟨rfl, HA3.out.trans (hb6.mono HA3.out.size)⟩
end Go.Proofs.YtfocokjihbenmaaDoor.Fo
