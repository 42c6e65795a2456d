/-
  The law NumberDigits returns true for all integers, in every world that holds the library's tables.
-/
import Derived.Test.YtgnhihgimeiphaaDoorNuParse
import Derived.Test.YtgnhihgimeiphaaDoorNuFormat
import Derived.Test.YtgnhihgimeiphaaDoorNuOf
import Derived.Test.YtgnhihgimeiphaaDoorNuNm2
namespace Go.Proofs.YtgnhihgimeiphaaDoor.Nu
open Go.RowKit
set_option linter.unusedVariables false

theorem cut_len : ∀ l : List UInt8, l.length ≤ (cut l).1.length + (cut l).2.1.length + 1
  | [] => Nat.zero_le _
  | b :: l => by
    have ih := cut_len l
    unfold cut
    split
    · simp
    · simp only [List.length_cons]; omega
theorem pbody_len {neg : Bool} {l : List UInt8} (h : (pbody neg l).d ≠ 0) : l.length ≤ 19 := by
  have hc := cut_len l
  by_cases hi : idB (cut l).1 (cut l).2.1 (cut l).2.2 = true
  · have := id_ok hi; omega
  · exact absurd (by unfold pbody; rw [if_neg hi]) h
theorem parse_len {l : List UInt8} (h : (parse l).d ≠ 0) : l.length ≤ 20 := by
  unfold parse at h
  split at h
  · have := pbody_len h; rw [List.length_drop] at this; omega
  · split at h
    · have := pbody_len h; rw [List.length_drop] at this; omega
    · have := pbody_len h; omega
theorem pw_six {k : Nat} (h : k ≤ 6) : 1 ≤ pw k ∧ pw k ≤ 1000000 := by
  have : k = 0 ∨ k = 1 ∨ k = 2 ∨ k = 3 ∨ k = 4 ∨ k = 5 ∨ k = 6 := by omega
  rcases this with rfl | rfl | rfl | rfl | rfl | rfl | rfl <;> decide
structure Dg (A : Int) (p : Nat) (n d : Int) : Prop where
  m : make A (pw p) = ⟨n, d, 0⟩
  f : parse (fmtS n d).data.toList = ⟨n, d, 0⟩
  fs : (fmtS n d).size ≤ 1000
  x : parse (fixS n d p).data.toList = ⟨n, d, 0⟩
  xs : (fixS n d p).size ≤ 1000
  e : (rnd n d p).e = 0
theorem dg {A : Int} (hA : A.natAbs < 1000000) {p : Nat} (hp : p ≤ 6) : ∃ n d, Dg A p n d := by
  obtain ⟨p1, p2⟩ := pw_six hp
  have hz : pw p ≠ 0 := by omega
  have he := fit_small (n := A) hz (by omega) (by omega) (by omega) (by omega)
  obtain ⟨hk, hq⟩ := fit_ok hz he
  have hm : make A (pw p) = fit A (pw p) := by
    unfold make inB
    rw [decide_eq_true (by omega), decide_eq_true (by omega), if_neg hz]
    rfl
  have hR : fit A (pw p) = ⟨(fit A (pw p)).n, (fit A (pw p)).d, 0⟩ := r3_eq he
  generalize (fit A (pw p)).n = n at *
  generalize (fit A (pw p)).d = d at *
  have hd1 := hk.d1
  have hdv : d ∣ pw p := by
    have h1 : d ∣ n * pw p := ⟨A, by rw [hq, Int.mul_comm]⟩
    have h2 := Int.natAbs_dvd_natAbs.2 h1
    rw [Int.natAbs_mul] at h2
    have hg : Nat.Coprime d.natAbs n.natAbs := by rw [Nat.coprime_comm]; exact hk.g
    exact Int.natAbs_dvd_natAbs.1 (hg.dvd_of_dvd_mul_left h2)
  have h0 : pw p % d = 0 := Int.emod_eq_zero_of_dvd hdv
  have hv : n.natAbs / d.toNat < 1000000000 := by
    have hn : n.natAbs * (pw p).natAbs = A.natAbs * d.natAbs := by rw [← Int.natAbs_mul, hq, Int.natAbs_mul]
    have hdn : d.natAbs = d.toNat := by omega
    have h1 : n.natAbs ≤ n.natAbs * (pw p).natAbs := Nat.le_mul_of_pos_right _ (by omega)
    have h2 : n.natAbs ≤ d.toNat * A.natAbs := by rw [hn, hdn, Nat.mul_comm] at h1; exact h1
    have := Nat.div_le_of_le_mul h2
    omega
  have F := fmt_back hk (p := p) (by omega) h0 hv
  have P := parse_back hk (k := p) (by omega) h0 hv
  have S := rnd_same hk (p := p) (by omega) h0
  have hfx : (fixS n d p).data.toList = nota n d p := by
    unfold fixS
    rw [S, if_pos rfl]
    rfl
  have hfm : (fmtS n d).data.toList = fmt n d := rfl
  refine ⟨n, d, by rw [hm, hR], by rw [hfm]; exact F, ?_, by rw [hfx]; exact P, ?_, by rw [S]⟩
  · rw [Lib.size_eq, hfm]
    have := parse_len (l := fmt n d) (by rw [F]; show d ≠ 0; omega)
    omega
  · rw [Lib.size_eq, hfx]
    have := parse_len (l := nota n d p) (by rw [P]; show d ≠ 0; omega)
    omega
theorem eqN_self (n d : Int) : eqN n d n d = true := by unfold eqN; rw [decide_eq_true_iff]; exact ⟨rfl, rfl⟩
theorem tm6 (a : Int) : (a.tmod 1000000).natAbs < 1000000 := by rw [Int.natAbs_tmod]; exact Nat.mod_lt _ (by decide)
set_option maxRecDepth 100000 in
set_option maxHeartbeats 4000000 in
theorem NumberDigits_any (a places : Int) (w : World) (ht : Tb w) : Calls Tryd.prog 8 #[.int .i64 a, .int .i64 places] w fun e w' => e = .returned (.bool true) ∧ Below w.heap.size w w' := by
  have h7 := i64_and7 places
  obtain ⟨q, hq⟩ : ∃ q : Nat, places % 8 = (q : Int) := ⟨(places % 8).toNat, by omega⟩
  have hq7 : q ≤ 7 := by omega
  rw [hq] at h7
  obtain ⟨p, hp⟩ : ∃ p : Nat, q % 7 = p := ⟨_, rfl⟩
  have hp6 : p ≤ 6 := by omega
  have hr : ((q : Int).tmod 7) = (p : Int) := by rw [Int.tmod_eq_emod_of_nonneg (by omega)]; omega
  have hr2 : IntKind.i64.wrap (p : Int) = (p : Int) := IntWalk.i64_in _ (by omega)
  have hA := tm6 a
  obtain ⟨A, eA⟩ : ∃ A, a.tmod 1000000 = A := ⟨_, rfl⟩
  rw [eA] at hA
  have hA2 : IntKind.i64.wrap A = A := IntWalk.i64_in _ (by omega)
  obtain ⟨n, d, D⟩ := dg hA hp6
  have CP := Lib.hid (fun w => Power_q2 p w (by omega))
  have CM := Lib.hid (fun w => Make_any A (pw p) w)
  rw [D.m] at CM
  have CF := Lib.hid (fun w ht => Format_any n d w ht)
  have CX := Lib.hid (fun w ht => Fixed_any n d p w ht)
  rw [D.e] at CX
  have C1 := Lib.hid (fun w ht => Parse_any (fmtS n d) w ht D.fs)
  rw [D.f] at C1
  have C2 := Lib.hid (fun w ht => Parse_any (fixS n d p) w ht D.xs)
  rw [D.x] at C2
  have HT := Lib.hid ht
  have eN := eq_num n d n d
  rw [eqN_self] at eN
  clear D hq hq7 hp hp6 hA ht
  go_enter Tryd.func8, Tryd.ntmps8
  go_wp2_with fail
  refine (CP.out _).mono ?_
  rintro e w' ⟨rfl, rfl⟩
  go_wp2_with fail
  refine (CM.out _).mono ?_
  rintro e w1 ⟨rfl, hb1⟩
  have HB1 := Lib.hid hb1
  clear hb1 CM
  go_wp2_with fail
  refine (CF.out _ (HT.out.below (bl_a1 HB1.out (box n d)))).mono ?_
  rintro e w2 ⟨rfl, hb2⟩
  have Fn : Nm w2 _ n d := new1_0 hb2
  have HB2 := Lib.hid (bl1 HB1.out hb2)
  clear hb2 CF
  go_wp2_with fail
  refine (C1.out _ (HT.out.below HB2.out)).mono ?_
  rintro e w3 ⟨rfl, hb3⟩
  have Fn := Fn.past0 hb3
  have HB3 := Lib.hid (bl0 HB2.out hb3)
  clear hb3 C1
  have cn0 := Fn.c0; have cn1 := Fn.c1; have cnl := Fn.lt
  go_wp2_with fail
  refine (CX.out _ (HT.out.below (bl_a1 HB3.out (box n d)))).mono ?_
  clear cn0 cn1 cnl
  rintro e w4 ⟨rfl, hb4⟩
  have Fn := Fn.past1 hb4
  have Fx : Nm w4 _ n d := new1_0 hb4
  have HB4 := Lib.hid (bl1 HB3.out hb4)
  clear hb4 CX
  go_wp2_with fail
  refine (C2.out _ (HT.out.below HB4.out)).mono ?_
  rintro e w5 ⟨rfl, hb5⟩
  have Fn := Fn.past0 hb5
  have Fx := Fx.past0 hb5
  have HB5 := Lib.hid (bl0 HB4.out hb5)
  clear hb5 C2
  have cn0 := Fn.c0; have cn1 := Fn.c1; have cnl := Fn.lt
  have cx0 := Fx.c0; have cx1 := Fx.c1; have cxl := Fx.lt
  go_wp2_with fail
  refine (known_any _ (HT.out.below (bl_a1 HB5.out (box n d)))).mono ?_
  clear cn0 cn1 cnl cx0 cx1 cxl
  rintro e w6 ⟨rfl, hb6⟩
  have HB6 := Lib.hid (bl1 HB5.out hb6)
  go_wp2
  go_ret
  exact ⟨rfl, HB6.out⟩
end Go.Proofs.YtgnhihgimeiphaaDoor.Nu
