/-
  The contracts of decimal of package number and of notation of its reference.
-/
import Derived.Test.YtpehlihbpmcofaaDoorNuDec
namespace Go.Proofs.YtpehlihbpmcofaaDoor.Nu
open Go.RowKit

/-- The decimal digits of a number, as a string. -/
def itS (n : Int) : ByteArray := ⟨(Lib.itoa n).toArray⟩
theorem itS_list (n : Int) : (itS n).data.toList = Lib.itoa n := rfl
theorem itoa_nat (u : Nat) : Lib.itoa (u : Int) = Lib.decDigits u := by unfold Lib.itoa; rw [if_neg (by omega), Int.toNat_natCast]
theorem itS_size {n : Int} (h : n.natAbs ≤ 4611686018427387904) : 1 ≤ (itS n).size ∧ (itS n).size ≤ 20 := by
  have e : (itS n).size = (Lib.itoa n).length := rfl
  rw [e]
  unfold Lib.itoa
  split
  · have := dec_len19 h; simp; omega
  · have := dec_len19 (u := n.toNat) (by omega); have := dec_len_pos n.toNat; omega
theorem Itoa_s (n : Int) (w : World) (h : n.natAbs ≤ 4611686018427387904) (ht : Tb w) : Calls Tryd.prog 63 #[.int .i64 n] w fun e w' => e = .returned (.string (itS n)) ∧ Below w.heap.size w w' := Itoa_any n w h ht
theorem RItoa_s (n : Int) (w : World) (h : n.natAbs ≤ 4611686018427387904) : Calls Tryd.prog 64 #[.int .i64 n] w fun e w' => e = .returned (.string (itS n)) ∧ Below w.heap.size w w' := RItoa_any n w h
def notaS (n d : Int) (k : Nat) : ByteArray := ⟨(nota n d k).toArray⟩
def vv (n d : Int) (k : Nat) : Nat := n.natAbs * (10 ^ k / d.toNat)
theorem itS_ext {a b : ByteArray} (h : a.data.toList = b.data.toList) : a = b := by apply ByteArray.ext; apply Array.ext'; exact h
theorem app_list (a b : ByteArray) : (a ++ b).data.toList = a.data.toList ++ b.data.toList := by simp
/-- The pieces that the program writes. -/
theorem body_zero (v : Nat) : itS (v : Int) = ⟨(body v 0).toArray⟩ := by
  apply itS_ext; rw [itS_list, itoa_nat]; simp [body]
theorem body_more (v k : Nat) (hk : 1 ≤ k) (q : ByteArray) (hq : q.data.toList = digs k (v % 10 ^ k)) : itS ((v / 10 ^ k : Nat) : Int) ++ (⟨#[46]⟩ ++ q) = ⟨(body v k).toArray⟩ := by
  apply itS_ext
  rw [app_list, app_list, itS_list, itoa_nat, hq]
  simp [body, show k ≠ 0 by omega]
theorem tail_one (v k : Nat) : ((itS (((10 ^ k + v % 10 ^ k : Nat)) : Int)).extract 1 (itS (((10 ^ k + v % 10 ^ k : Nat)) : Int)).size).data.toList = digs k (v % 10 ^ k) := by
  rw [Lib.extract_to_end, itS_list, itoa_nat, dec_one k _ (Nat.mod_lt _ (Nat.pow_pos (by decide)))]; rfl
theorem size_q5 (n : Int) (w : World) (h : n.natAbs ≤ 1000000000) : Calls Tryd.prog 54 #[.int .i64 n] w fun e w' => e = .returned (.int .i64 (n.natAbs : Int)) ∧ ∃ k, w' = w.drewN k :=
  (size_any n w (by omega) (by omega)).mono fun _ _ ⟨he, hw⟩ => ⟨he, 0, hw.symm⟩
theorem sizeN {w w1 : World} {A : Obj} {n : Nat} (hb : Below ((w.alloc A).drewN n).heap.size ((w.alloc A).drewN n) w1) : w.heap.size < w1.heap.size := by
  have := hb.size; simp at this; omega
/-- What the walk is to know of the numbers in between. -/
structure Mid (n d : Int) (k : Nat) (v : Nat) : Prop where
  P : pw k = ((10 ^ k : Nat) : Int)
  q0 : 0 ≤ pw k / d
  mul : (n.natAbs : Int) * (pw k / d) = (v : Int)
  le : v ≤ 1000000000000000000
theorem mid_of {n d : Int} {k : Nat} (hk : k ≤ 9) (h : okB n d = true) : Mid n d k (vv n d k) := by
  have hO := okB_iff.1 h
  have h1 := hO.n1; have h2 := hO.n2; have h3 := hO.d1
  obtain ⟨p1, p2⟩ := pw_bd hk
  have hq : pw k / d = ((10 ^ k / d.toNat : Nat) : Int) := by
    rw [pw_nat, Int.natCast_ediv, Int.toNat_of_nonneg (show 0 ≤ d by omega)]
  refine ⟨pw_nat k, Int.ediv_nonneg (by omega) (by omega), ?_, ?_⟩
  · rw [hq]; unfold vv; rw [Int.natCast_mul]
  · unfold vv
    have e2 : 10 ^ k ≤ 10 ^ 9 := Nat.pow_le_pow_right (by decide) hk
    have e1 : 10 ^ k / d.toNat ≤ 1000000000 := Nat.le_trans (Nat.div_le_self _ _) e2
    exact Nat.mul_le_mul (show n.natAbs ≤ 1000000000 by omega) e1
set_option maxRecDepth 100000 in
set_option maxHeartbeats 2000000 in
theorem decimal_any (n d : Int) (k : Nat) (w : World) (hk : k ≤ 9) (h : okB n d = true) (ht : Tb w) :
    Calls Tryd.prog 61 #[.agg #[.int .i64 n, .int .i64 d], .int .i64 (k : Int)] w fun e w' => e = .returned (.string (notaS n d k)) ∧ Below w.heap.size w w' := by
  have hM := mid_of hk h
  have hO := okB_iff.1 h
  have h1 := hO.n1; have h2 := hO.n2; have h3 := hO.d1
  obtain ⟨p1, p2⟩ := pw_bd hk
  have hN : notaS n d k = ⟨(nota n d k).toArray⟩ := rfl
  have hN2 : nota n d k = (if n < 0 then [45] else []) ++ body (vv n d k) k := rfl
  obtain ⟨v, hv⟩ : ∃ v, v = vv n d k := ⟨_, rfl⟩
  rw [← hv] at hM hN2
  have v1 := hM.le; have q0 := hM.q0; have em := hM.mul
  have hd0 : (d == 0) = false := by rw [beq_eq_false_iff_ne]; omega
  have hp0 : (pw k == 0) = false := by rw [beq_eq_false_iff_ne]; omega
  have e0 : IntKind.i64.wrap (v : Int) = (v : Int) := IntWalk.i64_in _ (by omega)
  have qv0 : 0 ≤ (v : Int) / pw k := Int.ediv_nonneg (by omega) (by omega)
  have qv1 : (v : Int) / pw k ≤ (v : Int) := Int.ediv_le_self _ (by omega)
  have rv0 : 0 ≤ (v : Int) % pw k := Int.emod_nonneg _ (by omega)
  have rv1 : (v : Int) % pw k < pw k := Int.emod_lt_of_pos _ (by omega)
  have z1 := itS_size (n := (v : Int) / pw k) (by omega)
  have z2 := itS_size (n := pw k + (v : Int) % pw k) (by omega)
  obtain ⟨z10, z11⟩ := z1
  obtain ⟨z20, z21⟩ := z2
  have HQ := Lib.hid (show (v : Int) / pw k = ((v / 10 ^ k : Nat) : Int) by rw [hM.P, Int.natCast_ediv])
  have HR := Lib.hid (show pw k + (v : Int) % pw k = ((10 ^ k + v % 10 ^ k : Nat) : Int) by rw [hM.P, Int.natCast_add, Int.natCast_emod])
  have HN := Lib.hid hN; have HN2 := Lib.hid hN2
  clear hM hO hN hN2 hv h
  by_cases hk0 : k = 0
  · subst hk0
    have hkd : decide (0 < (0 : Int)) = false := rfl
    by_cases hn : n < 0
    · go_enter Tryd.func61, Tryd.ntmps61
      go_wp2_with fail
      refine (power_any 0 _ hk).mono ?_
      rintro e w2 ⟨rfl, rfl⟩
      go_wp2
      go_quiet ((go_at_call 54; exact (Calls.quiet_of (size_q5 n _ (by omega)))))
      go_wp2_with fail
      refine (Itoa_s ((v : Int) / pw 0) _ (by omega) (ht.below (below_drewN ((Below.refl _ _).alloc (Nat.le_refl _) _) _))).mono ?_
      rintro e w1 ⟨rfl, hb⟩
      obtain ⟨hc, hf⟩ := bcellN hb
      have hB0 := below_drewN ((Below.refl w.heap.size w).alloc (Nat.le_refl _) (.cells #[.int .i64 n, .int .i64 d] 23)) nq
      have HB := Lib.hid (hB0.trans (hb.mono hB0.size))
      clear hB0
      go_wp2
      go_ret
      exact ⟨ret_str (by rw [HN.out, HN2.out, if_pos hn, HQ.out, Nat.pow_zero, Nat.div_one, body_zero]; apply itS_ext; simp), HB.out⟩
    · have hnd : decide (n < 0) = false := by simpa using hn
      go_enter Tryd.func61, Tryd.ntmps61
      go_wp2_with fail
      refine (power_any 0 _ hk).mono ?_
      rintro e w2 ⟨rfl, rfl⟩
      go_wp2
      go_quiet ((go_at_call 54; exact (Calls.quiet_of (size_q5 n _ (by omega)))))
      go_wp2_with fail
      refine (Itoa_s ((v : Int) / pw 0) _ (by omega) (ht.below (below_drewN ((Below.refl _ _).alloc (Nat.le_refl _) _) _))).mono ?_
      rintro e w1 ⟨rfl, hb⟩
      obtain ⟨hc, hf⟩ := bcellN hb
      have hB0 := below_drewN ((Below.refl w.heap.size w).alloc (Nat.le_refl _) (.cells #[.int .i64 n, .int .i64 d] 23)) nq
      have HB := Lib.hid (hB0.trans (hb.mono hB0.size))
      clear hB0
      go_wp2
      go_ret
      exact ⟨ret_str (by rw [HN.out, HN2.out, if_neg (show ¬ n < 0 by omega), HQ.out, Nat.pow_zero, Nat.div_one, body_zero]; rfl), HB.out⟩
  · have hkd : decide (0 < (k : Int)) = true := by rw [decide_eq_true_iff]; omega
    have HK := Lib.hid (show 1 ≤ k by omega); clear hk0
    by_cases hn : n < 0
    · go_enter Tryd.func61, Tryd.ntmps61
      go_wp2_with fail
      refine (power_any k _ hk).mono ?_
      rintro e w2 ⟨rfl, rfl⟩
      go_wp2
      go_quiet ((go_at_call 54; exact (Calls.quiet_of (size_q5 n _ (by omega)))))
      go_wp2_with fail
      refine (Itoa_s ((v : Int) / pw k) _ (by omega) (ht.below (below_drewN ((Below.refl _ _).alloc (Nat.le_refl _) _) _))).mono ?_
      rintro e w1 ⟨rfl, hb⟩
      obtain ⟨hc, hf⟩ := bcellN hb
      have hB0 := below_drewN ((Below.refl w.heap.size w).alloc (Nat.le_refl _) (.cells #[.int .i64 n, .int .i64 d] 23)) nq
      have HB := Lib.hid (hB0.trans (hb.mono hB0.size))
      clear hB0
      have z0 := sizeN hb
      go_wp2_with fail
      refine (Itoa_s (pw k + (v : Int) % pw k) _ (by omega) (ht.below HB.out)).mono ?_
      rintro e w3 ⟨rfl, hb3⟩
      obtain ⟨hc3, hf3⟩ := bcell hb3
      have HB3 := Lib.hid (HB.out.trans (hb3.mono HB.out.size))
      go_wp2
      go_ret
      exact ⟨ret_str (by rw [HN.out, HN2.out, if_pos hn, HR.out, HQ.out, body_more v k HK.out _ (tail_one v k)]; apply itS_ext; simp), HB3.out⟩
    · have hnd : decide (n < 0) = false := by simpa using hn
      go_enter Tryd.func61, Tryd.ntmps61
      go_wp2_with fail
      refine (power_any k _ hk).mono ?_
      rintro e w2 ⟨rfl, rfl⟩
      go_wp2
      go_quiet ((go_at_call 54; exact (Calls.quiet_of (size_q5 n _ (by omega)))))
      go_wp2_with fail
      refine (Itoa_s ((v : Int) / pw k) _ (by omega) (ht.below (below_drewN ((Below.refl _ _).alloc (Nat.le_refl _) _) _))).mono ?_
      rintro e w1 ⟨rfl, hb⟩
      obtain ⟨hc, hf⟩ := bcellN hb
      have hB0 := below_drewN ((Below.refl w.heap.size w).alloc (Nat.le_refl _) (.cells #[.int .i64 n, .int .i64 d] 23)) nq
      have HB := Lib.hid (hB0.trans (hb.mono hB0.size))
      clear hB0
      have z0 := sizeN hb
      go_wp2_with fail
      refine (Itoa_s (pw k + (v : Int) % pw k) _ (by omega) (ht.below HB.out)).mono ?_
      rintro e w3 ⟨rfl, hb3⟩
      obtain ⟨hc3, hf3⟩ := bcell hb3
      have HB3 := Lib.hid (HB.out.trans (hb3.mono HB.out.size))
      go_wp2
      go_ret
      exact ⟨ret_str (by rw [HN.out, HN2.out, if_neg (show ¬ n < 0 by omega), HR.out, HQ.out, body_more v k HK.out _ (tail_one v k)]; rfl), HB3.out⟩
end Go.Proofs.YtpehlihbpmcofaaDoor.Nu
