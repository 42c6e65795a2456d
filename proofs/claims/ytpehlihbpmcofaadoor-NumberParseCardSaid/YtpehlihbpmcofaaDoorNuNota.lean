/-
  The contract of notation of the reference of chapter 6.
-/
import Derived.Test.YtpehlihbpmcofaaDoorNuDecimal
namespace Go.Proofs.YtpehlihbpmcofaaDoor.Nu
open Go.RowKit

/-- j zeros ahead of a string. -/
def zs (j : Nat) (s : ByteArray) : ByteArray := ⟨(List.replicate j 48 ++ s.data.toList).toArray⟩
theorem zs_zero (s : ByteArray) : zs 0 s = s := by apply itS_ext; simp [zs]
theorem zs_size (j : Nat) (s : ByteArray) : (zs j s).size = j + s.size := by
  have e : (zs j s).size = (List.replicate j (48 : UInt8) ++ s.data.toList).length := rfl
  rw [e, List.length_append, List.length_replicate]; rfl
theorem zs_succ (j : Nat) (s : ByteArray) : (⟨#[48]⟩ : ByteArray) ++ zs j s = zs (j + 1) s := by
  apply itS_ext; rw [app_list]; simp [zs, List.replicate_succ]
theorem rem_str (v k : Nat) (hk : 1 ≤ k) : (itS ((v % 10 ^ k : Nat) : Int)).size ≤ k ∧ (zs (k - (itS ((v % 10 ^ k : Nat) : Int)).size) (itS ((v % 10 ^ k : Nat) : Int))).data.toList = digs k (v % 10 ^ k) := by
  have hp := pad k (v % 10 ^ k) hk (Nat.mod_lt _ (Nat.pow_pos (by decide)))
  generalize v % 10 ^ k = m at hp ⊢
  have key : (itS (m : Int)).data.toList = Lib.decDigits m := by rw [itS_list, itoa_nat]
  have e : (itS (m : Int)).size = (Lib.decDigits m).length := by
    have e1 : (itS (m : Int)).size = (itS (m : Int)).data.toList.length := rfl
    rw [e1, key]
  rw [e]
  refine ⟨hp.1, ?_⟩
  rw [hp.2]
  show List.replicate _ 48 ++ (itS (m : Int)).data.toList = _
  rw [key]
theorem body_more2 (v k : Nat) (hk : 1 ≤ k) (q : ByteArray) (hq : q.data.toList = digs k (v % 10 ^ k)) : itS ((v / 10 ^ k : Nat) : Int) ++ ⟨#[46]⟩ ++ q = ⟨(body v k).toArray⟩ := by
  rw [← body_more v k hk q hq]
  apply itS_ext; simp
theorem Power_q (k : Nat) (w : World) (h : k ≤ 9) : Calls Tryd.prog 41 #[.int .i64 (k : Int)] w fun e w' => e = .returned (.int .i64 (pw k)) ∧ ∃ n, w' = w.drewN n :=
  (Power_any k w h).mono fun _ _ ⟨he, hw⟩ => ⟨he, 0, hw.symm⟩
theorem abs_q5 (n : Int) (w : World) (h : n.natAbs ≤ 1000000000) : Calls Tryd.prog 48 #[.int .i64 n] w fun e w' => e = .returned (.int .i64 (n.natAbs : Int)) ∧ ∃ k, w' = w.drewN k :=
  (abs_any n w (by omega) (by omega)).mono fun _ _ ⟨he, hw⟩ => ⟨he, 0, hw.symm⟩
set_option maxRecDepth 100000 in
set_option maxHeartbeats 2000000 in
theorem notation_any (n d : Int) (k : Nat) (w : World) (hk : k ≤ 9) (h : okB n d = true) :
    Calls Tryd.prog 62 #[.agg #[.int .i64 n, .int .i64 d], .int .i64 (k : Int)] w fun e w' => e = .returned (.string (notaS n d k)) ∧ Below w.heap.size w w' := by
  have hM := mid_of hk h
  have hO := okB_iff.1 h
  have h1 := hO.n1; have h2 := hO.n2; have h3 := hO.d1
  obtain ⟨p1, p2⟩ := pw_bd hk
  have hN : notaS n d k = ⟨(nota n d k).toArray⟩ := rfl
  have hN2 : nota n d k = (if n < 0 then [45] else []) ++ body (vv n d k) k := rfl
  obtain ⟨v, hv⟩ : ∃ v, v = vv n d k := ⟨_, rfl⟩
  rw [← hv] at hM hN2
  have v1 := hM.le; have q0 := hM.q0; have em := hM.mul
  have hd0 : (d == 0) = false := by rw [beq_eq_false_iff_ne]; omega
  have hp0 : (pw k == 0) = false := by rw [beq_eq_false_iff_ne]; omega
  have e0 : IntKind.i64.wrap (v : Int) = (v : Int) := IntWalk.i64_in _ (by omega)
  have qv0 : 0 ≤ (v : Int) / pw k := Int.ediv_nonneg (by omega) (by omega)
  have qv1 : (v : Int) / pw k ≤ (v : Int) := Int.ediv_le_self _ (by omega)
  have rv0 : 0 ≤ (v : Int) % pw k := Int.emod_nonneg _ (by omega)
  have rv1 : (v : Int) % pw k < pw k := Int.emod_lt_of_pos _ (by omega)
  have z1 := itS_size (n := (v : Int) / pw k) (by omega)
  have z2 := itS_size (n := (v : Int) % pw k) (by omega)
  obtain ⟨z10, z11⟩ := z1
  obtain ⟨z20, z21⟩ := z2
  have HQ := Lib.hid (show (v : Int) / pw k = ((v / 10 ^ k : Nat) : Int) by rw [hM.P, Int.natCast_ediv])
  have hr : (v : Int) % pw k = ((v % 10 ^ k : Nat) : Int) := by rw [hM.P, Int.natCast_emod]
  have HR := Lib.hid hr
  have HN := Lib.hid hN; have HN2 := Lib.hid hN2
  clear hr hM hO hN hN2 hv h
  by_cases hk0 : k = 0
  · subst hk0
    have hkd : decide (0 < (0 : Int)) = false := rfl
    by_cases hn : n < 0
    · go_enter Tryd.func62, Tryd.ntmps62
      go_wp2
      go_quiet ((first | (go_at_call 48; exact (Calls.quiet_of (abs_q5 n _ (by omega)))) | (go_at_call 41; exact (Calls.quiet_of (Power_q 0 _ hk)))))
      go_wp2_with fail
      refine (Power_any 0 _ hk).mono ?_
      rintro e w2 ⟨rfl, rfl⟩
      go_wp2_with fail
      refine (RItoa_s ((v : Int) / pw 0) _ (by omega)).mono ?_
      rintro e w1 ⟨rfl, hb⟩
      obtain ⟨hc, hf⟩ := bcellN hb
      have hB0 := below_drewN ((Below.refl w.heap.size w).alloc (Nat.le_refl _) (.cells #[.int .i64 n, .int .i64 d] 23)) nq
      have HB := Lib.hid (hB0.trans (hb.mono hB0.size))
      clear hB0
      go_wp2
      go_ret
      exact ⟨ret_str (by rw [HN.out, HN2.out, if_pos (show n < 0 by omega), HQ.out, Nat.pow_zero, Nat.div_one, body_zero]; apply itS_ext; simp), HB.out⟩
    · have hnd : decide (n < 0) = false := by simpa using hn
      go_enter Tryd.func62, Tryd.ntmps62
      go_wp2
      go_quiet ((first | (go_at_call 48; exact (Calls.quiet_of (abs_q5 n _ (by omega)))) | (go_at_call 41; exact (Calls.quiet_of (Power_q 0 _ hk)))))
      go_wp2_with fail
      refine (Power_any 0 _ hk).mono ?_
      rintro e w2 ⟨rfl, rfl⟩
      go_wp2_with fail
      refine (RItoa_s ((v : Int) / pw 0) _ (by omega)).mono ?_
      rintro e w1 ⟨rfl, hb⟩
      obtain ⟨hc, hf⟩ := bcellN hb
      have hB0 := below_drewN ((Below.refl w.heap.size w).alloc (Nat.le_refl _) (.cells #[.int .i64 n, .int .i64 d] 23)) nq
      have HB := Lib.hid (hB0.trans (hb.mono hB0.size))
      clear hB0
      go_wp2
      go_ret
      exact ⟨ret_str (by rw [HN.out, HN2.out, if_neg (show ¬ n < 0 by omega), HQ.out, Nat.pow_zero, Nat.div_one, body_zero]; rfl), HB.out⟩
  · have hkd : decide (0 < (k : Int)) = true := by rw [decide_eq_true_iff]; omega
    have HK := Lib.hid (show 1 ≤ k by omega); clear hk0
    by_cases hn : n < 0
    · go_enter Tryd.func62, Tryd.ntmps62
      go_wp2
      go_quiet ((first | (go_at_call 48; exact (Calls.quiet_of (abs_q5 n _ (by omega)))) | (go_at_call 41; exact (Calls.quiet_of (Power_q k _ hk)))))
      go_wp2_with fail
      refine (Power_any k _ hk).mono ?_
      rintro e w2 ⟨rfl, rfl⟩
      go_wp2_with fail
      refine (RItoa_s ((v : Int) / pw k) _ (by omega)).mono ?_
      rintro e w1 ⟨rfl, hb⟩
      obtain ⟨hc, hf⟩ := bcellN hb
      have hB0 := below_drewN ((Below.refl w.heap.size w).alloc (Nat.le_refl _) (.cells #[.int .i64 n, .int .i64 d] 23)) nq
      have HB := Lib.hid (hB0.trans (hb.mono hB0.size))
      clear hB0
      have z0 := sizeN hb
      go_wp2_with fail
      refine (Power_any k _ hk).mono ?_
      rintro e w2 ⟨rfl, rfl⟩
      go_wp2_with fail
      refine (RItoa_s ((v : Int) % pw k) _ (by omega)).mono ?_
      rintro e w3 ⟨rfl, hb3⟩
      obtain ⟨hc3, hf3⟩ := bcell hb3
      have HB3 := Lib.hid (HB.out.trans (hb3.mono HB.out.size))
      obtain ⟨S, HS⟩ : ∃ S : ByteArray, Hid (S = itS ((v : Int) % pw k)) := ⟨_, Lib.hid rfl⟩
      have hS1 : S.size ≤ k := by rw [HS.out, HR.out]; exact (rem_str v k HK.out).1
      have HZ0 : Hid ((zs (k - S.size) S).data.toList = digs k (v % 10 ^ k)) := Lib.hid (by rw [HS.out, HR.out]; exact (rem_str v k HK.out).2)
      rw [← HS.out] at z20 z21 ⊢
      go_wp2
      go_loop [7] (fun x => ∃ j : Nat, j + S.size ≤ k ∧ x = .string (zs j S)) (fun x => k - (match x with | .string s => s.size | _ => 0))
      case atStart => exact ⟨0, by omega, by rw [zs_zero]⟩
      case round =>
        obtain ⟨j, hj, rfl⟩ := hrel
        have hzs := zs_size j S
        by_cases hlt : j + S.size < k
        · have hl1 : decide ((zs j S).size < k) = true := by rw [hzs]; simpa using hlt
          have HS2 := Lib.hid (zs_succ j S)
          have hl2 : (zs j S).size ≤ 9 := by omega
          have hl3 : (zs j S).size < k := by omega
          clear hzs
          go_wp2
          go_round
          case rel => exact ⟨j + 1, by omega, by rw [HS2.out]⟩
          case measure => rw [HS2.out]; simp [zs_size]; omega
        · have hl1 : decide ((zs j S).size < k) = false := by rw [hzs]; simpa using hlt
          have hjk : j = k - S.size := by omega
          have hl2 : (zs j S).size ≤ 9 := by omega
          have HZ : Hid ((zs j S).data.toList = digs k (v % 10 ^ k)) := Lib.hid (by rw [hjk]; exact HZ0.out)
          clear hzs hjk
          go_wp2
          go_ret
          exact ⟨ret_str (by rw [HN.out, HN2.out, if_pos (show n < 0 by omega), HQ.out, body_more2 v k HK.out _ HZ.out]; apply itS_ext; simp), HB3.out⟩
    · have hnd : decide (n < 0) = false := by simpa using hn
      go_enter Tryd.func62, Tryd.ntmps62
      go_wp2
      go_quiet ((first | (go_at_call 48; exact (Calls.quiet_of (abs_q5 n _ (by omega)))) | (go_at_call 41; exact (Calls.quiet_of (Power_q k _ hk)))))
      go_wp2_with fail
      refine (Power_any k _ hk).mono ?_
      rintro e w2 ⟨rfl, rfl⟩
      go_wp2_with fail
      refine (RItoa_s ((v : Int) / pw k) _ (by omega)).mono ?_
      rintro e w1 ⟨rfl, hb⟩
      obtain ⟨hc, hf⟩ := bcellN hb
      have hB0 := below_drewN ((Below.refl w.heap.size w).alloc (Nat.le_refl _) (.cells #[.int .i64 n, .int .i64 d] 23)) nq
      have HB := Lib.hid (hB0.trans (hb.mono hB0.size))
      clear hB0
      have z0 := sizeN hb
      go_wp2_with fail
      refine (Power_any k _ hk).mono ?_
      rintro e w2 ⟨rfl, rfl⟩
      go_wp2_with fail
      refine (RItoa_s ((v : Int) % pw k) _ (by omega)).mono ?_
      rintro e w3 ⟨rfl, hb3⟩
      obtain ⟨hc3, hf3⟩ := bcell hb3
      have HB3 := Lib.hid (HB.out.trans (hb3.mono HB.out.size))
      obtain ⟨S, HS⟩ : ∃ S : ByteArray, Hid (S = itS ((v : Int) % pw k)) := ⟨_, Lib.hid rfl⟩
      have hS1 : S.size ≤ k := by rw [HS.out, HR.out]; exact (rem_str v k HK.out).1
      have HZ0 : Hid ((zs (k - S.size) S).data.toList = digs k (v % 10 ^ k)) := Lib.hid (by rw [HS.out, HR.out]; exact (rem_str v k HK.out).2)
      rw [← HS.out] at z20 z21 ⊢
      go_wp2
      go_loop [7] (fun x => ∃ j : Nat, j + S.size ≤ k ∧ x = .string (zs j S)) (fun x => k - (match x with | .string s => s.size | _ => 0))
      case atStart => exact ⟨0, by omega, by rw [zs_zero]⟩
      case round =>
        obtain ⟨j, hj, rfl⟩ := hrel
        have hzs := zs_size j S
        by_cases hlt : j + S.size < k
        · have hl1 : decide ((zs j S).size < k) = true := by rw [hzs]; simpa using hlt
          have HS2 := Lib.hid (zs_succ j S)
          have hl2 : (zs j S).size ≤ 9 := by omega
          have hl3 : (zs j S).size < k := by omega
          clear hzs
          go_wp2
          go_round
          case rel => exact ⟨j + 1, by omega, by rw [HS2.out]⟩
          case measure => rw [HS2.out]; simp [zs_size]; omega
        · have hl1 : decide ((zs j S).size < k) = false := by rw [hzs]; simpa using hlt
          have hjk : j = k - S.size := by omega
          have hl2 : (zs j S).size ≤ 9 := by omega
          have HZ : Hid ((zs j S).data.toList = digs k (v % 10 ^ k)) := Lib.hid (by rw [hjk]; exact HZ0.out)
          clear hzs hjk
          go_wp2
          go_ret
          exact ⟨ret_str (by rw [HN.out, HN2.out, if_neg (show ¬ n < 0 by omega), HQ.out, body_more2 v k HK.out _ HZ.out]; rfl), HB3.out⟩
end Go.Proofs.YtpehlihbpmcofaaDoor.Nu
