/-
  The law ParameterSorted, for every list of arguments.
-/
import Derived.Test.YtaallpfkgcndmaaDoorPmKnown
namespace Go.Proofs.YtaallpfkgcndmaaDoor.Pm
open Go.RowKit Go.Shelf
set_option linter.unusedVariables false
set_option linter.unusedSimpArgs false

theorem dw_id {p : UInt8 → Bool} : ∀ {l : List UInt8}, (∀ c ∈ l, p c = false) → l.dropWhile p = l
  | [], _ => rfl
  | c :: r, h => by rw [List.dropWhile_cons, h c List.mem_cons_self]; rfl
theorem tr_id {l : By} (h : ∀ c ∈ l, spc c = false) : tr l = l := by
  rw [tr_eq]; unfold trL trR
  rw [dw_id (l := l.reverse) (fun c hc => h c (List.mem_reverse.1 hc)), List.reverse_reverse, dw_id h]
theorem dig_spc (x : Nat) (h : x < 10) : spc (UInt8.ofNat (48 + x)) = false := by
  match x, h with
  | 0, _ => decide
  | 1, _ => decide
  | 2, _ => decide
  | 3, _ => decide
  | 4, _ => decide
  | 5, _ => decide
  | 6, _ => decide
  | 7, _ => decide
  | 8, _ => decide
  | 9, _ => decide
theorem dec_spc {k : Nat} (h : k < 100) : ∀ c ∈ dec k, spc c = false := by
  intro c hc
  unfold dec at hc
  by_cases h1 : k < 10
  · rw [dec_small h1, List.mem_singleton] at hc
    subst hc; exact dig_spc k h1
  · rw [dec_big (by omega), dec_small (by omega), List.mem_append, List.mem_singleton, List.mem_singleton] at hc
    rcases hc with rfl | rfl
    · exact dig_spc _ (by omega)
    · exact dig_spc _ (by omega)
theorem puts_trim : ∀ (l : List Val) (k : Nat), k + l.length < 100 → ∀ p ∈ puts dec tr k l, tr p.1 = p.1
  | [], _, _, p, hp => by cases hp
  | (true, n, t) :: r, k, h, p, hp => by
    rcases List.mem_cons.1 hp with rfl | hp
    · exact tr_idem n
    · exact puts_trim r k (by simp at h; omega) p hp
  | (false, n, t) :: r, k, h, p, hp => by
    simp only [List.length_cons] at h
    rcases List.mem_cons.1 hp with rfl | hp
    · exact tr_id (dec_spc (by omega))
    · exact puts_trim r (k + 1) (by omega) p hp
theorem foldl_all (q : By → Prop) : ∀ (l : List Bd) (a : List Bd), (∀ p ∈ a, q p.1) → (∀ p ∈ l, q p.1) → ∀ p ∈ l.foldl (fun a p => put p.1 p.2 a) a, q p.1
  | [], a, ha, _ => ha
  | x :: r, a, ha, hl => foldl_all q r _ (fun p hp => by
      rcases (mem_put x.1 x.2 p a).1 hp with rfl | ⟨hp, _⟩
      · exact hl x List.mem_cons_self
      · exact ha p hp) (fun p hp => hl p (List.mem_cons_of_mem _ hp))
theorem bind_trim {l : List Val} (h : l.length < 100) : ∀ p ∈ bind (puts dec tr 0 l), tr p.1 = p.1 :=
  foldl_all (fun n => tr n = n) _ [] (fun p hp => by cases hp) (puts_trim l 0 (by omega))
/-- What Bind's results are, for the law. -/
theorem puts_short : ∀ (l : List Val) (k : Nat), k + l.length < 100 → (∀ x ∈ l, x.2.1.length ≤ 100) → ∀ p ∈ puts dec tr k l, p.1.length ≤ 100
  | [], _, _, _, p, hp => by cases hp
  | (true, n, t) :: r, k, h, hs, p, hp => by
    rcases List.mem_cons.1 hp with rfl | hp
    · exact Nat.le_trans (tr_len n) (hs _ List.mem_cons_self)
    · exact puts_short r k (by simp at h; omega) (fun x hx => hs x (List.mem_cons_of_mem _ hx)) p hp
  | (false, n, t) :: r, k, h, hs, p, hp => by
    simp only [List.length_cons] at h
    rcases List.mem_cons.1 hp with rfl | hp
    · exact dec_len _ (by omega)
    · exact puts_short r (k + 1) (by omega) (fun x hx => hs x (List.mem_cons_of_mem _ hx)) p hp
theorem bind_res {l : List Val} (hs : Sm l) : ∃ (E : Int) (L : List Bd) (bb : Bool), (if 40 < l.length then (8 : Int) else 0) = E ∧ (if 40 < l.length then ([] : List Bd) else bind (puts dec tr 0 l)) = L ∧ (E == 0) = bb ∧ decide ((l.length : Int) ≤ 40) = bb ∧ L.length ≤ l.length ∧ Asc L ∧ (∀ p ∈ L, tr p.1 = p.1) ∧ ∀ p ∈ L, p.1.length ≤ 100 := by
  have hl := hs.len
  by_cases h : 40 < l.length
  · exact ⟨8, [], false, if_pos h, if_pos h, by decide, decide_eq_false (by omega), Nat.zero_le _, List.Pairwise.nil, (fun p hp => by cases hp), fun p hp => by cases hp⟩
  · exact ⟨0, bind (puts dec tr 0 l), true, if_neg h, if_neg h, by decide, decide_eq_true (by omega), by
      have h1 := len_bind (puts dec tr 0 l)
      rw [len_puts] at h1; exact h1, asc_bind _, bind_trim (by omega), foldl_all (fun n => n.length ≤ 100) _ [] (fun p hp => by cases hp) (puts_short l 0 (by omega) hs.name)⟩
theorem asc_at {l : List Bd} (h : Asc l) {k : Nat} (hk : k + 1 < l.length) : l[k].1 < l[k + 1].1 := List.pairwise_iff_getElem.1 h k (k + 1) (by omega) hk (by omega)
set_option maxRecDepth 100000 in
set_option maxHeartbeats 8000000 in
theorem ParameterSorted_any (v : Value) (l : List Val) (w : World) (hr : RdV w w.heap.size v l) :
    Calls Tryd.prog 4 #[v] w fun e w' => e = .returned (.bool true) ∧ Below w.heap.size w w' := by
  have HR := Lib.hid hr
  obtain ⟨A1, c1, hv1, _, m1, _⟩ := hr.ex
  unfold maxLen at m1
  clear hr
  subst hv1
  go_enter Tryd.func4, Tryd.ntmps4
  go_wp2_with fail
  with_reducible refine (large_any _ l w HR.out).mono ?_
  rintro e w1 ⟨b, rfl, hS, rfl⟩
  cases b with
  | true =>
    go_wp2_with fail
    with_reducible refine (known_any w1).mono ?_
    rintro e w2 ⟨rfl, b2⟩
    go_wp2
    go_ret
    exact ⟨rfl, b2⟩
  | false =>
    have hs := hS rfl
    clear hS
    have HB := Lib.hid (Bind_any _ l w1 HR.out hs)
    obtain ⟨E, L, bb, hE, hL, hb1, hb2, hll, hasc, htrim⟩ := bind_res hs
    have hbb : (bb != bb) = false := by cases bb <;> rfl
    have HE := Lib.hid hE; have HL := Lib.hid hL
    have HAT := Lib.hid (And.intro hasc htrim)
    have hd1 : decide ((l.length : Int) < (L.length : Int)) = false := decide_eq_false (by omega)
    have hln := hs.len
    clear hE hL hasc htrim
    go_wp2_with fail
    with_reducible refine HB.out.mono ?_
    rintro e w2 ⟨v2, rfl, o2, b2⟩
    rw [HE.out]
    rw [HL.out] at o2
    have HN := Lib.hid (Names_any v2 L w2 o2.rd (by omega))
    have O2 := Lib.hid (And.intro o2 b2)
    obtain ⟨A2, c2, hv2, _⟩ := o2.rd.ex
    subst hv2
    clear o2 b2 HB
    go_wp2_with fail
    with_reducible refine HN.out.mono ?_
    rintro e w3 ⟨v3, rfl, o3, b3⟩
    have R2 := Lib.hid (O2.out.1.rd.up b3).ex
    have R3 := Lib.hid o3.rd.ex
    have B3 := Lib.hid (O2.out.2.trans (b3.mono O2.out.2.size))
    obtain ⟨A2', c2', hv2', l2, m2, r2⟩ := R2.out
    obtain ⟨A3, c3, hv3, l3, m3, r3⟩ := R3.out
    rw [List.length_map] at hv3 l3 r3
    unfold maxLen at m2 m3
    cases hv2'
    subst hv3
    have S2 := Lib.hid r2; have S3 := Lib.hid r3
    clear r2 r3 R2 R3 b3 o3 O2 HN
    go_wp2_with fail
    go_loopw [6] (fun i wr => ∃ (k nq : Nat), k ≤ L.length ∧ i = .int .i64 k ∧ Hid (wr = w3.drewN nq)) (fun i _ => L.length - (intOf i).toNat)
    case atStart => exact ⟨0, 0, Nat.zero_le _, rfl, Lib.hid rfl⟩
    case round =>
      obtain ⟨k, m0, hk, rfl, hw⟩ := hrel
      by_cases hlt : k < L.length
      · obtain ⟨g2, o2, rfl, hg2, q2⟩ := S2.out (by omega)
        obtain ⟨g3, o3, rfl, hg3, q3⟩ := S3.out (by omega)
        have hki : (k : Int) < (L.length : Int) := by omega
        have x2 := q2 k L[k] (List.getElem?_eq_getElem hlt) 0 _ rfl
        have x3 := q3 k _ (take_map hlt) 0 _ rfl
        have HTR := Lib.hid (HAT.out.2.1 L[k] (List.getElem_mem hlt))
        have hc : ∀ p, wr.cell? p = w3.cell? p := fun p => by rw [hw.out]; rfl
        simp only [Nat.add_zero, Nat.mul_one] at x2 x3
        have hnl : L[k].1.length ≤ 4294967281 := by
          have := HAT.out.2.2 L[k] (List.getElem_mem hlt)
          omega
        have HT : Hid (∀ w, Calls Tryd.prog 14 #[.string (bsl L[k].1)] w fun e w' => e = .returned (.string (bsl L[k].1)) ∧ w' = w) := Lib.hid (fun w => (RTrim_any (bsl L[k].1) w (by rw [bsl_size]; exact hnl)).mono fun e w' ⟨h1, h2⟩ => ⟨by rw [h1, bsl_list, HTR.out], h2⟩)
        by_cases h0 : k = 0
        · have d0 : decide (0 < k) = false := decide_eq_false (by omega)
          generalize L[k].1 = pn at x2 x3 HT
          rw [← hc] at x2 x3
          have hcmp := str_beq pn pn
          rw [decide_eq_true rfl] at hcmp
          clear q2 q3 hc hnl HTR h0
          go_wp2
          go_quiet ((go_at_call 14; refine (HT.out _).mono ?_; rintro e w' ⟨rfl, rfl⟩; exact ⟨rfl, _, rfl⟩))
          go_wp2
          go_roundw
          case rel => exact ⟨k + 1, m0 + nq, by omega, by go_num, Lib.hid (by rw [hw.out, World.drewN_drewN])⟩
          case measure => simp [intOf]; omega
        · have d0 : decide (0 < k) = true := decide_eq_true (by omega)
          have hk1 : k - 1 < L.length := by omega
          have y3 := q3 (k - 1) _ (take_map hk1) 0 _ rfl
          have hless : L[k - 1].1 < L[k].1 := by
            have := asc_at HAT.out.1 (k := k - 1) (by omega)
            simpa [show k - 1 + 1 = k by omega] using this
          simp only [Nat.add_zero, Nat.mul_one] at y3
          generalize L[k].1 = pn at x2 x3 HT hless
          generalize L[k - 1].1 = pm at y3 hless
          rw [← hc] at x2 x3 y3
          have p1 : (0 : Int) ≤ (k : Int) - 1 := by omega
          have p2 : ((k : Int) - 1).toNat = k - 1 := by omega
          have p3 : (k : Int) - 1 < (L.length : Int) := by omega
          have p4 : (k : Int) - 1 ≤ (L.length : Int) := by omega
          have p5 : IntKind.i64.wrap ((k : Int) - 1) = (k : Int) - 1 := IntWalk.i64_in _ (by omega)
          have hls := less_str pm pn
          rw [decide_eq_false (fun q => q hless)] at hls
          have hcmp := str_beq pn pn
          rw [decide_eq_true rfl] at hcmp
          clear q2 q3 hc hnl HTR h0 hless
          go_wp2
          go_quiet ((go_at_call 14; refine (HT.out _).mono ?_; rintro e w' ⟨rfl, rfl⟩; exact ⟨rfl, _, rfl⟩))
          go_wp2
          go_roundw
          case rel => exact ⟨k + 1, m0 + nq, by omega, by go_num, Lib.hid (by rw [hw.out, World.drewN_drewN])⟩
          case measure => simp [intOf]; omega
      · have Bw : Hid (Below w1.heap.size w1 wr) := Lib.hid (by rw [hw.out]; exact below_drewN B3.out m0)
        go_wp2_with fail
        with_reducible refine (known_any wr).mono ?_
        rintro e w5 ⟨rfl, b5⟩
        have B5 := Lib.hid (Bw.out.trans (b5.mono Bw.out.size))
        clear b5
        go_wp2
        go_ret
        exact ⟨rfl, B5.out⟩
end Go.Proofs.YtaallpfkgcndmaaDoor.Pm
