/-
  The contracts of Find and Count of package strfunc.
-/
import Derived.Test.YtihhejeciagdpaaSfSlice
import Derived.Test.YtihhejeciagdpaaSfQuiet
namespace Go.Proofs.Ytihhejeciagdpaa.Sf
open Go.RowKit Go.Shelf
attribute [local go_sem] Oper.semAt_some
set_option linter.unusedVariables false
attribute [local simp] asked_wide asked_round wide_fn round_fn

theorem four (w : World) (a b c d e : Value) (ta tb tc td te : TypeId) : ∃ W0, ((((w.alloc (.cells #[a] ta)).alloc (.cells #[b] tb)).alloc (.cells #[c] tc)).alloc (.cells #[d] td)).alloc (.cells #[e] te) = W0 ∧ w.heap.size + 4 < W0.heap.size ∧ Below w.heap.size w W0 ∧
    W0.cell? ⟨w.heap.size, 0, none⟩ = some a ∧ W0.cell? ⟨w.heap.size + 1, 0, none⟩ = some b ∧ W0.cell? ⟨w.heap.size + 1 + 1, 0, none⟩ = some c ∧ W0.cell? ⟨w.heap.size + 1 + 1 + 1, 0, none⟩ = some d ∧ W0.frozen? ⟨w.heap.size + 1 + 1 + 1, 0, none⟩ = false ∧ W0.cell? ⟨w.heap.size + 1 + 1 + 1 + 1, 0, none⟩ = some e := by
  have n1 := newCell w a ta
  have n2 := newCell (w.alloc (.cells #[a] ta)) b tb
  have n3 := newCell ((w.alloc (.cells #[a] ta)).alloc (.cells #[b] tb)) c tc
  have n4 := newCell (((w.alloc (.cells #[a] ta)).alloc (.cells #[b] tb)).alloc (.cells #[c] tc)) d td
  have n5 := newCell ((((w.alloc (.cells #[a] ta)).alloc (.cells #[b] tb)).alloc (.cells #[c] tc)).alloc (.cells #[d] td)) e te
  simp only [World.size_alloc] at n2 n3 n4 n5
  exact ⟨_, rfl, by simp, (((((Below.refl _ w).alloc (Nat.le_refl _) _).alloc (by simp) _).alloc (by simp; omega) _).alloc (by simp; omega) _).alloc (by simp; omega) _, oldCell _ (oldCell _ (oldCell _ (oldCell _ n1.1))), oldCell _ (oldCell _ (oldCell _ n2.1)), oldCell _ (oldCell _ n3.1), oldCell _ n4.1, oldFrozen _ n4.1 n4.2, n5.1⟩
theorem posl_get (s : ByteArray) (i : Nat) (h : i ≤ rc s) : (posl s)[i]? = some (ag s i, i) := by
  unfold posl
  rw [List.getElem?_zipIdx, al_get, if_pos h]; simp
theorem posl_none (s : ByteArray) (i : Nat) (h : rc s < i) : (posl s)[i]? = none := List.getElem?_eq_none (by rw [posl_len]; omega)
theorem posl_prefix {s : ByteArray} {pre : List Ps} {x : Ps} (h : pre ++ [x] <+: posl s) : pre.length ≤ rc s ∧ x = (ag s pre.length, pre.length) ∧ ∀ j, j < pre.length → (ag s j, j) ∈ pre := by
  obtain ⟨r, hr⟩ := h
  have hl : pre.length ≤ rc s := by
    have := congrArg List.length hr
    rw [posl_len] at this
    simp at this; omega
  refine ⟨hl, ?_, fun j hj => ?_⟩
  · have := posl_get s pre.length hl
    rw [← hr] at this
    simpa using this
  · have := posl_get s j (by omega)
    rw [← hr, List.append_assoc, List.getElem?_append_left hj] at this
    exact List.mem_of_getElem? this
set_option maxRecDepth 100000 in
set_option maxHeartbeats 2000000 in
theorem Find_any (s t : ByteArray) (f : Int) (w : World) (hs : s.size ≤ 4294967281) (ht : t.size ≤ 4294967281) :
    Calls Try.prog 18 #[.string s, .string t, .int .i64 f] w fun e w' => e = .returned (.int .i64 (fnd s t f)) ∧ Below w.heap.size w w' := by
  refine (callsIn_wide (n := 3)).1 ?_
  refine callsIn_of_wp_marks Try.func18 rfl trivial ?_ rfl
  simp only [Try.ntmps18, List.size_toArray, List.length_cons, List.length_nil, Nat.reduceAdd, Nat.reduceSub, Array.replicate_succ, Array.replicate_zero, List.push_toArray, List.append_toArray, List.nil_append, List.cons_append]
  gi_wp2_with (gi_at_call 36; refine (callsIn_wide.2 (positions_any _ _)).mono ?_; rintro e w' ⟨rfl, rfl⟩)
  obtain ⟨W0, hW0, hz, hB0, c0, c1, c2, c3, f3, c4⟩ := four w (.string s) (.string t) (.int .i64 f) (.int .i64 0) (.string s) 9 9 3 3 9
  rw [hW0]
  clear hW0
  refine wpIn_rangeFunc_ownF rfl (by omega) (gf := 47) (lb := #[.pointer (some ⟨w.heap.size + 1 + 1 + 1 + 1, 0, none⟩)]) rfl trivial (enters_of Try.func47 (by kernel_rfl) rfl)
    (pos_seq s (w.heap.size + 1 + 1 + 1 + 1) _ hs (by omega) c4) (fun h k => Kp.t h k) (Kp.b (by omega) (by omega)) (Below.refl _ _) (fun _ => rfl)
    (fun pre W => ((W.cell? ⟨w.heap.size, 0, none⟩ = some (.string s) ∧ W.cell? ⟨w.heap.size + 1, 0, none⟩ = some (.string t) ∧ W.cell? ⟨w.heap.size + 1 + 1, 0, none⟩ = some (.int .i64 f) ∧ W.cell? ⟨w.heap.size + 1 + 1 + 1, 0, none⟩ = some (.int .i64 0) ∧ W.frozen? ⟨w.heap.size + 1 + 1 + 1, 0, none⟩ = false) ∧ ∀ x, x ∈ pre → f ≤ (x.2 : Int) → hasP s t (min x.1 s.size) = false) ∧ Below w.heap.size w W)
    (fun c pre W => ((c = .ret ∧ ∃ pre' x, pre = pre' ++ [x] ∧ (f ≤ (x.2 : Int) ∧ hasP s t (min x.1 s.size) = true ∧ ∀ x, x ∈ pre' → f ≤ (x.2 : Int) → hasP s t (min x.1 s.size) = false) ∧ W.cell? ⟨w.heap.size + 1 + 1 + 1, 0, none⟩ = some (.int .i64 (x.2 : Int)))) ∧ Below w.heap.size w W)
    (OwnFrom.and (Own.from (fun s A B row hs hg hr => ⟨⟨cell_kept hs.1.1 hg hr, cell_kept hs.1.2.1 hg hr, cell_kept hs.1.2.2.1 hg hr, cell_kept hs.1.2.2.2.1 hg hr, (frozen_kept hs.1.2.2.2.1 hg hr).trans hs.1.2.2.2.2⟩, hs.2⟩) _) (ownFrom_below (Nat.le_refl _) (by omega)))
    (fun c => OwnFrom.and (Own.from (fun s A B row hs hg hr => ⟨hs.1, by obtain ⟨p, x, h1, h2, h3⟩ := hs.2; exact ⟨p, x, h1, h2, cell_kept h3 hg hr⟩⟩) _) (ownFrom_below (Nat.le_refl _) (by omega)))
    ⟨⟨⟨c0, c1, c2, c3, f3⟩, fun x hx => by cases hx⟩, hB0⟩
    (fun x => { tmps := #[.string s, .string t, .int .i64 f, .pointer (some ⟨w.heap.size, 0, none⟩), .pointer (some ⟨w.heap.size + 1, 0, none⟩), .pointer (some ⟨w.heap.size + 1 + 1, 0, none⟩), .pointer (some ⟨w.heap.size + 1 + 1 + 1, 0, none⟩),
      .int .i64 (x.2 : Int), .int .i64 ((min x.1 s.size : Nat) : Int), .string s, .func (.func 47) #[] #[.pointer (some ⟨w.heap.size + 1 + 1 + 1 + 1, 0, none⟩)], .int .i64 (x.2 : Int), .int .i64 ((min x.1 s.size : Nat) : Int), undef, undef, undef, undef, undef, undef, undef, undef, undef, undef, undef], defers := [] }) ?assign ?body ?done ?stop
  case assign =>
    intro l x W K hK
    gi_wp2
    exact hK
  case body =>
    rintro l pre ⟨a, i⟩ W ⟨⟨⟨d0, d1, d2, d3, g3⟩, hn⟩, hB⟩ hlen
    dsimp only
    have hall : ∀ b : Bool, hasP s t (min a s.size) = b → b = false ∨ ¬ f ≤ (i : Int) → ∀ x, x ∈ pre ++ [(a, i)] → f ≤ (x.2 : Int) → hasP s t (min x.1 s.size) = false := by
      intro b hb hor x hx hfx
      rcases List.mem_append.1 hx with hx | hx
      · exact hn x hx hfx
      · rw [List.mem_singleton.1 hx] at hfx ⊢
        rcases hor with h | h
        · rw [hb, h]
        · exact absurd hfx h
    have HA := Lib.hid hall
    have HN := Lib.hid hn
    clear hall hn
    have hmle : min a s.size ≤ s.size := Nat.min_le_right _ _
    obtain ⟨m, hm⟩ : ∃ m, min a s.size = m := ⟨_, rfl⟩
    have HM := Lib.hid hm
    rw [hm] at hmle HA ⊢
    clear hm
    have hfin : ∀ n, f > (i : Int) ∨ hasP s t m = false → KeepsOthers W (W.drewN n) ∧ Kp (w.heap.size + 1 + 1 + 1 + 1) (w.heap.size + 1 + 1 + 1 + 1) W (W.drewN n) ∧ (((W.drewN n).cell? ⟨w.heap.size, 0, none⟩ = some (.string s) ∧ (W.drewN n).cell? ⟨w.heap.size + 1, 0, none⟩ = some (.string t) ∧ (W.drewN n).cell? ⟨w.heap.size + 1 + 1, 0, none⟩ = some (.int .i64 f) ∧ (W.drewN n).cell? ⟨w.heap.size + 1 + 1 + 1, 0, none⟩ = some (.int .i64 0) ∧ (W.drewN n).frozen? ⟨w.heap.size + 1 + 1 + 1, 0, none⟩ = false) ∧ ∀ x, x ∈ pre ++ [(a, i)] → f ≤ (x.2 : Int) → hasP s t (min x.1 s.size) = false) ∧ Below w.heap.size w (W.drewN n) :=
      fun n ho => ⟨keeps_of (below_drewN (Below.refl _ _) n), ⟨(keeps_of (below_drewN (Below.refl _ _) n)).walks, rfl, rfl⟩, ⟨⟨d0, d1, d2, d3, g3⟩, by
        refine HA.out (hasP s t m) rfl ?_
        rcases ho with h | h
        · exact .inr (by omega)
        · exact .inl h⟩, below_drewN hB n⟩
    have HF := fun n ho => Lib.hid (hfin n ho)
    clear hfin
    by_cases hfi : f ≤ (i : Int)
    · have e1 : decide (f ≤ (i : Int)) = true := decide_eq_true hfi
      by_cases hp : hasP s t m = true
      · gi_wp2
        refine wq_round (by kernel_rfl) (by kernel_rfl) (by kernel_rfl) ?_
        repeat (gi_big_quiet_step (first | (gi_at_call 30; refine CallsIn.quiet_of_same (CallsIn.inRound l (callsIn_wide.2 (hasP_any s t m _))))))
        refine wpQuietIn_nil ?_
        rintro _ ⟨nq, rfl⟩
        have d3' : (W.drewN nq).cell? ⟨w.heap.size + 1 + 1 + 1, 0, none⟩ = some (.int .i64 0) := d3
        have g3' : (W.drewN nq).frozen? ⟨w.heap.size + 1 + 1 + 1, 0, none⟩ = false := g3
        have hB' := below_drewN hB nq
        have hk := keeps_of (below_drewN (Below.refl W.heap.size W) nq)
        generalize W.drewN nq = V at d3' g3' hB' hk
        gi_wp2
        exact ⟨hk.trans (KeepsOthers.setCell _ _ _), ⟨rfl, pre, (a, i), rfl, ⟨hfi, by rw [HM.out]; exact hp, HN.out⟩, World.cell?_setCell_same' _ _ _ (by rw [d3']; rfl)⟩, hB'.setCell (p := ⟨w.heap.size + 1 + 1 + 1, 0, none⟩) (by show w.heap.size ≤ w.heap.size + 1 + 1 + 1; omega) _⟩
      · have hp2 : hasP s t m = false := Bool.eq_false_iff.2 hp
        clear hp
        gi_wp2
        refine wq_round (by kernel_rfl) (by kernel_rfl) (by kernel_rfl) ?_
        repeat (gi_big_quiet_step (first | (gi_at_call 30; refine CallsIn.quiet_of_same (CallsIn.inRound l (callsIn_wide.2 (hasP_any s t m _))))))
        refine wpQuietIn_nil ?_
        rintro _ ⟨nq, rfl⟩
        gi_wp2
        exact (HF nq (.inr hp2)).out
    · have e1 : decide (f ≤ (i : Int)) = false := decide_eq_false hfi
      gi_wp2
      refine wq_round (by kernel_rfl) (by kernel_rfl) (by kernel_rfl) ?_
      repeat (gi_big_quiet_step (fail))
      refine wpQuietIn_nil ?_
      rintro _ ⟨nq, rfl⟩
      gi_wp2
      exact (HF nq (.inl (by omega))).out
  case done =>
    rintro D ys W hD hS ⟨⟨⟨d0, d1, d2, d3, g3⟩, hn⟩, hB⟩ hK
    have hv : fnd s t f = -1 := fnd_none (fun j hj hfj => by
      have := hn (ag s j, j) (by rw [hS]; exact posl_mem.2 ⟨hj, rfl⟩) hfj
      rwa [Nat.min_eq_left (ag_le s j)] at this)
    have HV := Lib.hid hv
    clear hv
    gi_wp2
    refine ⟨by simp, .inl ⟨_, _, rfl, run_takeDeferred (def_set hK), ?_⟩⟩
    have hc5 := def_cell (def_set (p := ⟨w.heap.size + 1 + 1 + 1, 0, none⟩) (v := .int .i64 (-1)) hK) (World.cell?_setCell_same W ⟨w.heap.size + 1 + 1 + 1, 0, none⟩ (.int .i64 (-1)) d3)
    refine ⟨.int .i64 (-1), ?_, by rw [HV.out], fin_below (B := W0.heap.size) (hB.setCell (p := ⟨w.heap.size + 1 + 1 + 1, 0, none⟩) (by show w.heap.size ≤ w.heap.size + 1 + 1 + 1; omega) _) hD (by omega) (def_set hK)⟩
    simp [results, Try.f18, go_sem, hc5]
  case stop =>
    rintro D c pre W hD hSp ⟨⟨rfl, pre', x, rfl, ⟨h1, h2, h3⟩, d1⟩, hB⟩ hK
    obtain ⟨hl, rfl, hj⟩ := posl_prefix hSp
    dsimp only at h1 h2 d1
    have hv : fnd s t f = (pre'.length : Nat) := by
      refine fnd_some hl h1 (by rwa [Nat.min_eq_left (ag_le s _)] at h2) (fun j hj1 hj2 => ?_)
      have := h3 _ (hj j hj1) hj2
      rwa [Nat.min_eq_left (ag_le s j)] at this
    have HV := Lib.hid hv
    clear hv h1 h2 h3 hj
    gi_wp2
    refine ⟨by simp, .inl ⟨_, _, rfl, run_takeDeferred hK, ?_⟩⟩
    have hc5 := def_cell hK d1
    refine ⟨.int .i64 (pre'.length : Int), ?_, by rw [HV.out], fin_below (B := W0.heap.size) hB hD (by omega) hK⟩
    simp [results, Try.f18, go_sem, hc5]
end Go.Proofs.Ytihhejeciagdpaa.Sf
