/-
  The contract of Part of package strfunc.
-/
import Derived.Test.YtihhejeciagdpaaSfCount
namespace Go.Proofs.Ytihhejeciagdpaa.Sf
open Go.RowKit Go.Shelf
attribute [local go_sem] Oper.semAt_some
set_option linter.unusedVariables false
attribute [local simp] asked_wide asked_round wide_fn round_fn

theorem two (w : World) (a b : Value) (ta tb : TypeId) : ∃ W0, (w.alloc (.cells #[a] ta)).alloc (.cells #[b] tb) = W0 ∧ w.heap.size + 1 < W0.heap.size ∧ Below w.heap.size w W0 ∧
    W0.cell? ⟨w.heap.size, 0, none⟩ = some a ∧ W0.frozen? ⟨w.heap.size, 0, none⟩ = false ∧ W0.cell? ⟨w.heap.size + 1, 0, none⟩ = some b ∧ W0.frozen? ⟨w.heap.size + 1, 0, none⟩ = false := by
  have n1 := newCell w a ta
  have n2 := newCell (w.alloc (.cells #[a] ta)) b tb
  rw [World.size_alloc] at n2
  exact ⟨_, rfl, by simp, ((Below.refl _ w).alloc (Nat.le_refl _) _).alloc (by simp) _, oldCell _ n1.1, oldFrozen _ n1.1 n1.2, n2.1, n2.2⟩
theorem lt_cell {W : World} {p : Addr} {v : Value} (h : W.cell? p = some v) : p.block < W.heap.size := by
  rcases Nat.lt_or_ge p.block W.heap.size with h1 | h1
  · exact h1
  · unfold World.cell? at h
    rw [Array.getElem?_eq_none h1] at h
    simp at h
theorem pastCell {W V : World} {b : Nat} {v : Value} (hb : Below W.heap.size W V) (h : W.cell? ⟨b, 0, none⟩ = some v) : V.cell? ⟨b, 0, none⟩ = some v :=
  (hb.cell (p := ⟨b, 0, none⟩) (lt_cell h)).trans h
theorem pastFrozen {W V : World} {b : Nat} {v : Value} (hb : Below W.heap.size W V) (h : W.cell? ⟨b, 0, none⟩ = some v) (hf : W.frozen? ⟨b, 0, none⟩ = false) : V.frozen? ⟨b, 0, none⟩ = false :=
  (hb.frozen (p := ⟨b, 0, none⟩) (lt_cell h)).trans hf
theorem two_cells (w : World) (a b : Value) (ta tb : TypeId) : ((w.alloc (.cells #[a] ta)).alloc (.cells #[b] tb)).cell? ⟨w.heap.size, 0, none⟩ = some a ∧ ((w.alloc (.cells #[a] ta)).alloc (.cells #[b] tb)).cell? ⟨w.heap.size + 1, 0, none⟩ = some b := by
  have n1 := newCell w a ta
  have n2 := newCell (w.alloc (.cells #[a] ta)) b tb
  rw [World.size_alloc] at n2
  exact ⟨oldCell _ n1.1, n2.1⟩
/-- What stands behind a piece of code asks only of its normal end. -/
theorem cutR {P : Program} {n : Nat} {c : Code} {X : Exit → Act → World → Prop} {a : Act} {w : World} (R : Act → World → Prop) (h : c.wp P (fun e a w => match e with | .normal => R a w | _ => False) a w) (k : ∀ a w, R a w → X .normal a w) : c.wpIn Fence.wide n P X a w :=
  wpIn_wide.2 (Code.wp_mono (fun e a w hq => by cases e with | normal => exact k a w hq | _ => exact hq.elim) h)
def NoK (pre : List Pt) (k : Int) : Prop := ∀ x, x ∈ pre → (x.2 : Int) ≠ k
def YesK (s : ByteArray) (pre : List Pt) (k : Int) (W : World) (b : Nat) : Prop := ∃ x, x ∈ pre ∧ (x.2 : Int) = k ∧ W.cell? ⟨b, 0, none⟩ = some (.string (cl s x.1))
/-- The part's number. -/
def kx (s t : ByteArray) (i : Int) : Int := if i < 0 then i + (((occ s t).length + 1 : Nat) : Int) else i
theorem prt_mem {s t : ByteArray} {x : Pt} : x ∈ prt s t ↔ (parts s t)[x.2]? = some x.1 := by
  obtain ⟨b, i⟩ := x
  unfold prt
  rw [List.mem_zipIdx_iff_getElem?]
theorem part_yes {s t : ByteArray} {i : Int} {n : Nat} {b : ByteArray} (h : kx s t i = n) (hb : (parts s t)[n]? = some b) : part s t i = b := by
  unfold part
  show (if kx s t i < 0 then ByteArray.empty else (parts s t).getD (kx s t i).toNat ByteArray.empty) = b
  rw [h, if_neg (by omega), Int.toNat_natCast, List.getD, hb]; rfl
theorem part_no {s t : ByteArray} {i : Int} (h : ∀ (n : Nat) (b : ByteArray), (parts s t)[n]? = some b → (n : Int) ≠ kx s t i) : part s t i = ⟨#[]⟩ := by
  unfold part
  show (if kx s t i < 0 then ByteArray.empty else (parts s t).getD (kx s t i).toNat ByteArray.empty) = _
  split
  · rfl
  · rename_i h0
    cases hc : (parts s t)[(kx s t i).toNat]? with
    | none => rw [List.getD, hc]; rfl
    | some b => exact absurd (Int.toNat_of_nonneg (Int.not_lt.1 h0)) (h _ b hc)
theorem dv_ext {s t b : ByteArray} : ∀ {l : List Nat} {f : Nat}, b ∈ dv s t l f → ∃ a c, b = s.extract a c
  | [], f, h => ⟨_, _, List.mem_singleton.1 h⟩
  | a :: l, f, h => by
    rcases List.mem_cons.1 h with rfl | h
    · exact ⟨_, _, rfl⟩
    · exact dv_ext h
theorem cl_part {s t b : ByteArray} {n : Nat} (h : (parts s t)[n]? = some b) : cl s b = b := by
  obtain ⟨a, c, rfl⟩ := dv_ext (List.mem_of_getElem? h)
  exact cl_ext s a c
set_option maxRecDepth 100000 in
set_option maxHeartbeats 2000000 in
theorem Part_any (s t : ByteArray) (i : Int) (w : World) (hs : s.size ≤ 4294967281) (ht : t.size ≤ 4294967281) (hi : I64 i) :
    Calls Try.prog 31 #[.string s, .string t, .int .i64 i] w fun e w' => e = .returned (.string (part s t i)) ∧ Below w.heap.size w w' := by
  obtain ⟨hi1, hi2⟩ := hi
  have hol := occ_len s t
  have hw1 : IntKind.i64.wrap (((occ s t).length : Int) + 1) = ((occ s t).length : Int) + 1 := by rw [IntKind.wrap_i64]; omega
  have hmx : Try.prog.follows .mixedOrders = true := by kernel_rfl
  obtain ⟨W0, hW0, hz, hB0, c0, f0, c1, f1⟩ := two w (.int .i64 i) (.string ⟨#[]⟩) 3 9
  by_cases h : i < 0
  all_goals
    first
      | (have hw2 : IntKind.i64.wrap (i + (((occ s t).length : Int) + 1)) = i + (((occ s t).length : Int) + 1) := by rw [IntKind.wrap_i64]; omega)
      | (have hw2 : True := trivial)
    refine (callsIn_wide (n := 3)).1 ?_
    refine callsIn_of_wp_marks Try.func31 rfl trivial ?_ rfl
    simp only [Try.ntmps31, List.size_toArray, List.length_cons, List.length_nil, Nat.reduceAdd, Nat.reduceSub, Array.replicate_succ, Array.replicate_zero, List.push_toArray, List.append_toArray, List.nil_append, List.cons_append]
    gi_wp2
    try rw [hW0]
    clear hW0
  · have HKK : Hid (kx s t i = (i + (((occ s t).length : Int) + 1))) := Lib.hid (by unfold kx; rw [if_pos h]; rfl)
    refine cutR (fun a' w' => a' = { tmps := #[.string s, .string t, .int .i64 i, undef, undef, .pointer (some ⟨w.heap.size, 0, none⟩), .pointer (some ⟨w.heap.size + 1, 0, none⟩), undef, undef, .int .i64 i, .bool true, .int .i64 i, .string s, .string t, .int .i64 ((occ s t).length : Int), .int .i64 (((occ s t).length : Int) + 1), .int .i64 (i + (((occ s t).length : Int) + 1)), undef, undef, undef, undef, undef, undef, undef, undef, undef], defers := [] } ∧
      w'.cell? ⟨w.heap.size, 0, none⟩ = some (.int .i64 (i + (((occ s t).length : Int) + 1))) ∧ w'.cell? ⟨w.heap.size + 1, 0, none⟩ = some (.string ⟨#[]⟩) ∧ w'.frozen? ⟨w.heap.size + 1, 0, none⟩ = false ∧ Below w.heap.size w w' ∧ w.heap.size + 1 < w'.heap.size) ?_ ?_
    · go_region_with (go_at_call 20; refine (Count_any s t _ hs ht).mono ?_; rintro e V ⟨rfl, hb⟩; have cV := pastCell hb c0; have fV := pastFrozen hb c0 f0)
      all_goals
        refine ⟨rfl, World.cell?_setCell_same' _ _ _ (by rw [cV]; rfl), ?_, ?_, ?_, ?_⟩
        · rw [World.cell?_setCell_other _ _ _ _ (by simp)]; exact pastCell hb c1
        · rw [World.frozen?_setCell]; exact pastFrozen hb c1 f1
        · exact ((below_drewN hB0 1).trans (hb.mono hB0.size)).setCell (p := ⟨w.heap.size, 0, none⟩) (Nat.le_refl _) _
        · rw [World.size_setCell]; exact Nat.lt_of_lt_of_le hz hb.size
    rintro _ W1 ⟨rfl, p0, p1, p2, hB1, hz1⟩
    gi_wp2
    obtain ⟨q3, q4⟩ := two_cells W1 (.string s) (.string t) 9 9
    have q0 := oldCell (.cells #[.string t] 9) (oldCell (.cells #[.string s] 9) p0)
    have q1 := oldCell (.cells #[.string t] 9) (oldCell (.cells #[.string s] 9) p1)
    have q2 := oldFrozen (.cells #[.string t] 9) (oldCell (.cells #[.string s] 9) p1) (oldFrozen (.cells #[.string s] 9) p1 p2)
    have hsz : ((W1.alloc (.cells #[.string s] 9)).alloc (.cells #[.string t] 9)).heap.size = W1.heap.size + 2 := by simp
    have hB2 := (hB1.alloc hB1.size (.cells #[.string s] 9)).alloc (by rw [World.size_alloc]; have := hB1.size; omega) (.cells #[.string t] 9)
    clear hw1 hw2
    refine wpIn_rangeFunc_ownF rfl (by omega) (gf := 48) (lb := #[.pointer (some ⟨W1.heap.size, 0, none⟩), .pointer (some ⟨W1.heap.size + 1, 0, none⟩)]) rfl trivial (enters_of Try.func48 (by kernel_rfl) rfl)
      (prt_seq s t W1.heap.size (W1.heap.size + 1) _ hs (by omega) q3 ht (by omega) q4) (fun h k => Kp.t h k) (Kp.b (by omega) (by omega)) (Below.refl _ _) (fun _ => rfl)
      (fun pre W => ((W.cell? ⟨w.heap.size, 0, none⟩ = some (.int .i64 ((i + (((occ s t).length : Int) + 1)))) ∧ W.cell? ⟨w.heap.size + 1, 0, none⟩ = some (.string ⟨#[]⟩) ∧ W.frozen? ⟨w.heap.size + 1, 0, none⟩ = false) ∧ NoK pre ((i + (((occ s t).length : Int) + 1)))) ∧ Below w.heap.size w W)
      (fun c pre W => (c = .ret ∧ YesK s pre ((i + (((occ s t).length : Int) + 1))) W (w.heap.size + 1)) ∧ Below w.heap.size w W)
      (OwnFrom.and (Own.from (fun s A B row hs hg hr => ⟨⟨cell_kept hs.1.1 hg hr, cell_kept hs.1.2.1 hg hr, (frozen_kept hs.1.2.1 hg hr).trans hs.1.2.2⟩, hs.2⟩) _) (ownFrom_below (Nat.le_refl _) (by omega)))
      (fun c => OwnFrom.and (Own.from (fun s A B row hs hg hr => ⟨hs.1, by obtain ⟨x, h1, h2, h3⟩ := hs.2; exact ⟨x, h1, h2, cell_kept h3 hg hr⟩⟩) _) (ownFrom_below (Nat.le_refl _) (by omega)))
      ⟨⟨⟨q0, q1, q2⟩, fun x hx => by cases hx⟩, hB2⟩
      (fun x => { tmps := #[.string s, .string t, .int .i64 i, undef, undef, .pointer (some ⟨w.heap.size, 0, none⟩), .pointer (some ⟨w.heap.size + 1, 0, none⟩), .int .i64 (x.2 : Int), .string (cl s x.1), .int .i64 i, .bool true, .int .i64 i, .string s, .string t, .int .i64 ((occ s t).length : Int), .int .i64 (((occ s t).length : Int) + 1), .int .i64 (i + (((occ s t).length : Int) + 1)), .string s, .string t, .func (.func 48) #[] #[.pointer (some ⟨W1.heap.size, 0, none⟩), .pointer (some ⟨W1.heap.size + 1, 0, none⟩)], .int .i64 (x.2 : Int), .string (cl s x.1), undef, undef, undef, undef], defers := [] }) ?assign ?body ?done ?stop
    case assign =>
      intro l x W K hK
      gi_wp2
      exact hK
    case body =>
      rintro l pre ⟨a, j⟩ W ⟨⟨⟨d0, d1, g1⟩, hn⟩, hB⟩ hlen
      dsimp only
      by_cases hjk : (j : Int) = (i + (((occ s t).length : Int) + 1))
      · have HJ := Lib.hid hjk
        have hz1 : ((j : Int) == ((i + (((occ s t).length : Int) + 1)))) = true := by rw [beq_iff_eq]; exact hjk
        clear hjk
        gi_wp2
        refine ⟨KeepsOthers.setCell _ _ _, ⟨rfl, (a, j), by simp, HJ.out, World.cell?_setCell_same' _ _ _ (by rw [d1]; rfl)⟩, hB.setCell (p := ⟨w.heap.size + 1, 0, none⟩) (by show w.heap.size ≤ w.heap.size + 1; omega) _⟩
      · have HJ := Lib.hid hjk
        have hz1 : ((j : Int) == ((i + (((occ s t).length : Int) + 1)))) = false := by rw [beq_eq_false_iff_ne]; exact hjk
        clear hjk
        gi_wp2
        refine ⟨KeepsOthers.refl _, ⟨(KeepsOthers.refl _).walks, rfl, rfl⟩, ⟨⟨d0, d1, g1⟩, fun x hx => ?_⟩, hB⟩
        rcases List.mem_append.1 hx with hx | hx
        · exact hn x hx
        · rw [List.mem_singleton.1 hx]; exact HJ.out
    case done =>
      rintro D ys W hD hS ⟨⟨⟨d0, d1, g1⟩, hn⟩, hB⟩ hK
      have hv : part s t i = ⟨#[]⟩ := part_no (fun n b hb => by rw [HKK.out]; exact hn (b, n) (by rw [hS]; exact prt_mem.2 hb))
      have HV := Lib.hid hv
      clear hv
      gi_wp2
      refine ⟨by simp, .inl ⟨_, _, rfl, run_takeDeferred (def_set hK), ?_⟩⟩
      have hc5 := def_cell (def_set (p := ⟨w.heap.size + 1, 0, none⟩) (v := .string ⟨#[]⟩) hK) (World.cell?_setCell_same W ⟨w.heap.size + 1, 0, none⟩ (.string ⟨#[]⟩) d1)
      refine ⟨.string ⟨#[]⟩, ?_, by rw [HV.out], fin_below (B := (W1.alloc (.cells #[.string s] 9)).heap.size) (hB.setCell (p := ⟨w.heap.size + 1, 0, none⟩) (by show w.heap.size ≤ w.heap.size + 1; omega) _) (by rw [World.size_alloc]; rw [World.size_alloc, World.size_alloc] at hD; omega) (by rw [World.size_alloc]; have := hB1.size; omega) (def_set hK)⟩
      simp [results, Try.f31, go_sem, hc5]
    case stop =>
      rintro D c pre W hD hSp ⟨⟨rfl, HX⟩, hB⟩ hK
      obtain ⟨x, hx, hxk, d1⟩ := HX
      have hm := prt_mem.1 (hSp.subset hx)
      have hv : part s t i = cl s x.1 := by rw [part_yes (n := x.2) (b := x.1) (by rw [HKK.out]; exact hxk.symm) hm, cl_part hm]
      have HV := Lib.hid hv
      clear hv
      gi_wp2
      refine ⟨by simp, .inl ⟨_, _, rfl, run_takeDeferred hK, ?_⟩⟩
      have hc5 := def_cell hK d1
      refine ⟨.string (cl s x.1), ?_, by rw [HV.out], fin_below (B := (W1.alloc (.cells #[.string s] 9)).heap.size) hB (by rw [World.size_alloc]; rw [World.size_alloc, World.size_alloc] at hD; omega) (by rw [World.size_alloc]; have := hB1.size; omega) hK⟩
      simp [results, Try.f31, go_sem, hc5]
  · have h' : ¬ i < 0 := by omega
    have HKK : Hid (kx s t i = i) := Lib.hid (if_neg h')
    have p0 := c0
    have p1 := c1
    have p2 := f1
    have hB1 := hB0
    have hz1 := hz
    obtain ⟨q3, q4⟩ := two_cells W0 (.string s) (.string t) 9 9
    have q0 := oldCell (.cells #[.string t] 9) (oldCell (.cells #[.string s] 9) p0)
    have q1 := oldCell (.cells #[.string t] 9) (oldCell (.cells #[.string s] 9) p1)
    have q2 := oldFrozen (.cells #[.string t] 9) (oldCell (.cells #[.string s] 9) p1) (oldFrozen (.cells #[.string s] 9) p1 p2)
    have hsz : ((W0.alloc (.cells #[.string s] 9)).alloc (.cells #[.string t] 9)).heap.size = W0.heap.size + 2 := by simp
    have hB2 := (hB1.alloc hB1.size (.cells #[.string s] 9)).alloc (by rw [World.size_alloc]; have := hB1.size; omega) (.cells #[.string t] 9)
    clear hw1 hw2
    refine wpIn_rangeFunc_ownF rfl (by omega) (gf := 48) (lb := #[.pointer (some ⟨W0.heap.size, 0, none⟩), .pointer (some ⟨W0.heap.size + 1, 0, none⟩)]) rfl trivial (enters_of Try.func48 (by kernel_rfl) rfl)
      (prt_seq s t W0.heap.size (W0.heap.size + 1) _ hs (by omega) q3 ht (by omega) q4) (fun h k => Kp.t h k) (Kp.b (by omega) (by omega)) (Below.refl _ _) (fun _ => rfl)
      (fun pre W => ((W.cell? ⟨w.heap.size, 0, none⟩ = some (.int .i64 (i)) ∧ W.cell? ⟨w.heap.size + 1, 0, none⟩ = some (.string ⟨#[]⟩) ∧ W.frozen? ⟨w.heap.size + 1, 0, none⟩ = false) ∧ NoK pre (i)) ∧ Below w.heap.size w W)
      (fun c pre W => (c = .ret ∧ YesK s pre (i) W (w.heap.size + 1)) ∧ Below w.heap.size w W)
      (OwnFrom.and (Own.from (fun s A B row hs hg hr => ⟨⟨cell_kept hs.1.1 hg hr, cell_kept hs.1.2.1 hg hr, (frozen_kept hs.1.2.1 hg hr).trans hs.1.2.2⟩, hs.2⟩) _) (ownFrom_below (Nat.le_refl _) (by omega)))
      (fun c => OwnFrom.and (Own.from (fun s A B row hs hg hr => ⟨hs.1, by obtain ⟨x, h1, h2, h3⟩ := hs.2; exact ⟨x, h1, h2, cell_kept h3 hg hr⟩⟩) _) (ownFrom_below (Nat.le_refl _) (by omega)))
      ⟨⟨⟨q0, q1, q2⟩, fun x hx => by cases hx⟩, hB2⟩
      (fun x => { tmps := #[.string s, .string t, .int .i64 i, undef, undef, .pointer (some ⟨w.heap.size, 0, none⟩), .pointer (some ⟨w.heap.size + 1, 0, none⟩), .int .i64 (x.2 : Int), .string (cl s x.1), .int .i64 i, .bool false, undef, undef, undef, undef, undef, undef, .string s, .string t, .func (.func 48) #[] #[.pointer (some ⟨W0.heap.size, 0, none⟩), .pointer (some ⟨W0.heap.size + 1, 0, none⟩)], .int .i64 (x.2 : Int), .string (cl s x.1), undef, undef, undef, undef], defers := [] }) ?assign ?body ?done ?stop
    case assign =>
      intro l x W K hK
      gi_wp2
      exact hK
    case body =>
      rintro l pre ⟨a, j⟩ W ⟨⟨⟨d0, d1, g1⟩, hn⟩, hB⟩ hlen
      dsimp only
      by_cases hjk : (j : Int) = i
      · have HJ := Lib.hid hjk
        have hz1 : ((j : Int) == (i)) = true := by rw [beq_iff_eq]; exact hjk
        clear hjk
        gi_wp2
        refine ⟨KeepsOthers.setCell _ _ _, ⟨rfl, (a, j), by simp, HJ.out, World.cell?_setCell_same' _ _ _ (by rw [d1]; rfl)⟩, hB.setCell (p := ⟨w.heap.size + 1, 0, none⟩) (by show w.heap.size ≤ w.heap.size + 1; omega) _⟩
      · have HJ := Lib.hid hjk
        have hz1 : ((j : Int) == (i)) = false := by rw [beq_eq_false_iff_ne]; exact hjk
        clear hjk
        gi_wp2
        refine ⟨KeepsOthers.refl _, ⟨(KeepsOthers.refl _).walks, rfl, rfl⟩, ⟨⟨d0, d1, g1⟩, fun x hx => ?_⟩, hB⟩
        rcases List.mem_append.1 hx with hx | hx
        · exact hn x hx
        · rw [List.mem_singleton.1 hx]; exact HJ.out
    case done =>
      rintro D ys W hD hS ⟨⟨⟨d0, d1, g1⟩, hn⟩, hB⟩ hK
      have hv : part s t i = ⟨#[]⟩ := part_no (fun n b hb => by rw [HKK.out]; exact hn (b, n) (by rw [hS]; exact prt_mem.2 hb))
      have HV := Lib.hid hv
      clear hv
      gi_wp2
      refine ⟨by simp, .inl ⟨_, _, rfl, run_takeDeferred (def_set hK), ?_⟩⟩
      have hc5 := def_cell (def_set (p := ⟨w.heap.size + 1, 0, none⟩) (v := .string ⟨#[]⟩) hK) (World.cell?_setCell_same W ⟨w.heap.size + 1, 0, none⟩ (.string ⟨#[]⟩) d1)
      refine ⟨.string ⟨#[]⟩, ?_, by rw [HV.out], fin_below (B := (W0.alloc (.cells #[.string s] 9)).heap.size) (hB.setCell (p := ⟨w.heap.size + 1, 0, none⟩) (by show w.heap.size ≤ w.heap.size + 1; omega) _) (by rw [World.size_alloc]; rw [World.size_alloc, World.size_alloc] at hD; omega) (by rw [World.size_alloc]; have := hB1.size; omega) (def_set hK)⟩
      simp [results, Try.f31, go_sem, hc5]
    case stop =>
      rintro D c pre W hD hSp ⟨⟨rfl, HX⟩, hB⟩ hK
      obtain ⟨x, hx, hxk, d1⟩ := HX
      have hm := prt_mem.1 (hSp.subset hx)
      have hv : part s t i = cl s x.1 := by rw [part_yes (n := x.2) (b := x.1) (by rw [HKK.out]; exact hxk.symm) hm, cl_part hm]
      have HV := Lib.hid hv
      clear hv
      gi_wp2
      refine ⟨by simp, .inl ⟨_, _, rfl, run_takeDeferred hK, ?_⟩⟩
      have hc5 := def_cell hK d1
      refine ⟨.string (cl s x.1), ?_, by rw [HV.out], fin_below (B := (W0.alloc (.cells #[.string s] 9)).heap.size) hB (by rw [World.size_alloc]; rw [World.size_alloc, World.size_alloc] at hD; omega) (by rw [World.size_alloc]; have := hB1.size; omega) hK⟩
      simp [results, Try.f31, go_sem, hc5]
end Go.Proofs.Ytihhejeciagdpaa.Sf
