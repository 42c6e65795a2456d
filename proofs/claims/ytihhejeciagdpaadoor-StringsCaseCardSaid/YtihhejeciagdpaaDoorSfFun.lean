/-
  The contracts of Length, offset, Slice of package strfunc.
-/
import Derived.Test.YtihhejeciagdpaaDoorSfIter
namespace Go.Proofs.YtihhejeciagdpaaDoor.Sf
open Go.RowKit Go.Shelf
attribute [local go_sem] Oper.semAt_some
set_option linter.unusedVariables false

theorem al_get (s : ByteArray) (i : Nat) : (al s)[i]? = if i ≤ rc s then some (ag s i) else none := by
  unfold al ag rc
  by_cases h : i < (sts s).length
  · rw [List.getElem?_append_left h, if_pos (by omega), List.getElem?_eq_getElem h, getD_in h]
  · by_cases h2 : i = (sts s).length
    · subst h2
      rw [List.getElem?_append_right (Nat.le_refl _), if_pos (Nat.le_refl _), getD_out (Nat.le_refl _)]; simp
    · rw [if_neg (by omega), List.getElem?_eq_none (by simp; omega)]
theorem posl_mem {s : ByteArray} {x : Ps} : x ∈ posl s ↔ x.2 ≤ rc s ∧ x.1 = ag s x.2 := by
  obtain ⟨a, i⟩ := x
  unfold posl
  rw [List.mem_zipIdx_iff_getElem?, al_get]
  by_cases h : i ≤ rc s
  · rw [if_pos h]; simp [h]; exact eq_comm
  · rw [if_neg h]; simp [h]
theorem Length_any (s : ByteArray) (w : World) (hs : s.size ≤ 4294967281) : Calls Tryd.prog 15 #[.string s] w fun e w' => e = .returned (.int .i64 (rc s)) ∧ Below w.heap.size w w' := by
  go_enter Tryd.func15, Tryd.ntmps15
  go_wp2_with fail
  refine (Tryd.utf8_RuneCountInString s _ (by omega)).mono ?_
  rintro e w' ⟨rfl, p, rfl⟩
  rw [runeCount_rc]
  go_wp2
  go_ret
  exact ⟨rfl, (Below.refl _ w).alloc (Nat.le_refl _) _⟩
theorem three (w : World) (a b c : Value) (ta tb tc : TypeId) : ∃ W0, ((w.alloc (.cells #[a] ta)).alloc (.cells #[b] tb)).alloc (.cells #[c] tc) = W0 ∧ w.heap.size + 2 < W0.heap.size ∧ Below w.heap.size w W0 ∧
    W0.cell? ⟨w.heap.size, 0, none⟩ = some a ∧ W0.cell? ⟨w.heap.size + 1, 0, none⟩ = some b ∧ W0.frozen? ⟨w.heap.size + 1, 0, none⟩ = false ∧ W0.cell? ⟨w.heap.size + 1 + 1, 0, none⟩ = some c ∧
    W0.frozen? ⟨w.heap.size, 0, none⟩ = false := by
  have n1 := newCell w a ta
  have n2 := newCell (w.alloc (.cells #[a] ta)) b tb
  have n3 := newCell ((w.alloc (.cells #[a] ta)).alloc (.cells #[b] tb)) c tc
  rw [World.size_alloc] at n2
  rw [World.size_alloc, World.size_alloc] at n3
  exact ⟨_, rfl, by simp, (((Below.refl _ w).alloc (Nat.le_refl _) _).alloc (by simp) _).alloc (by simp; omega) _, oldCell _ (oldCell _ n1.1), oldCell _ n2.1, oldFrozen _ n2.1 n2.2, n3.1, oldFrozen _ (oldCell _ n1.1) (oldFrozen _ n1.1 n1.2)⟩
theorem fin_below {w W : World} {D B : Nat} (h : Below w.heap.size w W) (hD : B ≤ D) (hB : w.heap.size ≤ B) (hK : W.heap[D]? = some (.deferred (some []))) : Below w.heap.size w (W.putObj D (.deferred none)) :=
  h.trans (belowK_b (w := w) (Nat.le_refl _) W D _ _ (by omega) hK rfl rfl)
theorem def_cell {W : World} {D : Nat} {p : Addr} {v : Value} (hK : W.heap[D]? = some (.deferred (some []))) (h : W.cell? p = some v) : (W.putObj D (.deferred none)).cell? p = some v :=
  cell_kept h (grownBy_putObj' _ D (.deferred none)) (fun r e => by cases e; exact ⟨_, hK, rfl⟩)
theorem def_set {W : World} {D : Nat} {p : Addr} {v : Value} (hK : W.heap[D]? = some (.deferred (some []))) : (W.setCell p v).heap[D]? = some (.deferred (some [])) := (KeepsOthers.setCell W p v).same D _ hK rfl
set_option maxRecDepth 100000 in
set_option maxHeartbeats 2000000 in
theorem offset_any (s : ByteArray) (k : Nat) (w : World) (hs : s.size ≤ 4294967281) :
    Calls Tryd.prog 22 #[.string s, .int .i64 (k : Int)] w fun e w' => e = .returned (.int .i64 (ag s k : Int)) ∧ Below w.heap.size w w' := by
  refine (callsIn_wide (n := 3)).1 ?_
  refine callsIn_of_wp_marks Tryd.func22 rfl trivial ?_ rfl
  simp only [Tryd.ntmps22, List.size_toArray, List.length_cons, List.length_nil, Nat.reduceAdd, Nat.reduceSub, Array.replicate_succ, Array.replicate_zero, List.push_toArray, List.append_toArray, List.nil_append, List.cons_append]
  gi_wp2
  refine ⟨trivial, (callsIn_wide.2 (positions_any _ _)).mono ?_⟩
  rintro e w' ⟨rfl, rfl⟩
  gi_wp2
  obtain ⟨W0, hW0, hz, hB0, c0, c1, f1, c2, _⟩ := three w (.int .i64 (k : Int)) (.int .i64 0) (.string s) 3 3 9
  rw [hW0]
  clear hW0
  refine wpIn_rangeFunc_ownF rfl (by omega) (gf := 40) (lb := #[.pointer (some ⟨w.heap.size + 1 + 1, 0, none⟩)]) rfl trivial (enters_of Tryd.func40 (by kernel_rfl) rfl)
    (pos_seq s (w.heap.size + 1 + 1) _ hs (by omega) c2) (fun h k => Kp.t h k) (Kp.b (by omega) (by omega)) (Below.refl _ _) (fun _ => rfl)
    (fun pre W => ((W.cell? ⟨w.heap.size, 0, none⟩ = some (.int .i64 (k : Int)) ∧ W.cell? ⟨w.heap.size + 1, 0, none⟩ = some (.int .i64 0) ∧ W.frozen? ⟨w.heap.size + 1, 0, none⟩ = false) ∧ ∀ x, x ∈ pre → x.2 ≠ k) ∧ Below w.heap.size w W)
    (fun c pre W => ((c = .ret ∧ ∃ x, x ∈ pre ∧ x.2 = k ∧ W.cell? ⟨w.heap.size + 1, 0, none⟩ = some (.int .i64 ((min x.1 s.size : Nat) : Int)))) ∧ Below w.heap.size w W)
    (OwnFrom.and (Own.from (fun s A B row hs hg hr => ⟨⟨cell_kept hs.1.1 hg hr, cell_kept hs.1.2.1 hg hr, (frozen_kept hs.1.2.1 hg hr).trans hs.1.2.2⟩, hs.2⟩) _) (ownFrom_below (Nat.le_refl _) (by omega)))
    (fun c => OwnFrom.and (Own.from (fun s A B row hs hg hr => ⟨hs.1, by obtain ⟨x, h1, h2, h3⟩ := hs.2; exact ⟨x, h1, h2, cell_kept h3 hg hr⟩⟩) _) (ownFrom_below (Nat.le_refl _) (by omega)))
    ⟨⟨⟨c0, c1, f1⟩, fun x hx => by cases hx⟩, hB0⟩
    (fun x => { tmps := #[.string s, .int .i64 (k : Int), undef, .pointer (some ⟨w.heap.size, 0, none⟩), .pointer (some ⟨w.heap.size + 1, 0, none⟩), .int .i64 (x.2 : Int), .int .i64 ((min x.1 s.size : Nat) : Int), .string s, .func (.func 40) #[] #[.pointer (some ⟨w.heap.size + 1 + 1, 0, none⟩)], .int .i64 (x.2 : Int), .int .i64 ((min x.1 s.size : Nat) : Int), undef, undef, undef, undef, undef, undef], defers := [] }) ?assign ?body ?done ?stop
  case assign =>
    intro l x W K hK
    gi_wp2
    exact hK
  case body =>
    rintro l pre ⟨a, i⟩ W ⟨⟨⟨d0, d1, g1⟩, hn⟩, hB⟩ hlen
    dsimp only
    obtain ⟨m, hm⟩ : ∃ m, min a s.size = m := ⟨_, rfl⟩
    by_cases hik : i = k
    · subst hik
      have HM := Lib.hid hm
      rw [hm]
      clear hm
      gi_wp2
      refine ⟨KeepsOthers.setCell _ _ _, ⟨rfl, (a, i), by simp, rfl, by rw [HM.out]; exact World.cell?_setCell_same' _ _ _ (by rw [d1]; rfl)⟩, hB.setCell (p := ⟨w.heap.size + 1, 0, none⟩) (by show w.heap.size ≤ w.heap.size + 1; omega) _⟩
    · rw [hm]
      clear hm
      have hz1 : ((i : Int) == (k : Int)) = false := by rw [beq_eq_false_iff_ne]; omega
      gi_wp2
      refine ⟨KeepsOthers.refl _, ⟨(KeepsOthers.refl _).walks, rfl, rfl⟩, ⟨⟨d0, d1, g1⟩, fun x hx => ?_⟩, hB⟩
      rcases List.mem_append.1 hx with hx | hx
      · exact hn x hx
      · rw [List.mem_singleton.1 hx]; exact hik
  case done =>
    rintro D ys W hD hS ⟨⟨⟨d0, d1, g1⟩, hn⟩, hB⟩ hK
    have hlt : rc s < k := by
      rcases Nat.lt_or_ge (rc s) k with h | h
      · exact h
      · exact absurd rfl (hn (ag s k, k) (by rw [hS]; exact posl_mem.2 ⟨h, rfl⟩))
    have hag := Lib.hid (ag_end (s := s) (i := k) (by omega))
    gi_wp2
    refine ⟨by simp, .inl ⟨_, _, rfl, run_takeDeferred (def_set hK), ?_⟩⟩
    have hc5 := def_cell (def_set (p := ⟨w.heap.size + 1, 0, none⟩) (v := .int .i64 (s.size : Int)) hK) (World.cell?_setCell_same W ⟨w.heap.size + 1, 0, none⟩ (.int .i64 (s.size : Int)) d1)
    refine ⟨.int .i64 (s.size : Int), ?_, by rw [hag.out], fin_below (B := W0.heap.size) (hB.setCell (p := ⟨w.heap.size + 1, 0, none⟩) (by show w.heap.size ≤ w.heap.size + 1; omega) _) hD (by omega) (def_set hK)⟩
    simp [results, Tryd.f22, go_sem, hc5]
  case stop =>
    rintro D c pre W hD hSp ⟨⟨rfl, x, hx, hxk, d1⟩, hB⟩ hK
    have hm := (posl_mem.1 (hSp.subset hx)).2
    rw [hxk] at hm
    have hmn : min x.1 s.size = ag s k := by rw [hm]; exact Nat.min_eq_left (ag_le s k)
    rw [hmn] at d1
    clear hmn
    gi_wp2
    refine ⟨by simp, .inl ⟨_, _, rfl, run_takeDeferred hK, ?_⟩⟩
    have hc5 := def_cell hK d1
    refine ⟨.int .i64 (ag s k : Int), ?_, rfl, fin_below (B := W0.heap.size) hB hD (by omega) hK⟩
    simp [results, Tryd.f22, go_sem, hc5]
end Go.Proofs.YtihhejeciagdpaaDoor.Sf
