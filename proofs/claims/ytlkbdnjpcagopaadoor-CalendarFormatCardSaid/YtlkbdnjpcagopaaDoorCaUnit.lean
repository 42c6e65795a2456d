/-
  The contract of Unit of package calendar.
-/
import Derived.Test.YtlkbdnjpcagopaaDoorCaSym
namespace Go.Proofs.YtlkbdnjpcagopaaDoor.Ca
open Go.RowKit Go.Shelf Rf
attribute [local go_sem] Oper.semAt_some

set_option maxRecDepth 100000 in
set_option maxHeartbeats 2000000 in
theorem Unit_any (s : ByteArray) (w : World) (hs : s.size ≤ 4294967281) :
    Calls Tryd.prog 28 #[.string s] w fun e w' => e = .returned (.int .i64 (unit s.data.toList)) ∧ Below w.heap.size w w' := by
  refine (callsIn_wide (n := 3)).1 ?_
  refine callsIn_of_wp_marks Tryd.func28 rfl trivial ?_ rfl
  simp only [Tryd.ntmps28, List.size_toArray, List.length_cons, List.length_nil, Nat.reduceAdd, Nat.reduceSub, Array.replicate_succ, Array.replicate_zero, List.push_toArray, List.append_toArray, List.nil_append, List.cons_append]
  gi_wp2
  refine ⟨trivial, (callsIn_wide.2 (symbols_any _ _)).mono ?_⟩
  rintro e w' ⟨rfl, rfl⟩
  gi_wp2
  have c0 := newCell w (.int .i64 5) 3
  have c1 := newCell (w.alloc (.cells #[.int .i64 5] 3)) (.string s) 9
  simp only [World.size_alloc] at c1
  have hB0 : Below w.heap.size w ((w.alloc (.cells #[.int .i64 5] 3)).alloc (.cells #[.string s] 9)) := ((Below.refl _ w).alloc (Nat.le_refl _) _).alloc (by simp) _
  refine wpIn_rangeFunc_ownF rfl (by omega) (gf := 52) (lb := #[.pointer (some ⟨w.heap.size + 1, 0, none⟩)]) rfl trivial (enters_of Tryd.func52 (by kernel_rfl) rfl)
    (sym_seq s (w.heap.size + 1) _ hs (by simp) c1.1) (fun h k => Kq.t h k) (Kq.b (by simp)) (Below.refl _ _) (fun _ => rfl)
    (fun pre W => (W.cell? ⟨w.heap.size, 0, none⟩ = some (.int .i64 (pre.foldl ustep 5)) ∧ W.frozen? ⟨w.heap.size, 0, none⟩ = false) ∧ Below w.heap.size w W)
    (fun c pre W => False)
    (OwnFrom.and (Own.from (fun s A B row hs hg hr => ⟨cell_kept hs.1 hg hr, (frozen_kept hs.1 hg hr).trans hs.2⟩) _) (ownFrom_below (Nat.le_refl _) (by simp; omega)))
    (fun c => fun _ _ _ _ hs _ _ => hs)
    ⟨⟨oldCell _ c0.1, oldFrozen _ c0.1 c0.2⟩, hB0⟩
    (fun x => { tmps := #[.string s, undef, .int .i64 0, .pointer (some ⟨w.heap.size, 0, none⟩), .int .u8 (x.1.toNat : Int), .bool x.2, .string s, .func (.func 52) #[] #[.pointer (some ⟨w.heap.size + 1, 0, none⟩)], .int .u8 (x.1.toNat : Int), .bool x.2, undef, undef, undef, undef, undef, undef, undef], defers := [] }) ?assign ?body ?done ?stop
  case assign =>
    intro l x W K hK
    gi_wp2
    exact hK
  case body =>
    rintro l pre ⟨x, lit⟩ W ⟨⟨hc, hf⟩, hB⟩ _
    have hfo : (pre ++ [(x, lit)]).foldl ustep 5 = ustep (pre.foldl ustep 5) (x, lit) := by rw [List.foldl_append]; rfl
    have HF := Lib.hid hfo
    clear hfo
    obtain ⟨u, hu⟩ : ∃ u, pre.foldl ustep 5 = u := ⟨_, rfl⟩
    rw [hu] at hc HF
    have hub := fold_bd pre 5 (by omega) (by omega)
    rw [hu] at hub
    clear hu
    cases lit
    · have HG : Hid (ustep u (x, false) = min u (cu x)) := Lib.hid rfl
      have hcb := cu_bd x
      have hfin : KeepsOthers W ((W.setCell ⟨w.heap.size, 0, none⟩ (.int .i64 (min u (cu x)))).drew) ∧ Kq (w.heap.size + 1) W ((W.setCell ⟨w.heap.size, 0, none⟩ (.int .i64 (min u (cu x)))).drew) ∧ (((W.setCell ⟨w.heap.size, 0, none⟩ (.int .i64 (min u (cu x)))).drew).cell? ⟨w.heap.size, 0, none⟩ = some (.int .i64 (min u (cu x))) ∧ ((W.setCell ⟨w.heap.size, 0, none⟩ (.int .i64 (min u (cu x)))).drew).frozen? ⟨w.heap.size, 0, none⟩ = false) ∧ Below w.heap.size w ((W.setCell ⟨w.heap.size, 0, none⟩ (.int .i64 (min u (cu x)))).drew) := by
        refine ⟨(KeepsOthers.setCell _ _ _).trans (KeepsOthers.drew _), ?_, ⟨?_, ?_⟩, below_drewN (hB.setCell (p := ⟨w.heap.size, 0, none⟩) (Nat.le_refl _) _) 1⟩
        · exact Below.heap_setCell _ _ _ _ (by simp)
        · exact World.cell?_setCell_same W ⟨w.heap.size, 0, none⟩ _ hc
        · show (W.setCell ⟨w.heap.size, 0, none⟩ (.int .i64 (min u (cu x)))).frozen? ⟨w.heap.size, 0, none⟩ = false
          rw [World.frozen?_setCell]; exact hf
      have HFIN := Lib.hid hfin
      clear hfin
      have hmx : Tryd.prog.follows .mixedOrders = true := by kernel_rfl
      gi_wp2
      gi_region_with_o (refine ⟨trivial, (CallsIn.inRound l (callsIn_wide.2 (codeUnit_any x _))).mono ?_⟩; rintro e V ⟨rfl, rfl⟩)
      all_goals gi_wp2
      all_goals exact ⟨HFIN.out.1, HFIN.out.2.1, by rw [HF.out, HG.out]; exact HFIN.out.2.2.1, HFIN.out.2.2.2⟩
    · have HG : Hid (ustep u (x, true) = u) := Lib.hid rfl
      gi_wp2
      exact ⟨KeepsOthers.refl _, rfl, ⟨by rw [HF.out, HG.out]; exact hc, hf⟩, hB⟩
  case done =>
    rintro D ys W hD hS ⟨⟨hc, hf⟩, hB⟩ hK
    subst hS
    gi_wp2
    refine ⟨by simp, .inl ⟨_, _, rfl, run_takeDeferred hK, ?_⟩⟩
    exact ⟨_, results_tmp rfl _ _ _, rfl, hB.trans (belowK_b (w := w) (Nat.le_refl _) W D _ _ (by have := hB0.size; omega) hK rfl rfl)⟩
  case stop =>
    rintro D c pre W _ _ h _
    exact h.elim
end Go.Proofs.YtlkbdnjpcagopaaDoor.Ca
