/-
  The contracts of Count of package strfunc.
-/
import Derived.Test.YtihhejeciagdpaaDoorSfFind
import Derived.Deep.RegionLaw
namespace Go.Proofs.YtihhejeciagdpaaDoor.Sf
open Go.RowKit Go.Shelf
attribute [local go_sem] Oper.semAt_some
set_option linter.unusedVariables false

def lastI (l : List Pt) : Nat := (l.getLast?.map (fun x => x.2)).getD 0
theorem lastI_snoc (l : List Pt) (x : Pt) : lastI (l ++ [x]) = x.2 := by simp [lastI]
theorem prt_get (s t : ByteArray) (i : Nat) : (prt s t)[i]? = (parts s t)[i]?.map (fun x => (x, i)) := by
  unfold prt; rw [List.getElem?_zipIdx]; simp
theorem lastI_prt (s t : ByteArray) : lastI (prt s t) = (occ s t).length := by
  unfold lastI
  rw [List.getLast?_eq_getElem?, prt_len, Nat.add_sub_cancel, prt_get, List.getElem?_eq_getElem (by rw [parts_len]; omega)]
  rfl
set_option maxRecDepth 100000 in
set_option maxHeartbeats 2000000 in
theorem Count_any (s t : ByteArray) (w : World) (hs : s.size ≤ 4294967281) (ht : t.size ≤ 4294967281) :
    Calls Tryd.prog 14 #[.string s, .string t] w fun e w' => e = .returned (.int .i64 ((occ s t).length : Int)) ∧ Below w.heap.size w w' := by
  refine (callsIn_wide (n := 3)).1 ?_
  refine callsIn_of_wp_marks Tryd.func14 rfl trivial ?_ rfl
  simp only [Tryd.ntmps14, List.size_toArray, List.length_cons, List.length_nil, Nat.reduceAdd, Nat.reduceSub, Array.replicate_succ, Array.replicate_zero, List.push_toArray, List.append_toArray, List.nil_append, List.cons_append]
  gi_wp2
  refine ⟨trivial, (callsIn_wide.2 (parts_any _ _ _)).mono ?_⟩
  rintro e w' ⟨rfl, rfl⟩
  gi_wp2
  obtain ⟨W0, hW0, hz, hB0, c0, c1, _, c2, f0⟩ := three w (.int .i64 0) (.string s) (.string t) 3 9 9
  rw [hW0]
  clear hW0
  refine wpIn_rangeFunc_ownF rfl (by omega) (gf := 34) (lb := #[.pointer (some ⟨w.heap.size + 1, 0, none⟩), .pointer (some ⟨w.heap.size + 1 + 1, 0, none⟩)]) rfl trivial (enters_of Tryd.func34 (by kernel_rfl) rfl)
    (prt_seq s t (w.heap.size + 1) (w.heap.size + 1 + 1) _ hs (by omega) c1 ht (by omega) c2) (fun h k => Kp.t h k) (Kp.b (by omega) (by omega)) (Below.refl _ _) (fun _ => rfl)
    (fun pre W => (W.cell? ⟨w.heap.size, 0, none⟩ = some (.int .i64 (lastI pre : Int)) ∧ W.frozen? ⟨w.heap.size, 0, none⟩ = false) ∧ Below w.heap.size w W)
    (fun c pre W => False)
    (OwnFrom.and (Own.from (fun s A B row hs hg hr => ⟨cell_kept hs.1 hg hr, (frozen_kept hs.1 hg hr).trans hs.2⟩) _) (ownFrom_below (Nat.le_refl _) (by omega)))
    (fun c => fun _ _ _ _ hs _ _ => hs)
    ⟨⟨c0, f0⟩, hB0⟩
    (fun x => { tmps := #[.string s, .string t, undef, undef, .int .i64 0, .pointer (some ⟨w.heap.size, 0, none⟩), .int .i64 (x.2 : Int), .string s, .string t, .func (.func 34) #[] #[.pointer (some ⟨w.heap.size + 1, 0, none⟩), .pointer (some ⟨w.heap.size + 1 + 1, 0, none⟩)], .int .i64 (x.2 : Int), .string (cl s x.1), undef, undef], defers := [] }) ?assign ?body ?done ?stop
  case assign =>
    intro l x W K hK
    gi_wp2
    exact hK
  case body =>
    rintro l pre ⟨a, i⟩ W ⟨⟨d0, g0⟩, hB⟩ hlen
    dsimp only
    gi_wp2
    exact ⟨KeepsOthers.setCell _ _ _, ⟨(KeepsOthers.setCell _ _ _).walks, Below.heap_setCell _ _ _ _ (by show w.heap.size + 1 ≠ w.heap.size; omega), Below.heap_setCell _ _ _ _ (by show w.heap.size + 1 + 1 ≠ w.heap.size; omega)⟩, ⟨by rw [lastI_snoc]; exact World.cell?_setCell_same' _ _ _ (by rw [d0]; rfl), by rw [World.frozen?_setCell]; exact g0⟩, hB.setCell (p := ⟨w.heap.size, 0, none⟩) (Nat.le_refl _) _⟩
  case done =>
    rintro D ys W hD hS ⟨⟨d0, g0⟩, hB⟩ hK
    rw [hS, lastI_prt] at d0
    gi_wp2
    refine ⟨by simp, .inl ⟨_, _, rfl, run_takeDeferred hK, ?_⟩⟩
    exact ⟨_, results_tmp rfl _ _ _, rfl, fin_below (B := W0.heap.size) hB hD (by omega) hK⟩
  case stop =>
    rintro D c pre W _ _ h _
    exact h.elim
end Go.Proofs.YtihhejeciagdpaaDoor.Sf
