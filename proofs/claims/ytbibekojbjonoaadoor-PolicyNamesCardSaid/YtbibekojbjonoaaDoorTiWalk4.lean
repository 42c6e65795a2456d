/-
  The contract of validParts of package title, for every argument that is not too long.
-/
import Derived.Test.YtbibekojbjonoaaDoorTiSplit
import Derived.Test.YtbibekojbjonoaaDoorTiWalk3
import Derived.RangeFuncBox
namespace Go.Proofs.YtbibekojbjonoaaDoor.Ti
open Go.RowKit Go.Shelf Go.Proofs.YtbibekojbjonoaaDoor.Rf
attribute [local go_sem] Oper.semAt_some

/-- A part is not empty and neither begins nor ends with a blank. -/
def okPart (p : List UInt8) : Bool := !p.isEmpty && (!(p.head? == some 32) && !(p.getLast? == some 32))
def vparts (l : List UInt8) : Bool := (parts 47 l).all okPart

theorem head_of (x : ByteArray) (h : 0 < x.size) : x.data.toList.head? = some x[0] := by
  rw [data_cons x h]; rfl
theorem last_of (x : ByteArray) (h : 0 < x.size) : x.data.toList.getLast? = some (x[x.size - 1]'(by omega)) := by
  rw [List.getLast?_eq_getElem?, List.getElem?_eq_getElem (by show x.size - 1 < x.size; omega)]
  rfl
theorem empty_of (x : ByteArray) (h : 0 < x.size) : x.data.toList.isEmpty = false := by
  rw [data_cons x h]; rfl
theorem vparts_no {s : ByteArray} {pre : List Str} (h : ∀ x ∈ pre, x.1.data.toList ∈ parts 47 s.data.toList) (hx : ∃ x ∈ pre, okPart x.1.data.toList = false) : vparts s.data.toList = false := by
  obtain ⟨x, hx, hb⟩ := hx
  unfold vparts
  rw [List.all_eq_false]
  exact ⟨x.1.data.toList, h x hx, by simp [hb]⟩
theorem vparts_yes {s : ByteArray} {xs : List Str} (h : xs.map (·.1.data.toList) = parts 47 s.data.toList) (hx : ∀ x ∈ xs, okPart x.1.data.toList = true) : vparts s.data.toList = true := by
  unfold vparts
  rw [← h, List.all_eq_true]
  intro y hy
  obtain ⟨x, hm, rfl⟩ := List.mem_map.1 hy
  exact hx x hm
theorem snoc_all {pre : List Str} {x : Str} (hp : ∀ y ∈ pre, okPart y.1.data.toList = true) (h : okPart x.1.data.toList = true) : ∀ y ∈ pre ++ [x], okPart y.1.data.toList = true := fun y hy =>
  (List.mem_append.1 hy).elim (hp y) (fun e => by simp at e; subst e; exact h)

set_option maxRecDepth 100000 in
set_option maxHeartbeats 2000000 in
theorem validParts_any (s : ByteArray) (w : World) (hs : s.size < 4294967281) :
    Calls Tryd.prog 45 #[.string s] w fun e W' => e = .returned (.bool (vparts s.data.toList)) ∧ Below w.heap.size w W' := by
  refine (callsIn_wide (n := 0)).1 ?_
  refine callsIn_of_wp_marks Tryd.func45 rfl trivial ?_ rfl
  simp only [Tryd.ntmps45, List.size_toArray, List.length_cons, List.length_nil, Nat.reduceAdd, Nat.reduceSub, Array.replicate_succ, Array.replicate_zero, List.push_toArray, List.append_toArray, List.nil_append, List.cons_append]
  gi_wp2
  refine ⟨trivial, rfl, (callsIn_wide.2 (SplitSeq_any _ _ _)).mono ?_⟩
  rintro e w' ⟨rfl, rfl⟩
  have c0 := newCell w (.bool false) 4
  have c1 := newCell (w.alloc (.cells #[.bool false] 4)) (.string s) 9
  have c2 := newCell ((w.alloc (.cells #[.bool false] 4)).alloc (.cells #[.string s] 9)) (.string ⟨#[47]⟩) 9
  have c3 := newCell (((w.alloc (.cells #[.bool false] 4)).alloc (.cells #[.string s] 9)).alloc (.cells #[.string ⟨#[47]⟩] 9)) (.int .i64 0) 3
  simp only [World.size_alloc] at c1 c2 c3
  have hB0 : Below w.heap.size w ((((w.alloc (.cells #[.bool false] 4)).alloc (.cells #[.string s] 9)).alloc (.cells #[.string ⟨#[47]⟩] 9)).alloc (.cells #[.int .i64 0] 3)) :=
    ((((Below.refl _ w).alloc (Nat.le_refl _) _).alloc (by simp) _).alloc (by simp; omega) _).alloc (by simp; omega) _
  gi_wp2
  refine range1 (gf := 30) (lb := #[.pointer (some ⟨w.heap.size + 1 + 1, 0, none⟩), .pointer (some ⟨w.heap.size + 1, 0, none⟩), .pointer (some ⟨w.heap.size + 1 + 2, 0, none⟩)]) rfl (enters_of Tryd.func30 (by kernel_rfl) rfl)
    (split_seq 47 s (w.heap.size + 1) _ _ hs (by simp) (Nat.le_refl _) (oldCell _ (oldCell _ c1.1)) (oldFrozen _ (oldCell _ c1.1) (oldFrozen _ c1.1 c1.2)) (oldCell _ c2.1) c3.1) (fun _ => rfl)
    (fun pre W => ((∀ x ∈ pre, okPart x.1.data.toList = true) ∧ W.cell? ⟨w.heap.size, 0, none⟩ = some (.bool false) ∧ W.frozen? ⟨w.heap.size, 0, none⟩ = false) ∧ Below w.heap.size w W)
    (fun c pre W => (c = .ret ∧ (∃ x ∈ pre, okPart x.1.data.toList = false) ∧ W.cell? ⟨w.heap.size, 0, none⟩ = some (.bool false)) ∧ Below w.heap.size w W)
    (OwnFrom.and (Own.from (fun s A B row hs hg hr => ⟨hs.1, cell_kept hs.2.1 hg hr, (frozen_kept hs.2.1 hg hr).trans hs.2.2⟩) _) (ownFrom_below (Nat.le_refl _) (by simp; omega)))
    (fun c => OwnFrom.and (Own.from (fun s A B row hs hg hr => ⟨hs.1, hs.2.1, cell_kept hs.2.2 hg hr⟩) _) (ownFrom_below (Nat.le_refl _) (by simp; omega)))
    (fun s A v h => ⟨⟨h.1.1, (World.cell?_setCell_far A ⟨w.heap.size + 1, 0, none⟩ ⟨w.heap.size, 0, none⟩ v (by show w.heap.size + 1 ≠ w.heap.size; omega)).trans h.1.2.1, by rw [World.frozen?_setCell]; exact h.1.2.2⟩, h.2.setCell (p := ⟨w.heap.size + 1, 0, none⟩) (by simp) _⟩)
    (fun c s A v h => ⟨⟨h.1.1, h.1.2.1, (World.cell?_setCell_far A ⟨w.heap.size + 1, 0, none⟩ ⟨w.heap.size, 0, none⟩ v (by show w.heap.size + 1 ≠ w.heap.size; omega)).trans h.1.2.2⟩, h.2.setCell (p := ⟨w.heap.size + 1, 0, none⟩) (by simp) _⟩)
    ⟨⟨by simp, oldCell _ (oldCell _ (oldCell _ c0.1)), oldFrozen _ (oldCell _ (oldCell _ c0.1)) (oldFrozen _ (oldCell _ c0.1) (oldFrozen _ c0.1 c0.2))⟩, hB0⟩
    (fun x => { tmps := #[.string s, undef, .pointer (some ⟨w.heap.size, 0, none⟩), .string x.1, .string s, .func (.func 30) #[] #[.pointer (some ⟨w.heap.size + 1 + 1, 0, none⟩), .pointer (some ⟨w.heap.size + 1, 0, none⟩), .pointer (some ⟨w.heap.size + 1 + 2, 0, none⟩)], .string x.1, undef, undef, undef, undef, undef, undef, undef, undef, undef, undef, undef, undef, undef, undef, undef], defers := [] }) ?assign ?body ?done ?stop
  case assign =>
    intro l x W K hK
    gi_wp2
    exact hK
  case body =>
    rintro l pre ⟨x, hxl⟩ W ⟨⟨hp, hc, hf⟩, hB⟩
    have hbadly : okPart x.data.toList = false → (∃ y ∈ pre ++ [(⟨x, hxl⟩ : Str)], okPart y.1.data.toList = false) := fun h => ⟨⟨x, hxl⟩, List.mem_append.2 (.inr (by simp)), h⟩
    have hset : KeepsOthers W (W.setCell ⟨w.heap.size, 0, none⟩ (.bool false)) ∧ (W.setCell ⟨w.heap.size, 0, none⟩ (.bool false)).cell? ⟨w.heap.size, 0, none⟩ = some (.bool false) ∧ Below w.heap.size w (W.setCell ⟨w.heap.size, 0, none⟩ (.bool false)) :=
      ⟨KeepsOthers.setCell _ _ _, World.cell?_setCell_same W ⟨w.heap.size, 0, none⟩ _ hc, hB.setCell (p := ⟨w.heap.size, 0, none⟩) (Nat.le_refl _) _⟩
    have HSET := Lib.hid hset; clear hset
    by_cases h0 : x.size = 0
    · have h1 : x.data.toList = [] := by rw [← List.length_eq_zero_iff]; exact h0
      have h2 : x.toList.isEmpty = true := by rw [Lib.toList_data, h1]; rfl
      have h3 : x.toList = [] := by rw [Lib.toList_data, h1]
      have hfin := hbadly (by rw [h1]; rfl)
      have HFIN := Lib.hid hfin; clear hfin hbadly h1 h0
      gi_wp2
      exact ⟨HSET.out.1, ⟨rfl, HFIN.out, HSET.out.2.1⟩, HSET.out.2.2⟩
    · have h1 : 0 < x.size := by omega
      have h2 : x.toList.isEmpty = false := by rw [Lib.toList_data]; exact empty_of x h1
      have h3 : ¬ x.toList = [] := by rw [Lib.toList_data]; intro e; have := empty_of x h1; rw [e] at this; cases this
      have hz : (1 : Int) ≤ (x.size : Int) := by omega
      have hl : x.size - 1 < x.size := by omega
      clear h0
      by_cases ha : x[0] = 32
      · have hd : ((x[0].toNat : Int) == 32) = true := by rw [ha]; rfl
        have hfin := hbadly (by rw [okPart, head_of x h1, ha]; simp)
        have HFIN := Lib.hid hfin; clear hfin hbadly ha
        gi_wp2
        exact ⟨HSET.out.1, ⟨rfl, HFIN.out, HSET.out.2.1⟩, HSET.out.2.2⟩
      · have hd : ((x[0].toNat : Int) == 32) = false := u8_ne ha
        by_cases hb : x[x.size - 1] = 32
        · have hd2 : ((x[x.size - 1].toNat : Int) == 32) = true := by rw [hb]; rfl
          have hfin := hbadly (by rw [okPart, last_of x h1, hb]; simp)
          have HFIN := Lib.hid hfin; clear hfin hbadly hb ha
          gi_wp2
          exact ⟨HSET.out.1, ⟨rfl, HFIN.out, HSET.out.2.1⟩, HSET.out.2.2⟩
        · have hd2 : ((x[x.size - 1].toNat : Int) == 32) = false := u8_ne hb
          have hok : okPart x.data.toList = true := by rw [okPart, last_of x h1, head_of x h1, empty_of x h1]; simp [ha, hb]
          have HOK := Lib.hid hok; clear hok hbadly hb ha
          gi_wp2
          exact ⟨KeepsOthers.refl _, Below.refl _ _, ⟨snoc_all hp HOK.out, hc, hf⟩, hB⟩
  case done =>
    rintro D ys W hD hS ⟨⟨hp, hc, hf⟩, hB⟩ hK
    have hv := vparts_yes hS hp
    have HV := Lib.hid hv; clear hv
    gi_wp2
    have hK' := (KeepsOthers.setCell W ⟨w.heap.size, 0, none⟩ (.bool true)).same D _ hK rfl
    refine ⟨by simp, .inl ⟨_, _, rfl, run_takeDeferred hK', ?_⟩⟩
    have hc5 := cell_kept (World.cell?_setCell_same W ⟨w.heap.size, 0, none⟩ (.bool true) hc) (grownBy_putObj' _ D (.deferred none)) (fun r e => by cases e; exact ⟨_, hK', rfl⟩)
    refine ⟨.bool true, ?_, by rw [HV.out], (hB.setCell (p := ⟨w.heap.size, 0, none⟩) (Nat.le_refl _) _).trans (belowK_b (w := w) (Nat.le_refl _) _ D _ _ (by simp at hD; omega) hK' rfl rfl)⟩
    simp [results, Tryd.f45, go_sem, hc5]
  case stop =>
    rintro D c pre W hD hSp ⟨⟨rfl, hx, hc⟩, hB⟩ hK
    have hv := vparts_no hSp hx
    have HV := Lib.hid hv; clear hv
    gi_wp2
    refine ⟨by simp, .inl ⟨_, _, rfl, run_takeDeferred hK, ?_⟩⟩
    have hc5 := cell_kept hc (grownBy_putObj' _ D (.deferred none)) (fun r e => by cases e; exact ⟨_, hK, rfl⟩)
    refine ⟨.bool false, ?_, by rw [HV.out], hB.trans (belowK_b (w := w) (Nat.le_refl _) W D _ _ (by simp at hD; omega) hK rfl rfl)⟩
    simp [results, Tryd.f45, go_sem, hc5]
end Go.Proofs.YtbibekojbjonoaaDoor.Ti
