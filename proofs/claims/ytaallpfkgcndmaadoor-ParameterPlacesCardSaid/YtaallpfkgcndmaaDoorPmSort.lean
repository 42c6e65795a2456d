/-
  The contracts of maps.Keys and slices.Sorted; a map that reads as a sorted list.
-/
import Derived.Test.YtaallpfkgcndmaaDoorPmX
import Derived.Test.YtaallpfkgcndmaaDoorPmDec
import Derived.Maps.StringElems
import Derived.StringKeys
import Derived.Shelf.SlIter.Nil
import Derived.Shelf.SortM.Plain
import Derived.Shelf.SortM.SortNone
import Derived.Shelf.AbstractIn
namespace Go.Proofs.YtaallpfkgcndmaaDoor.Pm
open Go.RowKit Go.Shelf Go.Maps Go.Sort
set_option linter.unusedVariables false
set_option linter.unusedSimpArgs false

theorem law : Keyed Tryd.prog 9 := string_keyed Tryd.underlying9
theorem zeroS (w : World) : (zeroValue 9).run Tryd.prog w = .ok (.string ⟨#[]⟩) w := by kernel_rfl
theorem key_of (n : By) (h : n.length ≤ 4294967281) : keyOf Tryd.prog 9 (.string (bsl n)) = some (.string n) :=
  Go.WideMaps.keyOf_string_mk Tryd.underlying9 (s := bsl n) (by rw [bsl_size]; simp only [maxLen]; omega)
theorem val_of (n : By) (h : n.length ≤ 4294967281) : plainElem (H := Unit) Tryd.prog 9 (.string (bsl n)) = some (.lit (.string n), []) :=
  plainElem_string Tryd.underlying9 (s := bsl n) (by rw [bsl_size]; simp only [maxLen]; omega)
/-- Block b is a map of at most n entries that reads as the list T. -/
def MapIs (w : World) (b n : Nat) (T : List Bd) : Prop := ∃ D : DataW Unit, w.ownsMap Tryd.prog 9 (plainElem Tryd.prog 9) b n D ∧ Is D T
theorem MapIs.made (w : World) : MapIs (w.alloc (.map #[] 0)) w.heap.size 0 [] := ⟨_, World.ownsMap_made _ _ _ _, Is.nil⟩
theorem MapIs.below {w w' : World} {b n B : Nat} {T : List Bd} (h : MapIs w b n T) (hb : Below B w w') (hB : b < B) : MapIs w' b n T := by
  obtain ⟨D, ⟨es, clock, h1, h2⟩, h3⟩ := h
  exact ⟨D, ⟨es, clock, (hb.block b hB).trans h1, h2⟩, h3⟩
theorem MapIs.lt {w : World} {b n : Nat} {T : List Bd} (h : MapIs w b n T) : b < w.heap.size := by
  obtain ⟨D, h1, h3⟩ := h
  exact h1.lt
theorem MapIs.update {w : World} {b k : Nat} {T : List Bd} (h : MapIs w b k T) (n t : By) (hn : n.length ≤ 4294967281) (ht : t.length ≤ 4294967281) (hk : k ≤ 100) : ∃ w', (Instr.mapUpdate 44 (.map (some b)) (.string (bsl n)) (.string (bsl t))).run Tryd.prog w = .ok () w' ∧ MapIs w' b (k + 1) (put n t T) ∧ w.grownBy w' (some b) := by
  obtain ⟨D, h1, h3⟩ := h
  obtain ⟨w', r1, r2, r3⟩ := h1.update law Tryd.underlying44 (by simp only [maxLen]; omega) (key_of n hn) (val_of t ht)
  exact ⟨w', r1, ⟨_, r2, h3.put n t⟩, r3⟩
theorem MapIs.look {w : World} {b k : Nat} {T : List Bd} (h : MapIs w b k T) {n t : By} (hn : n.length ≤ 4294967281) (hf : find n T = some t) : (Instr.lookup 44 (.map (some b)) (.string (bsl n)) false).run Tryd.prog w = .ok (.string (bsl t)) w := by
  obtain ⟨D, h1, h3⟩ := h
  obtain ⟨v, ps, r1, r2⟩ := h1.lookup law Tryd.underlying44 (zeroS w) (plainElem_string Tryd.underlying9 (s := ⟨#[]⟩) (by decide)) (key_of n hn)
  rw [h3.at_ n t _ hf] at r2
  obtain ⟨s, rfl, e, _⟩ := plainElem_string_inv Tryd.underlying9 r2
  have e2 : t = s.data.toList := by have := congrArg Prod.fst e; simpa using this
  rw [r1, e2]; rfl
theorem Keys_any (mb : Option Nat) (W : World) : Calls Tryd.prog 23 #[.map mb] W fun e w' => e = .returned (.func (.func 30) #[] #[.pointer (some ⟨W.heap.size, 0, none⟩)]) ∧ w' = W.alloc (.cells #[.map mb] 44) :=
  (callsIn_wide (n := 5)).1 (AnyZ.keys_in Tryd.keysA Fence.wide 5 trivial rfl mb W)
theorem sortsA (m : Nat) : AnyZ.SortsIn Tryd.prog Tryd.sortedA_ren Fence.wide m :=
  ⟨fun blk off cap ss W hH hblk hsz => callsIn_wide.2 (Tryd.slices_Sort_string blk off cap ss W hH hblk hsz),
   fun p cap W => callsIn_wide.2 (Tryd.slices_Sort_string_none p cap W)⟩
theorem flat_str (l : List By) : l.flatMap encS = l.map encStr := by
  induction l with
  | nil => rfl
  | cons a r ih => rw [List.flatMap_cons, ih]; rfl
set_option maxHeartbeats 1000000 in
theorem Sorted_any (w : World) (b n : Nat) (T : List Bd) (h : MapIs w b n T) (hn : n ≤ 100) :
    Calls Tryd.prog 22 #[.func (.func 30) #[] #[.pointer (some ⟨w.heap.size, 0, none⟩)]] (w.alloc (.cells #[.map (some b)] 44)) fun e w' => ∃ v, e = .returned v ∧ OwnS w' w.heap.size v (T.map Prod.fst) ∧ Below w.heap.size w w' := by
  obtain ⟨D, hown, hI⟩ := h
  have hbl := hown.lt
  have hmax : Maps.size D ≤ n := hown.size_le
  have hseq : SeqGives Fence.wide 2 Tryd.prog 30 #[.pointer (some ⟨w.heap.size, 0, none⟩)] encStr (fun ss => ss.Perm (strKeys D)) (Maps.size D) (w.alloc (.cells #[.map (some b)] 44)) :=
    AnyZ.keys_gives (ρ := Tryd.keysA_ren) { Tryd.keysA with } Fence.wide _ trivial rfl (by omega) w.heap.size b n D _ (by simp) (by simp) (by
      obtain ⟨es, clock, hb, Ft, hs, hD⟩ := hown
      exact ⟨es, clock, (Below.heap_alloc _ _ b hbl).trans hb, Ft, hs, hD⟩)
  have cS := AnyZ.sorted_in Tryd.sortedA Fence.wide 5 trivial trivial trivial trivial rfl (by omega) (sortsA _) (enters_of Tryd.func29 (by kernel_rfl) rfl) 30 #[.pointer (some ⟨w.heap.size, 0, none⟩)] trivial (enters_of Tryd.func30 (by kernel_rfl) rfl) _ _ (by simp only [maxLen]; omega) (by omega) _ hseq
  refine ((callsIn_wide (n := 5)).1 cS).mono ?_
  rintro e w' ⟨v, ss, rfl, hS, hrow, hnil, hb⟩
  have hsort := hI.sorted hown law Tryd.underlying9 hS
  refine ⟨v, rfl, ?_, ((Below.refl _ w).alloc (Nat.le_refl _) _).trans (hb.mono (by simp))⟩
  have e1 : (ss.mergeSort fun x y => decide (x ≤ y)) = T.map Prod.fst := hsort
  have e2 : ss.length = (T.map Prod.fst).length := by rw [← hsort, List.length_mergeSort]
  rw [e1, e2] at hrow
  unfold OwnS
  rw [flat_str]
  exact row_base hrow (by simp)
end Go.Proofs.YtaallpfkgcndmaaDoor.Pm
