/-
  The contracts of starts, Length, at, Slice, Find of the reference of chapter 9.
-/
import Derived.Test.YtihhejeciagdpaaSfRMem
import Derived.Test.YtihhejeciagdpaaSfSlice
namespace Go.Proofs.Ytihhejeciagdpaa.Sf
open Go.RowKit Go.Shelf
set_option linter.unusedVariables false

theorem below_iterAt {w W : World} (h : Below w.heap.size w W) (s : ByteArray) (pos : Nat) : Below w.heap.size w (W.iterAt w.heap.size s pos) :=
  ⟨h.os, h.tape, h.output, by show w.heap.size ≤ (W.heap.setIfInBounds _ _).size; rw [Array.size_setIfInBounds]; exact h.size, fun k hk => by
    show (W.heap.setIfInBounds w.heap.size (.stringIter s pos))[k]? = _
    rw [Array.getElem?_setIfInBounds_ne (by omega)]; exact h.block k hk⟩
/-- What has been found in front of byte p. -/
def Pre (s : ByteArray) (p : Nat) (l : List Nat) : Prop := sts s = l ++ sfrom s p
theorem pre_step {s : ByteArray} {p : Nat} {l : List Nat} (h : Pre s p l) (hp : p < s.size) : Pre s (p + wd s p) (l ++ [p]) := by
  unfold Pre at h ⊢
  rw [h, sfrom_step hp, List.append_assoc]; rfl
theorem pre_end {s : ByteArray} {p : Nat} {l : List Nat} (h : Pre s p l) (hp : ¬ p < s.size) : al s = l ++ [s.size] := by
  unfold al
  unfold Pre at h
  rw [h, sfrom_end hp, List.append_nil]
theorem pre_len {s : ByteArray} {p : Nat} {l : List Nat} (h : Pre s p l) : l.length ≤ s.size := by
  have h1 := rc_le s
  unfold Pre at h
  unfold rc at h1
  rw [h, List.length_append] at h1; omega
/-- What starts leaves. -/
def St (w : World) (s : ByteArray) (e : Ending) (w' : World) : Prop := ∃ v, e = .returned v ∧ w'.ownsRow w.heap.size 3 1 v (al s).length (ints (al s)) ∧ Below w.heap.size w w'
set_option maxRecDepth 100000 in
set_option maxHeartbeats 4000000 in
theorem starts_any (s : ByteArray) (w : World) (hs : s.size ≤ 4294967281) : Calls Try.prog 34 #[.string s] w (St w s) := by
  obtain ⟨i0, hi, hz0, hz1, hz2⟩ := info_parts infoInt
  have hbk : ∀ n : Nat, n ≤ 4294967300 → n * 8 ≤ 140737488355328 := fun n h => by omega
  have HBK := Lib.hid hbk; clear hbk
  go_enter Try.func34, Try.ntmps34
  go_wp2_with fail
  go_loopw [3] (fun v wr => ∃ (p : Nat) (l : List Nat), Hid (wr.heap[w.heap.size]? = some (.stringIter s p)) ∧ Hid (Pre s p l) ∧ Hid (Below w.heap.size w wr) ∧ Hid (wr.ownsRow (w.heap.size + 1) 3 1 v l.length (ints l)))
    (fun _ wr => s.size - wr.iterPos w.heap.size)
  case atStart => exact ⟨0, [], Lib.hid (World.iter_heap w s 0), Lib.hid rfl, Lib.hid ((Below.refl _ w).alloc (Nat.le_refl _) _), Lib.hid (World.ownsRow_nil _ _ _ _)⟩
  case round =>
    obtain ⟨p, l, HT, HP, HB, HO⟩ := hrel
    have HQ := Lib.hid (iterPos_of HT.out)
    obtain ⟨VA, VC, hv⟩ := own_form HO.out
    subst hv
    have hll := pre_len HP.out
    have hWr : w.heap.size < wr.heap.size := (Array.getElem?_eq_some_iff.1 HT.out).1
    by_cases hlt : p < s.size
    · have hnx := fun ty => Lib.run_next_any_at (P := Try.prog) wr w.heap.size s p ty HT.out hlt
      have hwp := wd_pos hlt
      have hdd : (Utf8.decode s p).2 = wd s p := rfl
      rw [hdd] at hnx
      obtain ⟨W2, hW2⟩ : ∃ W2, wr.iterAt w.heap.size s (p + wd s p) = W2 := ⟨_, rfl⟩
      have HT2 := Lib.hid (Lib.iterAt_heap wr w.heap.size s p (p + wd s p) HT.out)
      have HB2 := Lib.hid (below_iterAt HB.out s (p + wd s p))
      have HO2 := Lib.hid (HO.out.kept (grown_iterAt wr w.heap.size s (p + wd s p)) (.inr (fun e => by
        have := HO.out.lt w.heap.size e; omega)))
      have hsz2 : wr.heap.size ≤ W2.heap.size := by rw [← hW2, Lib.iterAt_size]; exact Nat.le_refl _
      have HP2 := Lib.hid (pre_step HP.out hlt)
      rw [hW2] at hnx HT2 HB2 HO2
      clear hW2 hdd
      generalize (Utf8.decode s p).1 = cc at hnx
      go_wp2_with (at_builtin; refine wpList_append_own _ rfl _ _ 40 rfl (w.heap.size + 1) 3 i0 (.int .i64 0) 1 8 Try.underlying40 hi hz0 hz1 hz2 rfl (by decide) _ _ _ rfl (HO2.out.alloc _) ⟨W2.heap.size, 0, none⟩ 1 1 [.int .i64 (p : Int)] rfl rfl (one_new _ _ _) (by simp [Value.oneCell']) (by unfold maxLen; omega) (HBK.out _ (by omega)) (by simp; omega) ?_)
      intro v' w3 hown' hgrow _
      have HT3 : Hid (w3.heap[w.heap.size]? = some (.stringIter s (p + wd s p))) := Lib.hid (by
        rw [hgrow.block w.heap.size (by simp; omega) (fun e => by
          have := HO2.out.lt w.heap.size e.symm; omega)]
        exact (Below.heap_alloc _ _ _ (by omega)).trans HT2.out)
      have hb3 : Below w.heap.size w w3 := (HB2.out.alloc (by omega) _).grown hgrow (by simp; omega) (fun k e => by have := (HO2.out.lt k e).1; omega)
      have HB3 := Lib.hid hb3
      have HO3 : Hid (w3.ownsRow (w.heap.size + 1) 3 1 v' (l ++ [p]).length (ints (l ++ [p]))) := Lib.hid (by
        rw [ints_snoc, List.length_append]; exact hown')
      obtain ⟨VA2, VC2, hv2⟩ := own_form hown'
      subst hv2
      clear hown' hgrow hb3
      go_wp2_with fail
      go_roundw
      case rel => exact ⟨p + wd s p, l ++ [p], HT3, HP2, HB3, HO3⟩
      case measure => rw [iterPos_of HT3.out, HQ.out]; omega
    · have hnx := fun ty => Lib.run_next_end_at (P := Try.prog) wr w.heap.size s p ty HT.out hlt
      have HE := Lib.hid (pre_end HP.out hlt)
      go_wp2_with (at_builtin; refine wpList_append_own _ rfl _ _ 40 rfl (w.heap.size + 1) 3 i0 (.int .i64 0) 1 8 Try.underlying40 hi hz0 hz1 hz2 rfl (by decide) _ _ _ rfl (HO.out.alloc _) ⟨wr.heap.size, 0, none⟩ 1 1 [.int .i64 (s.size : Int)] rfl rfl (one_new _ _ _) (by simp [Value.oneCell']) (by unfold maxLen; omega) (HBK.out _ (by omega)) (by simp; omega) ?_)
      intro v' w3 hown' hgrow _
      have hb3 : Below w.heap.size w w3 := (HB.out.alloc (by omega) _).grown hgrow (by simp; omega) (fun k e => by have := (HO.out.lt k e).1; omega)
      have HB3 := Lib.hid hb3
      have HO3 : Hid (w3.ownsRow w.heap.size 3 1 v' (al s).length (ints (al s))) := Lib.hid (by
        rw [HE.out, ints_snoc, List.length_append]
        obtain ⟨q1, q2⟩ := hown'
        refine ⟨q1, ?_⟩
        rcases q2 with q | ⟨g, cap, cur, c1, c2, c3⟩
        · exact .inl q
        · exact .inr ⟨g, cap, cur, c1, by omega, c3⟩)
      obtain ⟨VA2, VC2, hv2⟩ := own_form hown'
      subst hv2
      clear hown' hgrow hb3
      go_wp2_with fail
      go_ret
      exact ⟨_, rfl, HO3.out, HB3.out⟩
end Go.Proofs.Ytihhejeciagdpaa.Sf
