/-
  What strings.SplitSeq's iterator promises to a body that may write: the parts of the text, in order.
-/
import Derived.Test.YtbibekojbjonoaaDoorPoRange
import Derived.Test.YtbibekojbjonoaaDoorTiSplit
import Derived.Test.YtbibekojbjonoaaDoorPoTrip
import Derived.Test.YtbibekojbjonoaaDoorTiLeaf
import Derived.Test.YtbibekojbjonoaaDoorShelf
import Derived.Shelf.Abstract
import Derived.Shelf.RegionOpen
import Derived.OwnWalkIn
import Derived.TacticsInMore
import Derived.LoopNIn
import Derived.LoopIn
import Derived.Deep.RegionHeld
namespace Go.Proofs.YtbibekojbjonoaaDoor.Rk
open Go.RowKit Go.Shelf Rf
attribute [local go_sem] Oper.semAt_some
set_option linter.unusedVariables false

/-- The three blocks of the iterator stay. -/
def Kb (Bs : Nat) (W W' : World) : Prop := ∀ k, k ≤ 2 → W'.heap[Bs + k]? = W.heap[Bs + k]?
theorem Kb.t {Bs : Nat} {A B C : World} (h : Kb Bs A B) (k : Kb Bs B C) : Kb Bs A C := fun i hi => (k i hi).trans (h i hi)
theorem Kb.b {Bs : Nat} {w : World} (hB : Bs + 2 < w.heap.size) (W : World) (l : Nat) (o o' : Obj) (hl : w.heap.size ≤ l) (_ : W.heap[l]? = some o) (_ : o.isCells = false) (_ : o.isWalk = false) : Kb Bs W (W.putObj l o') :=
  fun k hk => World.putObj_heap_other (by omega)
theorem Kb.cell {Bs : Nat} {W W' : World} (h : Kb Bs W W') (k : Nat) (hk : k ≤ 2) {v : Value} (hv : W.cell? ⟨Bs + k, 0, none⟩ = some v) : W'.cell? ⟨Bs + k, 0, none⟩ = some v := by
  unfold World.cell? at hv ⊢; rw [show W'.heap[Bs + k]? = W.heap[Bs + k]? from h k hk]; exact hv
theorem Kb.frozen {Bs : Nat} {W W' : World} (h : Kb Bs W W') (k : Nat) (hk : k ≤ 2) (hv : W.frozen? ⟨Bs + k, 0, none⟩ = false) : W'.frozen? ⟨Bs + k, 0, none⟩ = false := by
  unfold World.frozen? at hv ⊢; rw [show W'.heap[Bs + k]? = W.heap[Bs + k]? from h k hk]; exact hv
set_option maxRecDepth 100000 in
set_option maxHeartbeats 2000000 in
theorem split_seqK (c : UInt8) (s : ByteArray) (Bs : Nat) (w : World) (hs : s.size < 4294967281) (hB : Bs + 2 < w.heap.size)
    (h0 : w.cell? ⟨Bs, 0, none⟩ = some (.string s)) (hf : w.frozen? ⟨Bs, 0, none⟩ = false) (h1 : w.cell? ⟨Bs + 1, 0, none⟩ = some (.string ⟨#[c]⟩)) (h2 : w.cell? ⟨Bs + 2, 0, none⟩ = some (.int .i64 0)) :
    SeqK Tryd.prog 30 #[.pointer (some ⟨Bs + 1, 0, none⟩), .pointer (some ⟨Bs, 0, none⟩), .pointer (some ⟨Bs + 2, 0, none⟩)] (fun x : Str => #[.string x.1]) Bs (Kb Bs)
      (fun pre => ∃ r, parts c s.data.toList = pre.map (·.1.data.toList) ++ r) (fun xs => xs.map (·.1.data.toList) = parts c s.data.toList) w := by
  intro l J Jx W hW hJ hJx hY hJ0
  have k0 : W.cell? ⟨Bs, 0, none⟩ = some (.string s) := (hW.cell (p := ⟨Bs, 0, none⟩) (by show Bs < _; omega)).trans h0
  have k1 : W.cell? ⟨Bs + 1, 0, none⟩ = some (.string ⟨#[c]⟩) := (hW.cell (p := ⟨Bs + 1, 0, none⟩) (by show Bs + 1 < _; omega)).trans h1
  have k2 : W.cell? ⟨Bs + 2, 0, none⟩ = some (.int .i64 0) := (hW.cell (p := ⟨Bs + 2, 0, none⟩) (by show Bs + 2 < _; omega)).trans h2
  have kf : W.frozen? ⟨Bs, 0, none⟩ = false := (hW.frozen (p := ⟨Bs, 0, none⟩) (by show Bs < _; omega)).trans hf
  have hl1 : (⟨#[c]⟩ : ByteArray).size = 1 := rfl
  refine callsIn_of_wp Tryd.func30 rfl trivial ?_ rfl
  simp only [Tryd.ntmps30, List.size_toArray, List.length_cons, List.length_nil, Nat.reduceAdd, Nat.reduceSub, Array.replicate_succ, Array.replicate_zero, List.push_toArray, List.append_toArray, List.nil_append, List.cons_append]
  gi_wp2
  gi_loopw [7] (fun _ wr => ∃ (pre : List Str) (t : ByteArray), wr.cell? ⟨Bs, 0, none⟩ = some (.string t) ∧ wr.frozen? ⟨Bs, 0, none⟩ = false ∧ wr.cell? ⟨Bs + 1, 0, none⟩ = some (.string ⟨#[c]⟩) ∧ wr.cell? ⟨Bs + 2, 0, none⟩ = some (.int .i64 0) ∧
      t.size ≤ s.size ∧ Hid (parts c s.data.toList = pre.map (·.1.data.toList) ++ parts c t.data.toList) ∧ J pre wr)
    (fun _ wr => left Bs wr)
  case atStart => exact ⟨[], s, k0, kf, k1, k2, Nat.le_refl _, Lib.hid rfl, hJ0⟩
  case round =>
    obtain ⟨pre, t, c0, cf, c1, c2, hts, hp, hj⟩ := hrel
    have htl : t.size < 4294967281 := by omega
    by_cases hm : Lib.indexByte t.data.toList c = -1
    · have hpm := parts_miss c _ hm
      have hpf : parts c s.data.toList = (pre ++ [(⟨t, htl⟩ : Str)]).map (·.1.data.toList) ++ [] := by rw [hp.out, hpm]; simp
      have HPF := Lib.hid hpf
      obtain ⟨fn, tmps, assign, body, hy, hR⟩ := hY pre ⟨t, htl⟩ wr ⟨_, hpf⟩ hj
      clear hpm hpf
      gi_wp2
      refine ⟨trivial, rfl, (callsIn_wide.2 (Tryd.strings_Index_one _ _ _)).mono ?_⟩
      rintro e w' ⟨rfl, rfl⟩
      gi_wp2
      refine ⟨rfl, hR.mono ?_⟩
      rintro e W3 (⟨rfl, hJ3, hk3⟩ | ⟨rfl, hJx3⟩)
      · gi_wp2
        go_end0
        exact ⟨⟨_, rfl⟩, .inl ⟨pre ++ [⟨t, htl⟩], by rw [HPF.out, List.append_nil], hJ3⟩⟩
      · gi_wp2
        go_end0
        exact ⟨⟨_, rfl⟩, .inr ⟨pre ++ [⟨t, htl⟩], ⟨_, HPF.out⟩, hJx3⟩⟩
    · obtain ⟨i, hi⟩ : ∃ i : Nat, Lib.indexByte t.data.toList c = (i : Int) := ⟨(Lib.indexByte t.data.toList c).toNat, by have := Lib.indexByte_ge t.data.toList c; omega⟩
      clear hm
      obtain ⟨hit, hpt⟩ := parts_hit c _ i hi
      have HPT := Lib.hid hpt; clear hpt
      replace hit : i < t.size := hit
      have hi1 : (i : Int) ≤ (t.size : Int) := by omega
      have hi2 : (i : Int) + 1 ≤ (t.size : Int) := by omega
      have hi3 : decide ((i : Int) < 0) = false := by simp
      have hfr : (t.extract 0 i).data.toList = t.data.toList.take i := by rw [Lib.extract_data]; simp
      have HFR := Lib.hid hfr; clear hfr
      have hre : (t.extract (i + 1) t.size).data.toList = t.data.toList.drop (i + 1) := Lib.extract_to_end t (i + 1)
      have HRE := Lib.hid hre; clear hre
      have hxl : (t.extract 0 i).size < 4294967281 := by simp; omega
      have hpf : parts c s.data.toList = (pre ++ [(⟨t.extract 0 i, hxl⟩ : Str)]).map (·.1.data.toList) ++ parts c (t.extract (i + 1) t.size).data.toList := by rw [hp.out, HPT.out, HRE.out, List.map_append, List.map_singleton, HFR.out]; simp
      have HPF := Lib.hid hpf
      obtain ⟨fn, tmps, assign, body, hy, hR⟩ := hY pre ⟨t.extract 0 i, hxl⟩ wr ⟨_, hpf⟩ hj
      clear hpf
      dsimp only at hy
      gi_wp2
      refine ⟨trivial, rfl, (callsIn_wide.2 (Tryd.strings_Index_one _ _ _)).mono ?_⟩
      rintro e w' ⟨rfl, rfl⟩
      gi_wp2
      refine ⟨rfl, hR.mono ?_⟩
      rintro e W3 (⟨rfl, hJ3, hk3⟩ | ⟨rfl, hJx3⟩)
      · have d0 : W3.cell? ⟨Bs, 0, none⟩ = some (.string t) := hk3.cell 0 (by omega) c0
        have d1 : W3.cell? ⟨Bs + 1, 0, none⟩ = some (.string ⟨#[c]⟩) := hk3.cell 1 (by omega) c1
        have d2 : W3.cell? ⟨Bs + 2, 0, none⟩ = some (.int .i64 0) := hk3.cell 2 (by omega) c2
        have df : W3.frozen? ⟨Bs, 0, none⟩ = false := hk3.frozen 0 (by omega) cf
        clear hy hR
        have e0 := World.cell?_setCell_same W3 ⟨Bs, 0, none⟩ (.string (t.extract (i + 1) t.size)) d0
        have e1 : (W3.setCell ⟨Bs, 0, none⟩ (.string (t.extract (i + 1) t.size))).cell? ⟨Bs + 1, 0, none⟩ = some (.string ⟨#[c]⟩) :=
          (World.cell?_setCell_far W3 ⟨Bs, 0, none⟩ ⟨Bs + 1, 0, none⟩ _ (by show Bs ≠ Bs + 1; omega)).trans d1
        have e2 : (W3.setCell ⟨Bs, 0, none⟩ (.string (t.extract (i + 1) t.size))).cell? ⟨Bs + 2, 0, none⟩ = some (.int .i64 0) :=
          (World.cell?_setCell_far W3 ⟨Bs, 0, none⟩ ⟨Bs + 2, 0, none⟩ _ (by show Bs ≠ Bs + 2; omega)).trans d2
        have ez : (t.extract (i + 1) t.size).size = t.size - (i + 1) := by simp
        have em : left Bs (W3.setCell ⟨Bs, 0, none⟩ (.string (t.extract (i + 1) t.size))) < left Bs w' := by
          unfold left; rw [e0, c0]; simp only; rw [ez]; omega
        have HE0 := Lib.hid e0; have HE1 := Lib.hid e1; have HE2 := Lib.hid e2; have HEZ := Lib.hid ez; have HEM := Lib.hid em
        clear e0 e1 e2 ez em
        gi_wp2
        exact ⟨⟨pre ++ [⟨t.extract 0 i, hxl⟩], t.extract (i + 1) t.size, HE0.out, by rw [World.frozen?_setCell]; exact df, HE1.out, HE2.out, by rw [HEZ.out]; omega,
          HPF, hJ _ _ _ hJ3⟩, HEM.out⟩
      · gi_wp2
        refine bodyPost_ret (results_none rfl _ _ _) rfl ?_
        exact ⟨⟨_, rfl⟩, .inr ⟨pre ++ [⟨t.extract 0 i, hxl⟩], ⟨_, HPF.out⟩, hJx3⟩⟩
end Go.Proofs.YtbibekojbjonoaaDoor.Rk
