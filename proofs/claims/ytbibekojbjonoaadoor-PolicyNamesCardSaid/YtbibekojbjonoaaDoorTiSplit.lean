/-
  What strings.SplitSeq's iterator promises at a separator of one byte: the parts of the text, in order.
-/
import Derived.Test.YtbibekojbjonoaaDoorTiRange
import Derived.Test.YtbibekojbjonoaaDoorTiLeaf
import Derived.Test.YtbibekojbjonoaaDoorShelf
import Derived.Shelf.Abstract
import Derived.Shelf.RegionOpen
import Derived.OwnWalkIn
import Derived.TacticsInMore
import Derived.LoopNIn
import Derived.LoopIn
import Derived.Deep.RegionHeld
namespace Go.Proofs.YtbibekojbjonoaaDoor.Rf
open Go.RowKit Go.Shelf
attribute [local go_sem] Oper.semAt_some

/-- The parts of a text between the bytes c. -/
def parts (c : UInt8) : List UInt8 → List (List UInt8)
  | [] => [[]]
  | x :: r => if x = c then [] :: parts c r else match parts c r with
    | [] => [[x]]
    | p :: q => (x :: p) :: q

theorem parts_ne (c : UInt8) (l : List UInt8) : ∃ p q, parts c l = p :: q := by
  cases l with
  | nil => exact ⟨[], [], rfl⟩
  | cons x r =>
    unfold parts
    split
    · exact ⟨_, _, rfl⟩
    · split <;> exact ⟨_, _, rfl⟩
theorem parts_miss (c : UInt8) : ∀ l : List UInt8, Lib.indexByte l c = -1 → parts c l = [l]
  | [], _ => rfl
  | x :: r, h => by
    unfold Lib.indexByte at h
    by_cases hx : (x == c) = true
    · rw [if_pos hx] at h; omega
    · rw [if_neg hx] at h
      have hr : Lib.indexByte r c = -1 := by
        by_cases hm : (Lib.indexByte r c == -1) = true
        · exact beq_iff_eq.1 hm
        · rw [if_neg hm] at h
          have := Lib.indexByte_ge r c
          have : Lib.indexByte r c ≠ -1 := fun e => hm (beq_iff_eq.2 e)
          omega
      unfold parts
      rw [if_neg (fun e => hx (beq_iff_eq.2 e)), parts_miss c r hr]
theorem parts_hit (c : UInt8) : ∀ (l : List UInt8) (i : Nat), Lib.indexByte l c = (i : Int) → i < l.length ∧ parts c l = l.take i :: parts c (l.drop (i + 1))
  | [], i, h => by unfold Lib.indexByte at h; omega
  | x :: r, i, h => by
    unfold Lib.indexByte at h
    by_cases hx : (x == c) = true
    · rw [if_pos hx] at h
      obtain rfl : i = 0 := by omega
      rw [parts, if_pos (beq_iff_eq.1 hx)]
      simp
    · rw [if_neg hx] at h
      by_cases hm : (Lib.indexByte r c == -1) = true
      · rw [if_pos hm] at h; omega
      · rw [if_neg hm] at h
        have hge := Lib.indexByte_ge r c
        have hne : Lib.indexByte r c ≠ -1 := fun e => hm (beq_iff_eq.2 e)
        obtain ⟨h1, h2⟩ := parts_hit c r (i - 1) (by omega)
        have hi : 1 ≤ i := by omega
        refine ⟨by simp; omega, ?_⟩
        rw [parts, if_neg (fun e => hx (beq_iff_eq.2 e)), h2]
        obtain ⟨k, rfl⟩ : ∃ k, i = k + 1 := ⟨i - 1, by omega⟩
        simp

theorem SplitSeq_any (s sep : ByteArray) (w : World) :
    Calls Tryd.prog 11 #[.string s, .string sep] w fun e w' =>
      e = .returned (.func (.func 30) #[] #[.pointer (some ⟨w.heap.size + 1, 0, none⟩), .pointer (some ⟨w.heap.size, 0, none⟩), .pointer (some ⟨w.heap.size + 2, 0, none⟩)]) ∧
      ((w.alloc (.cells #[.string s] 9)).alloc (.cells #[.string sep] 9)).alloc (.cells #[.int .i64 0] 3) = w' := by
  go_enter Tryd.func11, Tryd.ntmps11
  go_wp2
  go_ret
  exact ⟨rfl, rfl⟩

/-- A string that is not too long. -/
abbrev Str := { x : ByteArray // x.size < 4294967281 }

def left (Bs : Nat) (W : World) : Nat := match W.cell? ⟨Bs, 0, none⟩ with
  | some (.string t) => t.size
  | _ => 0

set_option maxRecDepth 100000 in
set_option maxHeartbeats 2000000 in
theorem split_seq (c : UInt8) (s : ByteArray) (Bs n₀ : Nat) (w : World) (hs : s.size < 4294967281) (hB : Bs + 2 < n₀) (hn : n₀ ≤ w.heap.size)
    (h0 : w.cell? ⟨Bs, 0, none⟩ = some (.string s)) (hf : w.frozen? ⟨Bs, 0, none⟩ = false) (h1 : w.cell? ⟨Bs + 1, 0, none⟩ = some (.string ⟨#[c]⟩)) (h2 : w.cell? ⟨Bs + 2, 0, none⟩ = some (.int .i64 0)) :
    Seq1 Tryd.prog 30 #[.pointer (some ⟨Bs + 1, 0, none⟩), .pointer (some ⟨Bs, 0, none⟩), .pointer (some ⟨Bs + 2, 0, none⟩)] (fun x : Str => #[.string x.1]) Bs n₀
      (fun xs => xs.map (·.1.data.toList) = parts c s.data.toList) (fun pre => ∀ x ∈ pre, x.1.data.toList ∈ parts c s.data.toList) w := by
  intro l J Jx W hW hJ hJx hY hJ0
  have k0 : W.cell? ⟨Bs, 0, none⟩ = some (.string s) := (hW.cell (p := ⟨Bs, 0, none⟩) (by show Bs < _; omega)).trans h0
  have k1 : W.cell? ⟨Bs + 1, 0, none⟩ = some (.string ⟨#[c]⟩) := (hW.cell (p := ⟨Bs + 1, 0, none⟩) (by show Bs + 1 < _; omega)).trans h1
  have k2 : W.cell? ⟨Bs + 2, 0, none⟩ = some (.int .i64 0) := (hW.cell (p := ⟨Bs + 2, 0, none⟩) (by show Bs + 2 < _; omega)).trans h2
  have kf : W.frozen? ⟨Bs, 0, none⟩ = false := (hW.frozen (p := ⟨Bs, 0, none⟩) (by show Bs < _; omega)).trans hf
  have hl1 : (⟨#[c]⟩ : ByteArray).size = 1 := rfl
  refine callsIn_of_wp Tryd.func30 rfl trivial ?_ rfl
  simp only [Tryd.ntmps30, List.size_toArray, List.length_cons, List.length_nil, Nat.reduceAdd, Nat.reduceSub, Array.replicate_succ, Array.replicate_zero, List.push_toArray, List.append_toArray, List.nil_append, List.cons_append]
  gi_wp2
  gi_loopw [7] (fun _ wr => ∃ (pre : List Str) (t : ByteArray), wr.cell? ⟨Bs, 0, none⟩ = some (.string t) ∧ wr.frozen? ⟨Bs, 0, none⟩ = false ∧ wr.cell? ⟨Bs + 1, 0, none⟩ = some (.string ⟨#[c]⟩) ∧ wr.cell? ⟨Bs + 2, 0, none⟩ = some (.int .i64 0) ∧
      t.size ≤ s.size ∧ Hid (parts c s.data.toList = pre.map (·.1.data.toList) ++ parts c t.data.toList) ∧ J pre wr)
    (fun _ wr => left Bs wr)
  case atStart => exact ⟨[], s, k0, kf, k1, k2, Nat.le_refl _, Lib.hid rfl, hJ0⟩
  case round =>
    obtain ⟨pre, t, c0, cf, c1, c2, hts, hp, hj⟩ := hrel
    have htl : t.size < 4294967281 := by omega
    by_cases hm : Lib.indexByte t.data.toList c = -1
    · obtain ⟨fn, tmps, assign, body, hy, hR⟩ := hY pre ⟨t, htl⟩ wr hj
      gi_wp2
      refine ⟨trivial, rfl, (callsIn_wide.2 (Tryd.strings_Index_one _ _ _)).mono ?_⟩
      rintro e w' ⟨rfl, rfl⟩
      gi_wp2
      refine ⟨rfl, hR.mono ?_⟩
      have hpm := parts_miss c _ hm
      rintro e W3 (⟨rfl, hJ3, hk3⟩ | ⟨rfl, hJx3⟩)
      · gi_wp2
        go_end0
        exact ⟨⟨_, rfl⟩, .inl ⟨pre ++ [⟨t, htl⟩], by rw [hp.out, hpm]; simp, hJ3⟩⟩
      · gi_wp2
        go_end0
        exact ⟨⟨_, rfl⟩, .inr ⟨pre ++ [⟨t, htl⟩], fun x hx => by
          rw [hp.out, hpm]
          rcases List.mem_append.1 hx with h | h
          · exact List.mem_append.2 (.inl (List.mem_map_of_mem h))
          · simp at h; subst h; simp, hJx3⟩⟩
    · obtain ⟨i, hi⟩ : ∃ i : Nat, Lib.indexByte t.data.toList c = (i : Int) := ⟨(Lib.indexByte t.data.toList c).toNat, by have := Lib.indexByte_ge t.data.toList c; omega⟩
      clear hm
      obtain ⟨hit, hpt⟩ := parts_hit c _ i hi
      have HPT := Lib.hid hpt; clear hpt
      replace hit : i < t.size := hit
      have hi1 : (i : Int) ≤ (t.size : Int) := by omega
      have hi2 : (i : Int) + 1 ≤ (t.size : Int) := by omega
      have hi3 : decide ((i : Int) < 0) = false := by simp
      have hfr : (t.extract 0 i).data.toList = t.data.toList.take i := by rw [Lib.extract_data]; simp
      have HFR := Lib.hid hfr; clear hfr
      have hre : (t.extract (i + 1) t.size).data.toList = t.data.toList.drop (i + 1) := Lib.extract_to_end t (i + 1)
      have HRE := Lib.hid hre; clear hre
      have hxl : (t.extract 0 i).size < 4294967281 := by simp; omega
      obtain ⟨fn, tmps, assign, body, hy, hR⟩ := hY pre ⟨t.extract 0 i, hxl⟩ wr hj
      dsimp only at hy
      gi_wp2
      refine ⟨trivial, rfl, (callsIn_wide.2 (Tryd.strings_Index_one _ _ _)).mono ?_⟩
      rintro e w' ⟨rfl, rfl⟩
      gi_wp2
      refine ⟨rfl, hR.mono ?_⟩
      rintro e W3 (⟨rfl, hJ3, hk3⟩ | ⟨rfl, hJx3⟩)
      · have d0 : W3.cell? ⟨Bs, 0, none⟩ = some (.string t) := (hk3.cell (p := ⟨Bs, 0, none⟩) (by show Bs < _; omega)).trans c0
        have d1 : W3.cell? ⟨Bs + 1, 0, none⟩ = some (.string ⟨#[c]⟩) := (hk3.cell (p := ⟨Bs + 1, 0, none⟩) (by show Bs + 1 < _; omega)).trans c1
        have d2 : W3.cell? ⟨Bs + 2, 0, none⟩ = some (.int .i64 0) := (hk3.cell (p := ⟨Bs + 2, 0, none⟩) (by show Bs + 2 < _; omega)).trans c2
        have df : W3.frozen? ⟨Bs, 0, none⟩ = false := (hk3.frozen (p := ⟨Bs, 0, none⟩) (by show Bs < _; omega)).trans cf
        clear hy hR
        have e0 := World.cell?_setCell_same W3 ⟨Bs, 0, none⟩ (.string (t.extract (i + 1) t.size)) d0
        have e1 : (W3.setCell ⟨Bs, 0, none⟩ (.string (t.extract (i + 1) t.size))).cell? ⟨Bs + 1, 0, none⟩ = some (.string ⟨#[c]⟩) :=
          (World.cell?_setCell_far W3 ⟨Bs, 0, none⟩ ⟨Bs + 1, 0, none⟩ _ (by show Bs ≠ Bs + 1; omega)).trans d1
        have e2 : (W3.setCell ⟨Bs, 0, none⟩ (.string (t.extract (i + 1) t.size))).cell? ⟨Bs + 2, 0, none⟩ = some (.int .i64 0) :=
          (World.cell?_setCell_far W3 ⟨Bs, 0, none⟩ ⟨Bs + 2, 0, none⟩ _ (by show Bs ≠ Bs + 2; omega)).trans d2
        have ez : (t.extract (i + 1) t.size).size = t.size - (i + 1) := by simp
        have em : left Bs (W3.setCell ⟨Bs, 0, none⟩ (.string (t.extract (i + 1) t.size))) < left Bs w' := by
          unfold left; rw [e0, c0]; simp only; rw [ez]; omega
        have HE0 := Lib.hid e0; have HE1 := Lib.hid e1; have HE2 := Lib.hid e2; have HEZ := Lib.hid ez; have HEM := Lib.hid em
        clear e0 e1 e2 ez em
        gi_wp2
        exact ⟨⟨pre ++ [⟨t.extract 0 i, hxl⟩], t.extract (i + 1) t.size, HE0.out, by rw [World.frozen?_setCell]; exact df, HE1.out, HE2.out, by rw [HEZ.out]; omega,
          Lib.hid (by rw [hp.out, HPT.out, HRE.out]; simp), hJ _ _ _ hJ3⟩, HEM.out⟩
      · gi_wp2
        refine bodyPost_ret (results_none rfl _ _ _) rfl ?_
        exact ⟨⟨_, rfl⟩, .inr ⟨pre ++ [⟨t.extract 0 i, hxl⟩], fun x hx => by
          rw [hp.out, HPT.out]
          rcases List.mem_append.1 hx with h | h
          · exact List.mem_append.2 (.inl (List.mem_map_of_mem h))
          · simp at h; subst h; rw [HFR.out]; simp, hJx3⟩⟩
end Go.Proofs.YtbibekojbjonoaaDoor.Rf
