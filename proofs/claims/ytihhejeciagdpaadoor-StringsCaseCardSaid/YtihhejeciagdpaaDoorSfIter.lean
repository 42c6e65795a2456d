/-
  What the iterators positions and parts of package strfunc promise.
-/
import Derived.Test.YtihhejeciagdpaaDoorChecked
import Derived.Test.YtihhejeciagdpaaDoorSfOcc
import Derived.Test.YtihhejeciagdpaaDoorSfWB
import Derived.WalkKit
import Derived.WalkSpells
import Derived.WalkLawsBesides
import Derived.Outline
import Derived.Deep.QuietTactic
import Derived.BigQuiet
import Derived.Lib.Hide
import Derived.IntWalk
import Derived.RangeFuncNested
import Derived.RangeFuncBound
import Derived.RangeFuncCalls
import Derived.RangeFuncLeaves
import Derived.RangeFuncFrom
import Derived.Shelf.Abstract
import Derived.Shelf.RegionOpen
import Derived.OwnWalkIn
import Derived.TacticsInMore
import Derived.LoopNIn
import Derived.LoopIn
import Derived.Deep.RegionHeld
import Derived.Lib.OthersKept
import Derived.Sort.QuietIn
namespace Go.Proofs.YtihhejeciagdpaaDoor.Sf
open Go.RowKit Go.Shelf
attribute [local go_sem] Oper.semAt_some
set_option linter.unusedVariables false

theorem ret_int {k : IntKind} {a b : Int} (h : a = b) : Ending.returned (.int k a) = .returned (.int k b) := by rw [h]
theorem ret_bool {a b : Bool} (h : a = b) : Ending.returned (.bool a) = .returned (.bool b) := by rw [h]
theorem ret_str {a b : ByteArray} (h : a = b) : Ending.returned (.string a) = .returned (.string b) := by rw [h]
theorem below_drewN {B : Nat} {a w : World} (h : Below B a w) (n : Nat) : Below B a (w.drewN n) := ⟨h.os, h.tape, h.output, h.size, h.block⟩
theorem asked_wide {P : Program} {o : Oper} {a : Act} {C : World → Prop} : Oper.askedIn Fence.wide P o a C = True := eq_true (fun _ _ _ _ => trivial)
theorem asked_round {l : Nat} {P : Program} {o : Oper} {a : Act} {C : World → Prop} : Oper.askedIn (Fence.wide.inRound l) P o a C = True := eq_true (fun _ _ _ _ => trivial)
theorem wide_fn (f : FuncId) : Fence.wide.fn f = True := rfl
theorem round_fn (l : Nat) (f : FuncId) : (Fence.wide.inRound l).fn f = True := rfl
attribute [local simp] asked_wide asked_round wide_fn round_fn
theorem emp_no {s : ByteArray} (h : s.size ≠ 0) : s.toList.isEmpty = false := by
  rw [Lib.toList_data]
  cases hl : s.data.toList with
  | nil => exact absurd (by rw [← size_list, hl]; rfl) h
  | cons _ _ => rfl
theorem newCell (W : World) (v : Value) (t : TypeId) : (W.alloc (.cells #[v] t)).cell? ⟨W.heap.size, 0, none⟩ = some v ∧ (W.alloc (.cells #[v] t)).frozen? ⟨W.heap.size, 0, none⟩ = false :=
  ⟨by simp, by simp⟩
theorem oldCell {W : World} {a : Addr} {v : Value} (o : Obj) (h : W.cell? a = some v) : (W.alloc o).cell? a = some v :=
  cell_kept h (World.grownBy_alloc W o none) (fun r e => by cases e)
theorem oldFrozen {W : World} {a : Addr} {v : Value} (o : Obj) (h : W.cell? a = some v) (hf : W.frozen? a = false) : (W.alloc o).frozen? a = false :=
  (frozen_kept h (World.grownBy_alloc W o none) (fun r e => by cases e)).trans hf
theorem keeps_of {W W' : World} (h : Below W.heap.size W W') : KeepsOthers W W' := ⟨h.size, fun k _ hk _ => (h.block k (Array.getElem?_eq_some_iff.1 hk).1).trans hk⟩
theorem iterPos_of {W : World} {k p : Nat} {s : ByteArray} (h : W.heap[k]? = some (.stringIter s p)) : W.iterPos k = p := by simp [World.iterPos, h]
theorem len_lt {α : Type} {l pre : List α} {x : α} {r : List α} (h : l = pre ++ (x :: r)) : pre.length < l.length := by rw [h]; simp
/-- What a round keeps: walks, and the blocks of the two captured variables. -/
def Kp (a b : Nat) (W W' : World) : Prop := KeepsWalks W W' ∧ W'.heap[a]? = W.heap[a]? ∧ W'.heap[b]? = W.heap[b]?
theorem Kp.t {a b : Nat} {A B C : World} (h : Kp a b A B) (k : Kp a b B C) : Kp a b A C := ⟨h.1.trans k.1, k.2.1.trans h.2.1, k.2.2.trans h.2.2⟩
theorem Kp.b {a b : Nat} {w : World} (ha : a < w.heap.size) (hb : b < w.heap.size) (W : World) (l : Nat) (o o' : Obj) (hl : w.heap.size ≤ l) (h : W.heap[l]? = some o) (hc : o.isCells = false) (hw : o.isWalk = false) : Kp a b W (W.putObj l o') :=
  ⟨KeepsWalks.putObj _ h hw, World.putObj_heap_other (by omega), World.putObj_heap_other (by omega)⟩
theorem Kp.of {a b : Nat} {W W' : World} (h : Below W.heap.size W W') (ha : a < W.heap.size) (hb : b < W.heap.size) : Kp a b W W' := ⟨(keeps_of h).walks, h.block a ha, h.block b hb⟩
theorem cell_hp {W W' : World} {b : Nat} {v : Value} (h : W'.heap[b]? = W.heap[b]?) (hv : W.cell? ⟨b, 0, none⟩ = some v) : W'.cell? ⟨b, 0, none⟩ = some v := by
  unfold World.cell? at hv ⊢; rw [show W'.heap[b]? = W.heap[b]? from h]; exact hv
theorem walk_same {W W' : World} (h : KeepsWalks W W') {k : Nat} {s : ByteArray} {p : Nat} (hk : W.heap[k]? = some (.stringIter s p)) : W'.heap[k]? = some (.stringIter s p) := h.same k _ hk rfl
theorem grown_iterAt (W : World) (k : Nat) (s : ByteArray) (p : Nat) : W.grownBy (W.iterAt k s p) (some k) :=
  ⟨rfl, rfl, rfl, by rw [Lib.iterAt_size]; exact Nat.le_refl _, fun i _ hi => Lib.iterAt_other W k i s p (fun e => hi (by rw [e]))⟩

abbrev Ps := Nat × Nat
/-- The positions from byte p on, the first of which is the k-th. -/
def posf (s : ByteArray) (p k : Nat) : List Ps := (sfrom s p ++ [s.size]).zipIdx k
theorem posf_step {s : ByteArray} {p : Nat} (h : p < s.size) (k : Nat) : posf s p k = (p, k) :: posf s (p + wd s p) (k + 1) := by
  unfold posf; rw [sfrom_step h]; rfl
theorem posf_end {s : ByteArray} {p : Nat} (h : ¬ p < s.size) (k : Nat) : posf s p k = [(s.size, k)] := by
  unfold posf; rw [sfrom_end h]; rfl
theorem posl_posf (s : ByteArray) : posl s = posf s 0 0 := rfl
theorem posl_len (s : ByteArray) : (posl s).length = rc s + 1 := by simp [posl, al, rc]
theorem positions_any (s : ByteArray) (w : World) :
    Calls Tryd.prog 33 #[.string s] w fun e w' =>
      e = .returned (.func (.func 40) #[] #[.pointer (some ⟨w.heap.size, 0, none⟩)]) ∧ w.alloc (.cells #[.string s] 9) = w' := by
  go_enter Tryd.func33, Tryd.ntmps33
  go_wp2
  go_ret
  exact ⟨rfl, rfl⟩
theorem parts_any (s t : ByteArray) (w : World) :
    Calls Tryd.prog 23 #[.string s, .string t] w fun e w' =>
      e = .returned (.func (.func 34) #[] #[.pointer (some ⟨w.heap.size, 0, none⟩), .pointer (some ⟨w.heap.size + 1, 0, none⟩)]) ∧ (w.alloc (.cells #[.string s] 9)).alloc (.cells #[.string t] 9) = w' := by
  go_enter Tryd.func23, Tryd.ntmps23
  go_wp2
  go_ret
  exact ⟨rfl, rfl⟩
set_option maxRecDepth 100000 in
set_option maxHeartbeats 2000000 in
theorem pos_seq (s : ByteArray) (Bs : Nat) (w : World) (hs : s.size ≤ 4294967281) (hB : Bs < w.heap.size) (h0 : w.cell? ⟨Bs, 0, none⟩ = some (.string s)) :
    SeqStopsK Fence.wide 2 Tryd.prog 40 #[.pointer (some ⟨Bs, 0, none⟩)] (fun x : Ps => #[.int .i64 (x.2 : Int), .int .i64 ((min x.1 s.size : Nat) : Int)]) (Kp Bs Bs)
      (fun xs => xs = posl s) (fun pre => pre <+: posl s) (posl s).length w := by
  intro l J Jx W hW hJ hJx hY hJ0
  have k0 : W.cell? ⟨Bs, 0, none⟩ = some (.string s) := (hW.cell (p := ⟨Bs, 0, none⟩) (by show Bs < _; omega)).trans h0
  have hBW : Bs < W.heap.size := Nat.lt_of_lt_of_le hB hW.size
  refine callsIn_of_wp Tryd.func40 rfl trivial ?_ rfl
  simp only [Tryd.ntmps40, List.size_toArray, List.length_cons, List.length_nil, Nat.reduceAdd, Nat.reduceSub, Array.replicate_succ, Array.replicate_zero, List.push_toArray, List.append_toArray, List.nil_append, List.cons_append]
  gi_wp2
  gi_loopw [3] (fun i wr => ∃ (pre : List Ps) (k p : Nat), i = .int .i64 k ∧ k ≤ p ∧ k ≤ s.size ∧ wr.cell? ⟨Bs, 0, none⟩ = some (.string s) ∧ Hid (wr.heap[W.heap.size]? = some (.stringIter s p)) ∧ Hid (posl s = pre ++ posf s p k) ∧ J pre wr)
    (fun _ wr => s.size - wr.iterPos W.heap.size)
  case atStart => exact ⟨[], 0, 0, rfl, Nat.le_refl _, Nat.zero_le _, oldCell _ k0, Lib.hid (World.iter_heap W s 0), Lib.hid (posl_posf s), hJ [] W _ none hJ0 (World.grownBy_alloc W _ none) (fun r e => by cases e)⟩
  case round =>
    obtain ⟨pre, k, p, rfl, hk, hk3, c0, HT, HP, hj⟩ := hrel
    have HQ := Lib.hid (iterPos_of HT.out)
    have hWr : W.heap.size < wr.heap.size := (Array.getElem?_eq_some_iff.1 HT.out).1
    by_cases hlt : p < s.size
    · have hnx := fun ty => Lib.run_next_any_at (P := Tryd.prog) wr W.heap.size s p ty HT.out hlt
      have hwp := wd_pos hlt
      have hdd : (Utf8.decode s p).2 = wd s p := rfl
      rw [hdd] at hnx
      have HE := Lib.hid (posf_step hlt k)
      obtain ⟨W2, hW2⟩ : ∃ W2, wr.iterAt W.heap.size s (p + wd s p) = W2 := ⟨_, rfl⟩
      have HT2 := Lib.hid (Lib.iterAt_heap wr W.heap.size s p (p + wd s p) HT.out)
      have c2 : (wr.iterAt W.heap.size s (p + wd s p)).cell? ⟨Bs, 0, none⟩ = some (.string s) := cell_hp (Lib.iterAt_other _ _ _ _ _ (by omega)) c0
      have hj2 := hJ pre wr _ (some W.heap.size) hj (grown_iterAt wr W.heap.size s (p + wd s p)) (fun r e => by cases e; exact ⟨Nat.le_refl _, _, HT.out, rfl⟩)
      rw [hW2] at hnx HT2 c2 hj2
      obtain ⟨fn, tmps, assign, body, hy, hR⟩ := hY pre (p, k) W2 hj2 (len_lt (HP.out.trans (by rw [HE.out])))
      dsimp only at hy
      rw [Nat.min_eq_left (Nat.le_of_lt hlt)] at hy
      clear hW2 hdd
      generalize (Utf8.decode s p).1 = cc at hnx
      gi_wp2
      refine hR.mono ?_
      rintro e W3 (⟨rfl, hJ3, hk3⟩ | ⟨rfl, hJx3⟩)
      · have d0 : W3.cell? ⟨Bs, 0, none⟩ = some (.string s) := cell_hp hk3.2.1 c2
        have HT3 := Lib.hid (walk_same hk3.1 HT2.out)
        gi_wp2
        go_roundw
        case rel => exact ⟨pre ++ [(p, k)], k + 1, p + wd s p, by go_num, by omega, by omega, d0, HT3, Lib.hid (by rw [HP.out, HE.out]; simp), hJ3⟩
        case measure => rw [iterPos_of HT3.out, HQ.out]; omega
      · gi_wp2
        refine bodyPost_ret (results_none rfl _ _ _) rfl ?_
        exact ⟨⟨_, rfl⟩, .inr ⟨_, by rw [HP.out, HE.out]; exact ⟨posf s (p + wd s p) (k + 1), by simp⟩, hJx3⟩⟩
    · have hnx := fun ty => Lib.run_next_end_at (P := Tryd.prog) wr W.heap.size s p ty HT.out hlt
      have HE := Lib.hid (posf_end hlt k)
      obtain ⟨fn, tmps, assign, body, hy, hR⟩ := hY pre (s.size, k) wr hj (len_lt (HP.out.trans (by rw [HE.out])))
      dsimp only at hy
      rw [Nat.min_self] at hy
      gi_wp2
      refine hR.mono ?_
      rintro e W3 (⟨rfl, hJ3, hk3⟩ | ⟨rfl, hJx3⟩)
      · gi_wp2
        go_end0
        exact ⟨⟨_, rfl⟩, .inl ⟨pre ++ [(s.size, k)], by rw [HP.out, HE.out], hJ3⟩⟩
      · gi_wp2
        go_end0
        exact ⟨⟨_, rfl⟩, .inr ⟨pre ++ [(s.size, k)], by rw [HP.out, HE.out]; exact ⟨[], by simp⟩, hJx3⟩⟩
theorem hasP_any (s t : ByteArray) (p : Nat) (w : World) : Calls Tryd.prog 35 #[.string (s.extract p s.size), .string t] w fun e w' => e = .returned (.bool (hasP s t p)) ∧ w' = w :=
  Tryd.strings_HasPrefix _ _ _
/-- A part, or nothing if it were greater than the whole. -/
def cl (s b : ByteArray) : ByteArray := if b.size ≤ s.size then b else ByteArray.empty
theorem cl_size (s b : ByteArray) : (cl s b).size ≤ s.size := by
  unfold cl
  split
  · assumption
  · exact Nat.zero_le _
theorem cl_ext (s : ByteArray) (a b : Nat) : cl s (s.extract a b) = s.extract a b := by
  unfold cl
  rw [if_pos]
  rw [ByteArray.size_extract]; omega
abbrev Pt := ByteArray × Nat
def prt (s t : ByteArray) : List Pt := (parts s t).zipIdx
def prf (s t : ByteArray) (p f i : Nat) : List Pt := (dv s t (oc s t (sfrom s p) f) f).zipIdx i
theorem prt_prf (s t : ByteArray) : prt s t = prf s t 0 0 0 := rfl
theorem prf_yes {s t : ByteArray} {p f : Nat} (h : p < s.size) (i : Nat) (hy : (t.size ≠ 0 ∧ f ≤ p) ∧ hasP s t p = true) : prf s t p f i = (s.extract f p, i) :: prf s t (p + wd s p) (p + t.size) (i + 1) := by
  unfold prf; rw [sfrom_step h, oc_yes hy]; rfl
theorem prf_no {s t : ByteArray} {p f : Nat} (h : p < s.size) (i : Nat) (hy : ¬ ((t.size ≠ 0 ∧ f ≤ p) ∧ hasP s t p = true)) : prf s t p f i = prf s t (p + wd s p) f i := by
  unfold prf; rw [sfrom_step h, oc_no hy]
theorem prf_end {s t : ByteArray} {p : Nat} (h : ¬ p < s.size) (f i : Nat) : prf s t p f i = [(s.extract f s.size, i)] := by
  unfold prf; rw [sfrom_end h]; rfl
theorem prt_len (s t : ByteArray) : (prt s t).length = (occ s t).length + 1 := by simp [prt, parts_len]
set_option maxRecDepth 100000 in
set_option maxHeartbeats 2000000 in
theorem prt_seq (s t : ByteArray) (Bs Bt : Nat) (w : World) (hs : s.size ≤ 4294967281) (hB : Bs < w.heap.size) (h0 : w.cell? ⟨Bs, 0, none⟩ = some (.string s)) (ht : t.size ≤ 4294967281) (hT : Bt < w.heap.size) (h1 : w.cell? ⟨Bt, 0, none⟩ = some (.string t)) :
    SeqStopsK Fence.wide 2 Tryd.prog 34 #[.pointer (some ⟨Bs, 0, none⟩), .pointer (some ⟨Bt, 0, none⟩)] (fun x : Pt => #[.int .i64 (x.2 : Int), .string (cl s x.1)]) (Kp Bs Bt)
      (fun xs => xs = prt s t) (fun pre => pre <+: prt s t) (prt s t).length w := by
  intro l J Jx W hW hJ hJx hY hJ0
  have k0 : W.cell? ⟨Bs, 0, none⟩ = some (.string s) := (hW.cell (p := ⟨Bs, 0, none⟩) (by show Bs < _; omega)).trans h0
  have k1 : W.cell? ⟨Bt, 0, none⟩ = some (.string t) := (hW.cell (p := ⟨Bt, 0, none⟩) (by show Bt < _; omega)).trans h1
  have hBW : Bs < W.heap.size := Nat.lt_of_lt_of_le hB hW.size
  have hTW : Bt < W.heap.size := Nat.lt_of_lt_of_le hT hW.size
  refine callsIn_of_wp Tryd.func34 rfl trivial ?_ rfl
  simp only [Tryd.ntmps34, List.size_toArray, List.length_cons, List.length_nil, Nat.reduceAdd, Nat.reduceSub, Array.replicate_succ, Array.replicate_zero, List.push_toArray, List.append_toArray, List.nil_append, List.cons_append]
  gi_wp2
  gi_loopw [4, 5] (fun i f wr => ∃ (pre : List Pt) (k fr p : Nat), i = .int .i64 k ∧ f = .int .i64 fr ∧ k ≤ p ∧ k ≤ s.size ∧ fr ≤ s.size ∧ wr.cell? ⟨Bs, 0, none⟩ = some (.string s) ∧ wr.cell? ⟨Bt, 0, none⟩ = some (.string t) ∧ Hid (wr.heap[W.heap.size]? = some (.stringIter s p)) ∧ Hid (prt s t = pre ++ prf s t p fr k) ∧ J pre wr)
    (fun _ _ wr => s.size - wr.iterPos W.heap.size)
  case atStart => exact ⟨[], 0, 0, 0, rfl, rfl, Nat.le_refl _, Nat.zero_le _, Nat.zero_le _, oldCell _ k0, oldCell _ k1, Lib.hid (World.iter_heap W s 0), Lib.hid (prt_prf s t), hJ [] W _ none hJ0 (World.grownBy_alloc W _ none) (fun r e => by cases e)⟩
  case round =>
    obtain ⟨pre, k, fr, p, rfl, rfl, hk, hk3, hfr, c0, d0, HT, HP, hj⟩ := hrel
    have HQ := Lib.hid (iterPos_of HT.out)
    have hWr : W.heap.size < wr.heap.size := (Array.getElem?_eq_some_iff.1 HT.out).1
    by_cases hlt : p < s.size
    · have hnx := fun ty => Lib.run_next_any_at (P := Tryd.prog) wr W.heap.size s p ty HT.out hlt
      have hwp := wd_pos hlt
      have hdd : (Utf8.decode s p).2 = wd s p := rfl
      rw [hdd] at hnx
      obtain ⟨W2, hW2⟩ : ∃ W2, wr.iterAt W.heap.size s (p + wd s p) = W2 := ⟨_, rfl⟩
      have HT2 := Lib.hid (Lib.iterAt_heap wr W.heap.size s p (p + wd s p) HT.out)
      have c2 : (wr.iterAt W.heap.size s (p + wd s p)).cell? ⟨Bs, 0, none⟩ = some (.string s) := cell_hp (Lib.iterAt_other _ _ _ _ _ (by omega)) c0
      have d2 : (wr.iterAt W.heap.size s (p + wd s p)).cell? ⟨Bt, 0, none⟩ = some (.string t) := cell_hp (Lib.iterAt_other _ _ _ _ _ (by omega)) d0
      have hj2 := hJ pre wr _ (some W.heap.size) hj (grown_iterAt wr W.heap.size s (p + wd s p)) (fun r e => by cases e; exact ⟨Nat.le_refl _, _, HT.out, rfl⟩)
      rw [hW2] at hnx HT2 c2 d2 hj2
      clear hW2 hdd
      generalize (Utf8.decode s p).1 = cc at hnx
      have hjd : ∀ n, J pre (W2.drewN n) := fun n => hJ pre W2 _ none hj2 ⟨rfl, rfl, rfl, Nat.le_refl _, fun _ _ _ => rfl⟩ (fun r e => by cases e)
      have cd : ∀ n, (W2.drewN n).cell? ⟨Bs, 0, none⟩ = some (.string s) := fun n => c2
      have dd : ∀ n, (W2.drewN n).cell? ⟨Bt, 0, none⟩ = some (.string t) := fun n => d2
      have hTd : ∀ n, Hid ((W2.drewN n).heap[W.heap.size]? = some (.stringIter s (p + wd s p))) := fun n => HT2
      have hI : ∀ n, (W2.drewN n).iterPos W.heap.size = p + wd s p := fun n => iterPos_of HT2.out
      have hNO : ¬ ((t.size ≠ 0 ∧ fr ≤ p) ∧ hasP s t p = true) → ∀ n, Hid (∃ (pre' : List Pt) (k' fr' p' : Nat), Value.int IntKind.i64 (k : Int) = .int .i64 (k' : Int) ∧ Value.int IntKind.i64 (fr : Int) = .int .i64 (fr' : Int) ∧ k' ≤ p' ∧ k' ≤ s.size ∧ fr' ≤ s.size ∧ (W2.drewN n).cell? ⟨Bs, 0, none⟩ = some (.string s) ∧ (W2.drewN n).cell? ⟨Bt, 0, none⟩ = some (.string t) ∧ Hid ((W2.drewN n).heap[W.heap.size]? = some (.stringIter s p')) ∧ Hid (prt s t = pre' ++ prf s t p' fr' k') ∧ J pre' (W2.drewN n)) :=
        fun hn n => Lib.hid ⟨pre, k, fr, p + wd s p, rfl, rfl, by omega, hk3, hfr, cd n, dd n, hTd n, Lib.hid (by rw [HP.out, prf_no hlt k hn]), hjd n⟩
      by_cases ht0 : t.size = 0
      · have HN := fun n => hNO (by omega) n
        obtain rfl : t = ⟨#[]⟩ := by apply bs_inj; cases t with | mk a => (have : a.size = 0 := ht0); simp at this; subst this; rfl
        clear hNO
        gi_wp2
        gi_big_quiet_th (fail)
        gi_wp2
        go_roundw
        case rel => exact (HN nq).out
        case measure => rw [hI, HQ.out]; omega
      · have hE := emp_no ht0
        by_cases hf : fr ≤ p
        · have d1 : decide (p < fr) = false := decide_eq_false (by omega)
          by_cases hpp : hasP s t p = true
          · clear hNO
            have hq : hasP s t p = true := hpp
            have hle := (hasP_iff (Nat.le_of_lt hlt)).1 hpp
            have HE := Lib.hid (prf_yes (f := fr) hlt k ⟨⟨ht0, hf⟩, hpp⟩)
            clear hpp
            have hle1 := hle.1
            clear hle
            gi_wp2
            gi_big_quiet_th (first | (gi_at_call 35; refine CallsIn.quiet_of_same (callsIn_wide.2 (hasP_any s t p _))))
            obtain ⟨fn, tmps, assign, body, hy, hR⟩ := hY pre (s.extract fr p, k) (W2.drewN nq) (hjd nq) (len_lt (HP.out.trans (by rw [HE.out])))
            dsimp only at hy
            rw [cl_ext] at hy
            have c3 := cd nq
            have d3 := dd nq
            have HT3 := hTd nq
            clear cd dd hTd hjd hI c2 d2 HT2 hj2
            generalize W2.drewN nq = W4 at hy hR c3 d3 HT3
            gi_wp2
            refine hR.mono ?_
            rintro e W3 (⟨rfl, hJ3, hk3⟩ | ⟨rfl, hJx3⟩)
            · have c4 : W3.cell? ⟨Bs, 0, none⟩ = some (.string s) := cell_hp hk3.2.1 c3
              have d4 : W3.cell? ⟨Bt, 0, none⟩ = some (.string t) := cell_hp hk3.2.2 d3
              have HT4 := Lib.hid (walk_same hk3.1 HT3.out)
              gi_wp2
              gi_big_quiet_th (fail)
              gi_wp2
              go_roundw
              case rel => exact ⟨pre ++ [(s.extract fr p, k)], k + 1, p + t.size, p + wd s p, by go_num, by go_num, by omega, by omega, hle1, c4, d4, HT4, Lib.hid (by rw [HP.out, HE.out]; simp), hJ (pre ++ [(s.extract fr p, k)]) W3 _ none hJ3 ⟨rfl, rfl, rfl, Nat.le_refl _, fun _ _ _ => rfl⟩ (fun r e => by cases e)⟩
              case measure => rw [show (W3.drewN nq).iterPos W.heap.size = p + wd s p from iterPos_of HT4.out, HQ.out]; omega
            · gi_wp2
              refine bodyPost_ret (results_none rfl _ _ _) rfl ?_
              exact ⟨⟨_, rfl⟩, .inr ⟨_, by rw [HP.out, HE.out]; exact ⟨prf s t (p + wd s p) (p + t.size) (k + 1), by simp⟩, hJx3⟩⟩
          · have HN := fun n => hNO (fun h => hpp h.2) n
            have hq : hasP s t p = false := Bool.eq_false_iff.2 hpp
            clear hpp hNO
            gi_wp2
            gi_big_quiet_th (first | (gi_at_call 35; refine CallsIn.quiet_of_same (callsIn_wide.2 (hasP_any s t p _))))
            gi_wp2
            go_roundw
            case rel => exact (HN nq).out
            case measure => rw [hI, HQ.out]; omega
        · have HN := fun n => hNO (by omega) n
          have d1 : decide (p < fr) = true := decide_eq_true (by omega)
          clear hNO
          gi_wp2
          gi_big_quiet_th (fail)
          gi_wp2
          go_roundw
          case rel => exact (HN nq).out
          case measure => rw [hI, HQ.out]; omega
    · have hnx := fun ty => Lib.run_next_end_at (P := Tryd.prog) wr W.heap.size s p ty HT.out hlt
      have HE := Lib.hid (prf_end (t := t) hlt fr k)
      obtain ⟨fn, tmps, assign, body, hy, hR⟩ := hY pre (s.extract fr s.size, k) wr hj (len_lt (HP.out.trans (by rw [HE.out])))
      dsimp only at hy
      rw [cl_ext] at hy
      gi_wp2
      refine hR.mono ?_
      rintro e W3 (⟨rfl, hJ3, hk3⟩ | ⟨rfl, hJx3⟩)
      · gi_wp2
        go_end0
        exact ⟨⟨_, rfl⟩, .inl ⟨pre ++ [(s.extract fr s.size, k)], by rw [HP.out, HE.out], hJ3⟩⟩
      · gi_wp2
        go_end0
        exact ⟨⟨_, rfl⟩, .inr ⟨pre ++ [(s.extract fr s.size, k)], by rw [HP.out, HE.out]; exact ⟨[], by simp⟩, hJx3⟩⟩
end Go.Proofs.YtihhejeciagdpaaDoor.Sf
