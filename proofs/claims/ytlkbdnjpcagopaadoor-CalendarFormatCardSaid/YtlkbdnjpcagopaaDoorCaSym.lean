/-
  What the iterator of symbols promises: the bytes of a pattern without those that only escape, in order.
-/
import Derived.Test.YtlkbdnjpcagopaaDoorTiRange
import Derived.Test.YtlkbdnjpcagopaaDoorCaVal
import Derived.Shelf.Abstract
import Derived.Shelf.RegionOpen
import Derived.OwnWalkIn
import Derived.TacticsInMore
import Derived.LoopNIn
import Derived.LoopIn
import Derived.Deep.RegionHeld
import Derived.RangeFuncFrom
namespace Go.Proofs.YtlkbdnjpcagopaaDoor.Ca
open Go.RowKit Go.Shelf Rf
attribute [local go_sem] Oper.semAt_some

theorem syms_plain (l : List UInt8) (k : Nat) (h : k < l.length) (hn : ¬ (l[k] = 92 ∧ k + 1 < l.length)) : syms (l.drop k) = (l[k], false) :: syms (l.drop (k + 1)) := by
  rw [List.drop_eq_getElem_cons h]
  by_cases h1 : k + 1 < l.length
  · have : ¬ l[k] = 92 := fun e => hn ⟨e, h1⟩
    rw [List.drop_eq_getElem_cons h1, syms, if_neg this]
  · rw [List.drop_eq_nil_of_le (by omega)]
    rfl
theorem syms_esc (l : List UInt8) (k : Nat) (h : k + 1 < l.length) (h9 : l[k] = 92) : syms (l.drop k) = (l[k + 1], true) :: syms (l.drop (k + 2)) := by
  rw [List.drop_eq_getElem_cons (by omega : k < l.length), List.drop_eq_getElem_cons h, syms, if_pos h9]
theorem symbols_any (s : ByteArray) (w : World) :
    Calls Tryd.prog 44 #[.string s] w fun e w' =>
      e = .returned (.func (.func 52) #[] #[.pointer (some ⟨w.heap.size, 0, none⟩)]) ∧ w.alloc (.cells #[.string s] 9) = w' := by
  go_enter Tryd.func44, Tryd.ntmps44
  go_wp2
  go_ret
  exact ⟨rfl, rfl⟩
abbrev Sy := UInt8 × Bool
def encS (x : Sy) : Array Value := #[.int .u8 (x.1.toNat : Int), .bool x.2]
/-- What a round keeps: the block of the pattern. -/
def Kq (Bs : Nat) (W W' : World) : Prop := W'.heap[Bs]? = W.heap[Bs]?
theorem Kq.cell {Bs : Nat} {W W' : World} (h : Kq Bs W W') {v : Value} (hv : W.cell? ⟨Bs, 0, none⟩ = some v) : W'.cell? ⟨Bs, 0, none⟩ = some v := by
  unfold World.cell? at hv ⊢; rw [show W'.heap[Bs]? = W.heap[Bs]? from h]; exact hv
theorem Kq.t {Bs : Nat} {A B C : World} (h : Kq Bs A B) (k : Kq Bs B C) : Kq Bs A C := Eq.trans k h
theorem Kq.b {Bs : Nat} {w : World} (hB : Bs < w.heap.size) (W : World) (l : Nat) (o o' : Obj) (hl : w.heap.size ≤ l) (_ : W.heap[l]? = some o) (_ : o.isCells = false) (_ : o.isWalk = false) : Kq Bs W (W.putObj l o') :=
  World.putObj_heap_other (by omega)
theorem Kq.of {Bs : Nat} {n : Nat} {A B : World} (h : Below n A B) (hB : Bs < n) : Kq Bs A B := h.block Bs hB
theorem len_lt {α : Type} {l pre : List α} {x : α} {r : List α} (h : l = pre ++ (x :: r)) : pre.length < l.length := by rw [h]; simp
set_option maxRecDepth 100000 in
set_option maxHeartbeats 2000000 in
theorem sym_seq (s : ByteArray) (Bs : Nat) (w : World) (hs : s.size ≤ 4294967281) (hB : Bs < w.heap.size) (h0 : w.cell? ⟨Bs, 0, none⟩ = some (.string s)) :
    SeqStopsK Fence.wide 2 Tryd.prog 52 #[.pointer (some ⟨Bs, 0, none⟩)] (fun x : Sy => #[.int .u8 (x.1.toNat : Int), .bool x.2]) (Kq Bs)
      (fun xs => xs = syms s.data.toList) (fun _ => True) (syms s.data.toList).length w := by
  intro l J Jx W hW _ _ hY hJ0
  have k0 : W.cell? ⟨Bs, 0, none⟩ = some (.string s) := (hW.cell (p := ⟨Bs, 0, none⟩) (by show Bs < _; omega)).trans h0
  refine callsIn_of_wp Tryd.func52 rfl trivial ?_ rfl
  simp only [Tryd.ntmps52, List.size_toArray, List.length_cons, List.length_nil, Nat.reduceAdd, Nat.reduceSub, Array.replicate_succ, Array.replicate_zero, List.push_toArray, List.append_toArray, List.nil_append, List.cons_append]
  gi_wp2
  gi_loopw [3] (fun i wr => ∃ (pre : List Sy) (k : Nat), i = .int .i64 k ∧ k ≤ s.size ∧ wr.cell? ⟨Bs, 0, none⟩ = some (.string s) ∧ Hid (syms s.data.toList = pre ++ syms (s.data.toList.drop k)) ∧ J pre wr)
    (fun i _ => s.size - (intOf i).toNat)
  case atStart => exact ⟨[], 0, rfl, Nat.zero_le _, k0, Lib.hid (by simp), hJ0⟩
  case round =>
    obtain ⟨pre, k, rfl, hk, c0, hp, hj⟩ := hrel
    have hsl : s.data.toList.length = s.size := by simp
    by_cases hlt : k < s.size
    · have hgk : s.data.toList[k]'(by simpa using hlt) = s[k] := by simp [ByteArray.getElem_eq_getElem_data]
      by_cases h9 : s[k] = 92 ∧ k + 1 < s.size
      · obtain ⟨h9, hlt1⟩ := h9
        have hg1 : s.data.toList[k + 1]'(by simpa using hlt1) = s[k + 1] := by simp [ByteArray.getElem_eq_getElem_data]
        have he := syms_esc s.data.toList k (by simpa using hlt1) (hgk.trans h9)
        rw [hg1] at he
        have HE := Lib.hid he
        have hd : ((s[k].toNat : Int) == 92) = true := by rw [h9]; rfl
        obtain ⟨fn, tmps, assign, body, hy, hR⟩ := hY pre (s[k + 1], true) wr hj (len_lt (hp.out.trans (by rw [HE.out])))
        dsimp only at hy
        have hi : (k : Int) + 1 < s.size := by omega
        clear h9 he hg1 hgk
        gi_wp2
        refine hR.mono ?_
        rintro e W3 (⟨rfl, hJ3, hk3⟩ | ⟨rfl, hJx3⟩)
        · have d0 : W3.cell? ⟨Bs, 0, none⟩ = some (.string s) := hk3.cell c0
          gi_wp2
          go_roundw
          case rel => exact ⟨pre ++ [(s[k + 1], true)], k + 2, by go_num, by omega, d0, Lib.hid (by rw [hp.out, HE.out]; simp), hJ3⟩
          case measure => simp [intOf]; omega
        · gi_wp2
          refine bodyPost_ret (results_none rfl _ _ _) rfl ?_
          exact ⟨⟨_, rfl⟩, .inr ⟨_, trivial, hJx3⟩⟩
      · have he := syms_plain s.data.toList k (by simpa using hlt) (by rw [hgk]; simpa using h9)
        rw [hgk] at he
        have HE := Lib.hid he
        obtain ⟨fn, tmps, assign, body, hy, hR⟩ := hY pre (s[k], false) wr hj (len_lt (hp.out.trans (by rw [HE.out])))
        dsimp only at hy
        by_cases hx : s[k] = 92
        · have hd : ((s[k].toNat : Int) == 92) = true := by rw [hx]; rfl
          have hi : (s.size : Int) ≤ (k : Int) + 1 := by have : ¬ k + 1 < s.size := fun h => h9 ⟨hx, h⟩; omega
          have hi2 : decide ((k : Int) + 1 < (s.size : Int)) = false := by rw [decide_eq_false_iff_not]; omega
          clear he hgk hx h9
          gi_wp2
          refine hR.mono ?_
          rintro e W3 (⟨rfl, hJ3, hk3⟩ | ⟨rfl, hJx3⟩)
          · have d0 : W3.cell? ⟨Bs, 0, none⟩ = some (.string s) := hk3.cell c0
            gi_wp2
            go_roundw
            case rel => exact ⟨pre ++ [(s[k], false)], k + 1, by go_num, by omega, d0, Lib.hid (by rw [hp.out, HE.out]; simp), hJ3⟩
            case measure => simp [intOf]; omega
          · gi_wp2
            refine bodyPost_ret (results_none rfl _ _ _) rfl ?_
            exact ⟨⟨_, rfl⟩, .inr ⟨_, trivial, hJx3⟩⟩
        · have hd : ((s[k].toNat : Int) == 92) = false := u8_ne hx
          clear he hgk hx h9
          gi_wp2
          refine hR.mono ?_
          rintro e W3 (⟨rfl, hJ3, hk3⟩ | ⟨rfl, hJx3⟩)
          · have d0 : W3.cell? ⟨Bs, 0, none⟩ = some (.string s) := hk3.cell c0
            gi_wp2
            go_roundw
            case rel => exact ⟨pre ++ [(s[k], false)], k + 1, by go_num, by omega, d0, Lib.hid (by rw [hp.out, HE.out]; simp), hJ3⟩
            case measure => simp [intOf]; omega
          · gi_wp2
            refine bodyPost_ret (results_none rfl _ _ _) rfl ?_
            exact ⟨⟨_, rfl⟩, .inr ⟨_, trivial, hJx3⟩⟩
    · obtain rfl : k = s.size := by omega
      gi_wp2
      go_end0
      exact ⟨⟨_, rfl⟩, .inl ⟨pre, by rw [hp.out, List.drop_of_length_le (by simp)]; simp [syms], hj⟩⟩
end Go.Proofs.YtlkbdnjpcagopaaDoor.Ca
