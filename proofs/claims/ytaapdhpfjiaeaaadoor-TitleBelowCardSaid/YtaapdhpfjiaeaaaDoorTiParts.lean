/-
  The contract of the reference's Parts: a new slice that holds the parts between the slashes.
-/
import Derived.Test.YtaapdhpfjiaeaaaDoorTiRef3
import Derived.Test.YtaapdhpfjiaeaaaDoorTiWalk4
import Derived.Laws.OwnMore
import Derived.Laws.AppendOwn
import Derived.Maps.AppendAt
import Derived.BigRegion
import Derived.RangeFuncBox
namespace Go.Proofs.YtaapdhpfjiaeaaaDoor.Ti
open Go.RowKit Go.Proofs.YtaapdhpfjiaeaaaDoor.Rf

/-- One byte more: a new part, or the last part longer. -/
def pStep (l : List (List UInt8)) (c : UInt8) : List (List UInt8) := if c = 47 then l ++ [[]] else l.dropLast ++ [(l.getLast?.getD []) ++ [c]]
theorem parts_fold (l : List UInt8) : parts 47 l = l.foldl pStep [[]] := by
  have h : ∀ (l : List UInt8) (pre : List (List UInt8)) (p : List UInt8), l.foldl pStep (pre ++ [p]) = pre ++ (match parts 47 l with | [] => [p] | x :: q => (p ++ x) :: q) := by
    intro l
    induction l with
    | nil => intro pre p; simp [parts]
    | cons c r ih =>
      intro pre p
      rw [List.foldl_cons]
      obtain ⟨x, q, e⟩ := parts_ne 47 r
      by_cases hc : c = 47
      · subst hc
        have : pStep (pre ++ [p]) 47 = (pre ++ [p]) ++ [[]] := by simp [pStep]
        rw [this, ih, parts_cons_eq, e]
        simp
      · have : pStep (pre ++ [p]) c = pre ++ [p ++ [c]] := by simp [pStep, hc]
        rw [this, ih, parts_cons_ne hc e, e]
        simp
  have := h l [] []
  rw [List.nil_append] at this
  rw [this]
  obtain ⟨x, q, e⟩ := parts_ne 47 l
  rw [e]; simp
/-- The parts, as cells. -/
def strs (l : List (List UInt8)) : List Value := l.map fun p => .string ⟨p.toArray⟩
theorem strs_len (l : List (List UInt8)) : (strs l).length = l.length := by simp [strs]
theorem infoString : (Tryd.prog.info? 9).map (fun i => (i.zero, i.size, i.bytes)) = some (some (.string ⟨#[]⟩), 1, 16) := by kernel_rfl
theorem strs_last {l : List (List UInt8)} (h : 1 ≤ l.length) : (strs l)[l.length - 1]? = some (.string ⟨(l.getLast?.getD []).toArray⟩) := by
  unfold strs
  rw [List.getElem?_map, ← List.getLast?_eq_getElem?]
  cases hl : l.getLast? with
  | none => rw [List.getLast?_eq_none_iff] at hl; subst hl; simp at h
  | some p => rfl
theorem strs_set {l : List (List UInt8)} (h : 1 ≤ l.length) (x : List UInt8) : (strs l).set (l.length - 1) (.string ⟨x.toArray⟩) = strs (l.dropLast ++ [x]) := by
  obtain ⟨a, b, rfl⟩ : ∃ a b, l = a ++ [b] := ⟨l.dropLast, l.getLast (by intro e; subst e; simp at h), (List.dropLast_concat_getLast _).symm⟩
  unfold strs
  simp
set_option maxRecDepth 100000 in
set_option maxHeartbeats 2000000 in
theorem Parts_any (s : ByteArray) (w : World) (hs : s.size < 4294967281) :
    Calls Tryd.prog 42 #[.string s] w fun e w' => ∃ v, e = .returned v ∧ w'.ownsRow w.heap.size 9 1 v (parts 47 s.data.toList).length (strs (parts 47 s.data.toList)) ∧ Below w.heap.size w w' := by
  obtain ⟨i0, hi, hz0, hz1, hz2⟩ := info_parts infoString
  have hbk : ∀ n : Nat, n ≤ 4294967282 → n * 16 ≤ 140737488355328 := fun n h => by omega
  have HBK := Lib.hid hbk; clear hbk
  go_enter Tryd.func42, Tryd.ntmps42
  go_wp2
  go_loopw [3, 4] (fun v i wr => ∃ (k g cap : Nat) (l : List (List UInt8)), k ≤ s.size ∧ i = .int .i64 k ∧ v = .slice (some ⟨g, 0, none⟩) l.length cap ∧ 1 ≤ l.length ∧ l.length ≤ k + 1 ∧ Hid (wr.ownsRow w.heap.size 9 1 (.slice (some ⟨g, 0, none⟩) l.length cap) l.length (strs l)) ∧ Hid ((s.data.toList.take k).foldl pStep [[]] = l) ∧ Hid (∀ p ∈ l, p.length ≤ k) ∧ Below w.heap.size w wr) (fun _ i _ => s.size - (intOf i).toNat)
  case atStart => exact ⟨0, w.heap.size, 1, [[]], Nat.zero_le _, rfl, rfl, by simp, by simp, Lib.hid (World.ownsRow_lit w #[.string ⟨#[]⟩] 1 (Nat.le_refl _) (by decide) rfl), Lib.hid rfl, Lib.hid (by simp), (Below.refl _ w).alloc (Nat.le_refl _) _⟩
  case round =>
    obtain ⟨k, g, cap, l, hk, rfl, rfl, hl1, hl2, hown, hfo, hall, hbel⟩ := hrel
    by_cases hlt : k < s.size
    · by_cases hc : s[k] = 47
      · have hd : ((s[k].toNat : Int) == 47) = true := by rw [hc]; rfl
        have HL : Hid ((s.data.toList.take (k + 1)).foldl pStep [[]] = l ++ [[]]) := Lib.hid (by rw [take_snoc s k hlt, List.foldl_append, hfo.out]; simp [pStep, hc])
        clear hc
        go_wp2_with (at_builtin; refine wpList_append_own _ rfl _ _ 32 rfl w.heap.size 9 i0 (.string ⟨#[]⟩) 1 16 Tryd.underlying32 hi hz0 hz1 hz2 rfl (by decide) _ _ _ rfl (hown.out.alloc _) ⟨wr.heap.size, 0, none⟩ 1 1 [.string ⟨#[]⟩] rfl rfl (cell_one_new _ _ _) (by simp [Value.oneCell']) (by unfold maxLen; omega) (HBK.out _ (by omega)) (by have := hbel.size; simp; omega) ?_)
        intro v' w1 hown' hgrow _
        obtain ⟨g', cap', rfl⟩ := ownsRow_succ hown'
        have hgb : w.heap.size ≤ g := (hown.out.lt g rfl).1
        have hbel1 : Below w.heap.size w w1 := (hbel.alloc (by have := hbel.size; omega) _).grown hgrow (by have := hbel.size; simp; omega) (fun k e => by cases e; exact hgb)
        have HO : Hid (w1.ownsRow w.heap.size 9 1 (.slice (some ⟨g', 0, none⟩) (l ++ [[]]).length cap') (l ++ [[]]).length (strs (l ++ [[]]))) := Lib.hid (by simpa [strs] using hown')
        clear hown' hgrow
        go_wp2
        go_roundw
        case rel => exact ⟨k + 1, g', cap', l ++ [[]], by omega, by go_num, by simp, by simp, by simp; omega, HO, HL, Lib.hid (fun p hp => by
          rcases List.mem_append.1 hp with h | h
          · have := hall.out p h; omega
          · simp at h; subst h; simp), hbel1⟩
        case measure => simp [intOf]; omega
      · have hd : ((s[k].toNat : Int) == 47) = false := u8_ne hc
        obtain ⟨x, hx⟩ : ∃ x, l.getLast?.getD [] = x := ⟨_, rfl⟩
        have HL : Hid ((s.data.toList.take (k + 1)).foldl pStep [[]] = l.dropLast ++ [x ++ [s[k]]]) := Lib.hid (by rw [take_snoc s k hlt, List.foldl_append, hfo.out, ← hx]; simp [pStep, hc])
        have hcell : wr.cell? ⟨g, l.length - 1, none⟩ = some (.string ⟨x.toArray⟩) := by rw [hown.out.cellAt (l.length - 1) (by omega), strs_last hl1, hx]
        have hfz : wr.frozen? ⟨g, l.length - 1, none⟩ = false := hown.out.frozenAt (l.length - 1)
        have hst := hown.out.stored (l.length - 1) (.string ⟨(x ++ [s[k]]).toArray⟩)
        rw [strs_set hl1] at hst
        have hgb : w.heap.size ≤ g := (hown.out.lt g rfl).1
        have HST := Lib.hid hst
        have hE := extract_one s k hlt
        have hxk : x.length ≤ k := by
          rw [← hx]
          cases hg : l.getLast? with
          | none => simp
          | some p => exact hall.out p (List.mem_of_getLast? hg)
        have hxl : x.length ≤ 4294967281 := by omega
        have s1 : x.length + 1 ≤ 9223372036854775807 := by omega
        have a1 := IntWalk.i64_in ((l.length : Int) - 1) (by omega)
        have a2 : (0 : Int) ≤ (l.length : Int) - 1 := by omega
        have a3 : ((l.length : Int) - 1).toNat = l.length - 1 := by omega
        have a4 := IntWalk.i64_in ((k : Int) + 1) (by omega)
        have a5 : (k : Int) + 1 ≤ (s.size : Int) := by omega
        have a6 : ((k : Int) + 1).toNat = k + 1 := by omega
        have a7 : (1 : Int) ≤ (l.length : Int) := by omega
        have a8 : (l.length : Int) - 1 < (l.length : Int) := by omega
        clear hst hc hx
        go_wp2
        go_region
        clear a1 a2 a3 a4 a5 a6 a7 a8
        go_wp2
        go_roundw
        case rel => exact ⟨k + 1, g, cap, l.dropLast ++ [x ++ [s[k]]], by omega, by go_num, by simp; omega, by simp, by simp; omega, Lib.hid (by
          have h := HST.out.1.drew
          have e : (l.dropLast ++ [x ++ [s[k]]]).length = l.length := by simp; omega
          rw [e, cat_one]; exact h), HL, Lib.hid (fun p hp => by
          rcases List.mem_append.1 hp with h | h
          · have := hall.out p (List.dropLast_subset l h); omega
          · simp at h; subst h; simp; omega), (hbel.setCell (p := ⟨g, l.length - 1, none⟩) hgb _).drew⟩
        case measure => simp [intOf]; omega
    · have hfin : parts 47 s.data.toList = l := by
        have := hfo.out
        rw [List.take_of_length_le (by simp; omega)] at this
        rw [parts_fold, this]
      have HF := Lib.hid hfin; clear hfin
      go_wp2
      go_ret
      exact ⟨_, rfl, by rw [HF.out]; exact hown.out, hbel⟩
end Go.Proofs.YtaapdhpfjiaeaaaDoor.Ti
