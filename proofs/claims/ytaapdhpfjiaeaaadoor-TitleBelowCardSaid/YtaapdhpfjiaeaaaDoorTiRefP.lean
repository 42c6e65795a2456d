/-
  The contract of the reference's Parse: the same as Parse of package title, for every text that is not too long.
-/
import Derived.Test.YtaapdhpfjiaeaaaDoorTiRefV2
import Derived.Test.YtaapdhpfjiaeaaaDoorTiJn
import Derived.BigRegion
import Derived.Laws.BytesString
namespace Go.Proofs.YtaapdhpfjiaeaaaDoor.Ti
open Go.RowKit

def prevB (u : ByteArray) (k : Nat) : UInt8 := if k = 0 then 0 else (u.data.toList[k - 1]?).getD 0
theorem prevB_succ (u : ByteArray) (k : Nat) (h : k < u.size) : prevB u (k + 1) = u[k] := by
  unfold prevB
  rw [if_neg (by omega), Nat.add_sub_cancel, List.getElem?_eq_getElem (by exact h)]; rfl
theorem prevB_pos (u : ByteArray) (k : Nat) (h0 : 0 < k) (h : k < u.size) : prevB u k = u[k - 1]'(by omega) := by
  have := prevB_succ u (k - 1) (by omega)
  rwa [show k - 1 + 1 = k from by omega] at this
theorem jn_keep {u : ByteArray} {k : Nat} {j acc : List UInt8} (hk : k < u.size) (h : j = acc ++ jn (prevB u k) (u.data.toList.drop k)) (hc : ¬ (u[k] = 32 ∧ (prevB u k = 47 ∨ (u.data.toList.drop (k + 1)).head? = some 47))) : j = (acc ++ [u[k]]) ++ jn (prevB u (k + 1)) (u.data.toList.drop (k + 1)) := by
  rw [h, jn_drop u _ k hk, if_neg hc, prevB_succ u k hk]; simp
theorem jn_skip {u : ByteArray} {k : Nat} {j acc : List UInt8} (hk : k < u.size) (h : j = acc ++ jn (prevB u k) (u.data.toList.drop k)) (hc : u[k] = 32 ∧ (prevB u k = 47 ∨ (u.data.toList.drop (k + 1)).head? = some 47)) : j = acc ++ jn (prevB u (k + 1)) (u.data.toList.drop (k + 1)) := by
  rw [h, jn_drop u _ k hk, if_pos hc, prevB_succ u k hk]
theorem next_yes {u : ByteArray} {k : Nat} (h : k + 1 < u.size) (hc : u[k + 1] = 47) : (u.data.toList.drop (k + 1)).head? = some 47 := by rw [drop_head, dif_pos h, hc]
theorem next_no {u : ByteArray} {k : Nat} (h : k + 1 < u.size) (hc : u[k + 1] ≠ 47) : (u.data.toList.drop (k + 1)).head? ≠ some 47 := by rw [drop_head, dif_pos h]; simpa using hc
theorem next_end {u : ByteArray} {k : Nat} (h : ¬ k + 1 < u.size) : (u.data.toList.drop (k + 1)).head? ≠ some 47 := by rw [drop_head, dif_neg h]; simp
theorem cut_one (s : ByteArray) (h : 1 ≤ s.size) (w : World) : Calls Tryd.prog 36 #[.string s, .int .i64 1] w fun e w' => e = .returned (.string ⟨(Lib.trimPrefix (s.data.toList.drop 1) [32]).toArray⟩) ∧ w = w' := cut_any s 1 h w
theorem cut_succ (s : ByteArray) (i : Nat) (h : i + 1 ≤ s.size) (w : World) : Calls Tryd.prog 36 #[.string s, .int .i64 ((i : Int) + 1)] w fun e w' => e = .returned (.string ⟨(Lib.trimPrefix (s.data.toList.drop (i + 1)) [32]).toArray⟩) ∧ w = w' := by
  have h' := cut_any s (i + 1) h w
  rw [show (((i + 1 : Nat)) : Int) = (i : Int) + 1 from by omega] at h'
  exact h'
theorem head_colon {l : List UInt8} {q : ByteArray} (hq : q.data.toList = squeeze l) (h : 0 < q.size) (hc : q[0] = 58) : head l = Lib.trimPrefix (q.data.toList.drop 1) [32] := by
  have e := data_cons q h
  unfold head skip Lib.hasPrefix
  rw [← hq]
  generalize q.data.toList.drop 1 = r at e ⊢
  rw [e, hc, if_pos (by simp [List.isPrefixOf]), trimPrefix_yes]
theorem head_plain {l : List UInt8} {q : ByteArray} (hq : q.data.toList = squeeze l) (h : 0 < q.size) (hc : q[0] ≠ 58) : head l = q.data.toList := by
  have e := data_cons q h
  unfold head
  rw [← hq]
  generalize q.data.toList.drop 1 = r at e ⊢
  rw [e]; exact skip_no hc
theorem head_empty {l : List UInt8} {q : ByteArray} (hq : q.data.toList = squeeze l) (h : q.size = 0) : head l = q.data.toList := by
  have e : q.data.toList = [] := by rw [← List.length_eq_zero_iff]; exact h
  unfold head
  rw [← hq, e]; rfl
theorem conv_one (W : World) (b : Nat) (n : Int) (h : W.cell? ⟨b, 0, none⟩ = some (.int .u8 n)) : (convert 53 9 (.slice (some ⟨b, 0, none⟩) 1 1)).run Tryd.prog W = .ok (.string ⟨#[UInt8.ofNat n.toNat]⟩) W := by
  have hl : (loadCells ⟨b, 0, none⟩ 1).run Tryd.prog W = .ok ([n].map (Value.int .u8)).toArray W := by
    simp [loadCells, go_sem, h]
  rw [run_convert_bytes_string W 53 9 5 _ 1 1 Tryd.underlying53 Tryd.underlying5 Tryd.underlying9, run_bytesToString W ⟨b, 0, none⟩ 1 1 [n] hl]
  rfl
theorem conv_cap (W : World) (c : UInt8) (h1 : 97 ≤ c.toNat) : (convert 53 9 (.slice (some ⟨W.heap.size, 0, none⟩) 1 1)).run Tryd.prog (W.alloc (.cells #[.int .u8 ((c.toNat : Int) - 32)] 5)).drew = .ok (.string ⟨#[c - 32]⟩) (W.alloc (.cells #[.int .u8 ((c.toNat : Int) - 32)] 5)).drew := by
  rw [conv_one _ _ ((c.toNat : Int) - 32) (by simp)]
  have : UInt8.ofNat ((c.toNat : Int) - 32).toNat = c - 32 := by
    apply UInt8.toNat_inj.1
    rw [UInt8.toNat_sub]
    have h32 : (32 : UInt8).toNat = 32 := rfl
    have := c.toNat_lt
    simp; omega
  rw [this]
theorem cap_list {acc : List UInt8} (h : 0 < (⟨acc.toArray⟩ : ByteArray).size) (hs : small (⟨acc.toArray⟩ : ByteArray)[0] = false) : cap acc = acc := by
  have e := cap_no ⟨acc.toArray⟩ h hs
  have := congrArg (fun x : ByteArray => x.data.toList) e
  exact this.symm
theorem rest_at {t : ByteArray} {i : Nat} (hz : space t.data.toList ≠ 0) (hi : atOf t.data.toList = (i : Int)) : i + 1 ≤ t.size ∧ rest t.data.toList = Lib.trimPrefix (t.data.toList.drop (i + 1)) [32] := by
  unfold atOf at hi
  rw [if_neg hz] at hi
  have hr := Lib.index_room t.data.toList [58] (by omega)
  have hl : t.data.toList.length = t.size := rfl
  have hc : (Lib.cut t.data.toList [58]).2.1 = t.data.toList.drop (i + 1) := by unfold Lib.cut; rw [hi, if_pos (by omega)]; simp
  refine ⟨by rw [hi] at hr; simp at hr; omega, ?_⟩
  unfold rest
  rw [if_neg hz, hc]
end Go.Proofs.YtaapdhpfjiaeaaaDoor.Ti
