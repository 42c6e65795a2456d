/-
  The contract of Format of package title, for every namespace and every name.
-/
import Derived.Test.YtaapdhpfjiaeaaaDoorTiValid
namespace Go.Proofs.YtaapdhpfjiaeaaaDoor.Ti
open Go.RowKit

/-- The text of a title. -/
def format (sp : Int) (l : List UInt8) : List UInt8 := if valid sp l then (if sp = 0 then l else name sp.toNat ++ [58] ++ l) else []
theorem valid_space {sp : Int} {l : List UInt8} (h : valid sp l = true) : 0 ≤ sp ∧ sp < 6 := by
  rw [valid] at h
  by_cases h1 : sp < 0 ∨ 6 ≤ sp
  · rw [if_pos h1] at h; cases h
  · omega
theorem valid_len {sp : Int} {l : List UInt8} (h : valid sp l = true) : 1 ≤ l.length ∧ l.length ≤ 100 := by
  rw [valid] at h
  by_cases h1 : sp < 0 ∨ 6 ≤ sp
  · rw [if_pos h1] at h; cases h
  · rw [if_neg h1] at h
    by_cases h2 : l.length < 1 ∨ 100 < l.length
    · rw [if_pos h2] at h; cases h
    · omega
theorem name_len (k : Nat) : (name k).length ≤ 8 := by
  unfold name; split <;> decide
theorem cat3 (nm s : ByteArray) : nm ++ ⟨#[58]⟩ ++ s = ⟨(nm.data.toList ++ [58] ++ s.data.toList).toArray⟩ := by
  apply ByteArray.ext
  apply Array.ext'
  simp [ByteArray.data_append]

set_option maxRecDepth 100000 in
set_option maxHeartbeats 1000000 in
theorem Format_any (sp : Int) (s : ByteArray) (w : World) (hs : s.size ≤ maxLen) (ht : Tb w) :
    Calls Tryd.prog 17 #[.agg #[.int .i64 sp, .string s]] w fun e w' => e = .returned (.string ⟨(format sp s.data.toList).toArray⟩) ∧ Below w.heap.size w w' := by
  have hbel : Below w.heap.size w (w.alloc (.cells #[.int .i64 sp, .string s] 24)) := (Below.refl _ w).alloc (Nat.le_refl _) _
  have t1 := ht.below hbel
  have HS := Lib.hid hs; clear hs
  cases hv : valid sp s.data.toList
  · have hfin : format sp s.data.toList = [] := by rw [format, hv]; rfl
    have HF := Lib.hid hfin; clear hfin
    go_enter Tryd.func17, Tryd.ntmps17
    go_wp2_with fail
    refine (Valid_any _ _ _ HS.out t1).mono ?_
    rintro e w2 ⟨rfl, hb2⟩
    go_wp2
    go_ret
    exact ⟨ret_str (by rw [HF.out]), hbel.trans (hb2.mono (by simp))⟩
  obtain ⟨h1, h2⟩ := valid_space hv
  obtain ⟨h3, h4⟩ := valid_len hv
  have hsl : s.data.toList.length = s.size := rfl
  have h5 : s.size ≤ 100 := by omega
  clear h3 h4 hsl
  obtain ⟨k, rfl⟩ : ∃ k : Nat, sp = (k : Int) := ⟨sp.toNat, by omega⟩
  by_cases h0 : k = 0
  · have hfin : format (k : Int) s.data.toList = s.data.toList := by rw [format, hv, h0]; rfl
    have HF := Lib.hid hfin; clear hfin
    have hd : ((k : Int) == 0) = true := by rw [h0]; rfl
    clear h0
    go_enter Tryd.func17, Tryd.ntmps17
    go_wp2_with fail
    refine (Valid_any _ _ _ HS.out t1).mono ?_
    rintro e w2 ⟨rfl, hb2⟩
    have d0 : w2.cell? ⟨w.heap.size, 0, none⟩ = some (.int .i64 (k : Int)) := (hb2.cell (p := ⟨w.heap.size, 0, none⟩) (by simp)).trans (by simp)
    have d1 : w2.cell? ⟨w.heap.size, 1, none⟩ = some (.string s) := (hb2.cell (p := ⟨w.heap.size, 1, none⟩) (by simp)).trans (by simp)
    go_wp2
    go_ret
    exact ⟨ret_str (by rw [HF.out]), hbel.trans (hb2.mono (by simp))⟩
  · have hfin : format (k : Int) s.data.toList = name k ++ [58] ++ s.data.toList := by
      rw [format, hv, if_pos rfl, if_neg (by omega), Int.toNat_natCast]
    have hd : ((k : Int) == 0) = false := by rw [beq_eq_false_iff_ne]; omega
    have hln := name_len k
    obtain ⟨nm, hnm⟩ : ∃ nm : ByteArray, nm = ⟨(name k).toArray⟩ := ⟨_, rfl⟩
    have hnl : nm.size ≤ 8 := by rw [hnm]; exact hln
    have hfin2 : nm ++ ⟨#[58]⟩ ++ s = ⟨(format (k : Int) s.data.toList).toArray⟩ := by rw [cat3, hfin, hnm]
    have HF := Lib.hid hfin2
    have s1 : nm.size + 1 ≤ 9223372036854775807 := by omega
    have s2 : nm.size + 1 + s.size ≤ 9223372036854775807 := by omega
    have HN := Lib.hid hnm; clear hfin hfin2 hnm hln h0
    have h6 : (k : Int) < 6 := h2
    have h7 : k < 6 := by omega
    go_enter Tryd.func17, Tryd.ntmps17
    go_wp2_with fail
    refine (Valid_any _ _ _ HS.out t1).mono ?_
    rintro e w2 ⟨rfl, hb2⟩
    have d0 : w2.cell? ⟨w.heap.size, 0, none⟩ = some (.int .i64 (k : Int)) := (hb2.cell (p := ⟨w.heap.size, 0, none⟩) (by simp)).trans (by simp)
    have d1 : w2.cell? ⟨w.heap.size, 1, none⟩ = some (.string s) := (hb2.cell (p := ⟨w.heap.size, 1, none⟩) (by simp)).trans (by simp)
    have d2 : w2.cell? ⟨0, k, none⟩ = some (.string nm) := by
      rw [HN.out]; exact (t1.below hb2).nm k (by omega)
    go_wp2
    go_quiet (fail)
    go_wp2
    go_ret
    exact ⟨ret_str HF.out, below_drewN (hbel.trans (hb2.mono (by simp))) nq⟩
end Go.Proofs.YtaapdhpfjiaeaaaDoor.Ti
