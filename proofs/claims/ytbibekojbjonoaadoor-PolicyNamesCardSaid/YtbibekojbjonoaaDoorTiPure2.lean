/-
  Plain functions on lists of bytes: which names are valid. No program is named here.
-/
import Derived.Test.YtbibekojbjonoaaDoorTiPure
namespace Go.Proofs.YtbibekojbjonoaaDoor.Ti

/-- A byte that no name holds. -/
def bad (c : UInt8) : Bool := decide (c.toNat < 32) || (c.toNat == 127 || decide (0 ≤ Lib.indexByte [60, 62, 91, 93, 123, 125, 124, 35, 95] c))
/-- Every byte is allowed and no two blanks follow one another. -/
def vbytes (l : List UInt8) : Bool := l.all (fun c => !bad c) && !Lib.contains l [32, 32]
theorem vbytes_bad {s : ByteArray} {k : Nat} {hk : k < s.size} (h : bad s[k] = true) : vbytes s.data.toList = false := by
  have hm : s[k] ∈ s.data.toList := by
    have : s[k] = s.data.toList[k]'(by simpa using hk) := rfl
    rw [this]; exact List.getElem_mem _
  unfold vbytes
  rw [Bool.and_eq_false_iff]; left
  rw [List.all_eq_false]
  exact ⟨s[k], hm, by simp [h]⟩
theorem all_step {s : ByteArray} {k : Nat} {hk : k < s.size} (h : (s.data.toList.take k).all (fun c => !bad c) = true) (hb : bad s[k] = false) : (s.data.toList.take (k + 1)).all (fun c => !bad c) = true := by
  rw [take_snoc s k hk, List.all_append, h]; simp [hb]
theorem vbytes_all {l : List UInt8} (h : l.all (fun c => !bad c) = true) : vbytes l = !Lib.contains l [32, 32] := by
  unfold vbytes; rw [h]; simp

end Go.Proofs.YtbibekojbjonoaaDoor.Ti
