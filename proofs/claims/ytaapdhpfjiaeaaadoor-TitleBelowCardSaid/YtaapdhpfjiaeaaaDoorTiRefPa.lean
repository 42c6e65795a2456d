/-
  The contract of the reference's Parse: the same as Parse of package title, for every text that is not too long.
-/
import Derived.Test.YtaapdhpfjiaeaaaDoorTiRefPen
import Derived.Test.YtaapdhpfjiaeaaaDoorTiRefPpn
import Derived.Test.YtaapdhpfjiaeaaaDoorTiRefPpp
import Derived.Test.YtaapdhpfjiaeaaaDoorTiRefPcn
import Derived.Test.YtaapdhpfjiaeaaaDoorTiRefPcp
namespace Go.Proofs.YtaapdhpfjiaeaaaDoor.Ti
open Go.RowKit
theorem atOf_nat (l : List UInt8) : ∃ i : Nat, atOf l = (i : Int) := by
  have h : 0 ≤ atOf l := by
    unfold atOf; split
    · decide
    · rename_i hz
      unfold space at hz
      cases hc : (Lib.cut l [58]).2.2
      · rw [hc] at hz; exact absurd rfl hz
      · unfold Lib.cut at hc; split at hc
        · assumption
        · cases hc
  exact ⟨(atOf l).toNat, by omega⟩
theorem RefParse_any (s : ByteArray) (w : World) (hs : s.size < 4294967281) :
    Calls Tryd.prog 14 #[.string s] w fun e w' =>
      e = .returned (.tuple #[.agg #[.int .i64 ((parse s.data.toList).1.1 : Int), .string ⟨(parse s.data.toList).1.2.toArray⟩], .int .i64 ((parse s.data.toList).2 : Int)]) ∧ Below w.heap.size w w' := by
  obtain ⟨Q, hQ⟩ : ∃ Q : ByteArray, Q.data.toList = squeeze s.data.toList := ⟨⟨(squeeze s.data.toList).toArray⟩, rfl⟩
  by_cases h0 : Q.size = 0
  · exact RefParse_en s w hs Q hQ h0
  have h0' : 0 < Q.size := by omega
  by_cases hc : Q[0] = 58
  · obtain ⟨T, hT⟩ : ∃ T : ByteArray, T.data.toList = Lib.trimPrefix (Q.data.toList.drop 1) [32] := ⟨⟨(Lib.trimPrefix (Q.data.toList.drop 1) [32]).toArray⟩, rfl⟩
    by_cases hz : space T.data.toList = 0
    · exact RefParse_cn s w hs Q hQ h0' hc T hT hz
    · obtain ⟨i, hi⟩ := atOf_nat T.data.toList
      exact RefParse_cp s w hs Q hQ h0' hc T hT hz i hi ⟨(Lib.trimPrefix (T.data.toList.drop (i + 1)) [32]).toArray⟩ rfl
  · by_cases hz : space Q.data.toList = 0
    · exact RefParse_pn s w hs Q hQ h0' hc hz
    · obtain ⟨i, hi⟩ := atOf_nat Q.data.toList
      exact RefParse_pp s w hs Q hQ h0' hc hz i hi ⟨(Lib.trimPrefix (Q.data.toList.drop (i + 1)) [32]).toArray⟩ rfl
end Go.Proofs.YtaapdhpfjiaeaaaDoor.Ti
