/-
  NARROWER THAN 'FOR EVERY INPUT', by the rows' own cells (each row's printed sentence says how): NumberMake: laid · NumberOperations: laid · NumberRounds: laid · NumberParse: laid · NumberFormat: laid · NumberDigits: laid · NumberRing: laid · NumberInverse: laid · NumberMod: laid · NumberNearest: laid · NumberOrder: laid.
  DERIVED. THE GIVEN ROWS OF THIS SEAT. 11 by the template 'for every input the law returns true; each argument reads behind the call as it read before'; 0 by the template 'total and deterministic' (their statements: YtpehlihbpmcofaaDoorTotals.lean).
  GIVEN WITH THE SEED: the statements are not yours to turn. If you find one false, say at which input.
  Laid BY PROGRAM, IN A SANDBOX (cutbox-rows.mjs): the forced cells as the released guide's own fill.sh prints them over the translation 21e6a030df74954b… (all of the seat's roots in one cut). By AI agents, Wed Nov 11 2026. No macro, syntax, notation, axiom, sorry.
-/
import Derived.Test.YtpehlihbpmcofaaDoorChecked
import GoSem.Claim
import GoSem.ClaimJoined
import GoSem.ClaimMapViews
import Derived.JoinedTies
import Derived.KernelRfl
namespace Go.Proofs.YtpehlihbpmcofaaDoor
/- THE CELL 'sum', in the pinned program and in every row, IS THE sha256 OF THE DUMP (.gsa) THAT YtpehlihbpmcofaaDoorProg.lean LOADS. Nothing in Lean hashes anything: it is a label: what it is worth is what the hold of that sum in a sandbox is worth. -/
noncomputable def Tryd.pinned : Pinned := { name := "ytpehlihbpmcofaadoor", sum := "21e6a030df74954baa32fe8e83a05a2b7d6a6aeb34bfbd9d81f255eb247be6f4", checked := Tryd.checked }
namespace Rows
def none {H : Type} : Left H := { results := [], args := [] }

/- WHAT THE LISTED PACKAGE-LEVEL VARIABLES READ AS WHEN THE CALL BEGINS. Each datum BY PROGRAM (the guide's laid-datum.mjs) off the statement by which the dump's own 'gosem.cut.vars' lays the variable. In a bare row this is a premise. The card (YtpehlihbpmcofaaDoorCards.lean) ties it to the program's text. -/
def laid_math_bits_deBruijn32tab {H : Type} : DataW H := .agg [.lit (.int .u8 0), .lit (.int .u8 1), .lit (.int .u8 28), .lit (.int .u8 2), .lit (.int .u8 29), .lit (.int .u8 14), .lit (.int .u8 24), .lit (.int .u8 3), .lit (.int .u8 30), .lit (.int .u8 22), .lit (.int .u8 20), .lit (.int .u8 15), .lit (.int .u8 25), .lit (.int .u8 17), .lit (.int .u8 4), .lit (.int .u8 8), .lit (.int .u8 31), .lit (.int .u8 27), .lit (.int .u8 13), .lit (.int .u8 23), .lit (.int .u8 21), .lit (.int .u8 19), .lit (.int .u8 16), .lit (.int .u8 7), .lit (.int .u8 26), .lit (.int .u8 12), .lit (.int .u8 18), .lit (.int .u8 6), .lit (.int .u8 11), .lit (.int .u8 5), .lit (.int .u8 10), .lit (.int .u8 9)]
def laid_math_bits_deBruijn64tab {H : Type} : DataW H := .agg [.lit (.int .u8 0), .lit (.int .u8 1), .lit (.int .u8 56), .lit (.int .u8 2), .lit (.int .u8 57), .lit (.int .u8 49), .lit (.int .u8 28), .lit (.int .u8 3), .lit (.int .u8 61), .lit (.int .u8 58), .lit (.int .u8 42), .lit (.int .u8 50), .lit (.int .u8 38), .lit (.int .u8 29), .lit (.int .u8 17), .lit (.int .u8 4), .lit (.int .u8 62), .lit (.int .u8 47), .lit (.int .u8 59), .lit (.int .u8 36), .lit (.int .u8 45), .lit (.int .u8 43), .lit (.int .u8 51), .lit (.int .u8 22), .lit (.int .u8 53), .lit (.int .u8 39), .lit (.int .u8 33), .lit (.int .u8 30), .lit (.int .u8 24), .lit (.int .u8 18), .lit (.int .u8 12), .lit (.int .u8 5), .lit (.int .u8 63), .lit (.int .u8 55), .lit (.int .u8 48), .lit (.int .u8 27), .lit (.int .u8 60), .lit (.int .u8 41), .lit (.int .u8 37), .lit (.int .u8 16), .lit (.int .u8 46), .lit (.int .u8 35), .lit (.int .u8 44), .lit (.int .u8 21), .lit (.int .u8 52), .lit (.int .u8 32), .lit (.int .u8 23), .lit (.int .u8 11), .lit (.int .u8 54), .lit (.int .u8 26), .lit (.int .u8 40), .lit (.int .u8 15), .lit (.int .u8 34), .lit (.int .u8 20), .lit (.int .u8 31), .lit (.int .u8 10), .lit (.int .u8 25), .lit (.int .u8 14), .lit (.int .u8 19), .lit (.int .u8 9), .lit (.int .u8 13), .lit (.int .u8 8), .lit (.int .u8 7), .lit (.int .u8 6)]
def laid_internal_strconv_uint64pow10 {H : Type} : DataW H := .agg [.lit (.int .u64 1), .lit (.int .u64 10), .lit (.int .u64 100), .lit (.int .u64 1000), .lit (.int .u64 10000), .lit (.int .u64 100000), .lit (.int .u64 1000000), .lit (.int .u64 10000000), .lit (.int .u64 100000000), .lit (.int .u64 1000000000), .lit (.int .u64 10000000000), .lit (.int .u64 100000000000), .lit (.int .u64 1000000000000), .lit (.int .u64 10000000000000), .lit (.int .u64 100000000000000), .lit (.int .u64 1000000000000000), .lit (.int .u64 10000000000000000), .lit (.int .u64 100000000000000000), .lit (.int .u64 1000000000000000000), .lit (.int .u64 10000000000000000000)]

/-- 'trclaw6.NumberMake': WHATEVER THE INPUT: true; the input reads as it did. -/
def numberMakeSpec : ChangeSpec := { name := "numberMake", fn := fun _ => fun
  | [d1, d2, d3] => { results := [.lit (.bool true)], args := [d1, d2, d3] }
  | _ => none }
def numberMakeRow : OpenClaim := { program := "ytpehlihbpmcofaadoor", sum := "21e6a030df74954baa32fe8e83a05a2b7d6a6aeb34bfbd9d81f255eb247be6f4", func := "transclude/trclaw6.NumberMake", spec := "numberMake", named := ["internal/strconv.uint64pow10", "math/bits.deBruijn32tab", "math/bits.deBruijn64tab"], apart := false, laid := [("math/bits.deBruijn32tab", laid_math_bits_deBruijn32tab), ("math/bits.deBruijn64tab", laid_math_bits_deBruijn64tab), ("internal/strconv.uint64pow10", laid_internal_strconv_uint64pow10)] }
def NumberMakeSaid : Prop := numberMakeRow.holds Tryd.pinned (OpenSpec.ofChange numberMakeSpec)

/-- ITS FALSE NEIGHBOUR: 'it returns false'. Refute it at one input. -/
def numberMakeWrong : ChangeSpec := { name := "numberMake", fn := fun _ => fun
  | [d1, d2, d3] => { results := [.lit (.bool false)], args := [d1, d2, d3] }
  | _ => none }
def NumberMakeWrongFalsely : Prop := numberMakeRow.holds Tryd.pinned (OpenSpec.ofChange numberMakeWrong)

/-- 'trclaw6.NumberOperations': WHATEVER THE INPUT: true; the input reads as it did. -/
def numberOperationsSpec : ChangeSpec := { name := "numberOperations", fn := fun _ => fun
  | [d1, d2, d3] => { results := [.lit (.bool true)], args := [d1, d2, d3] }
  | _ => none }
def numberOperationsRow : OpenClaim := { program := "ytpehlihbpmcofaadoor", sum := "21e6a030df74954baa32fe8e83a05a2b7d6a6aeb34bfbd9d81f255eb247be6f4", func := "transclude/trclaw6.NumberOperations", spec := "numberOperations", named := ["internal/strconv.uint64pow10", "math/bits.deBruijn32tab", "math/bits.deBruijn64tab"], apart := false, laid := [("math/bits.deBruijn32tab", laid_math_bits_deBruijn32tab), ("math/bits.deBruijn64tab", laid_math_bits_deBruijn64tab), ("internal/strconv.uint64pow10", laid_internal_strconv_uint64pow10)] }
def NumberOperationsSaid : Prop := numberOperationsRow.holds Tryd.pinned (OpenSpec.ofChange numberOperationsSpec)

/-- ITS FALSE NEIGHBOUR: 'it returns false'. Refute it at one input. -/
def numberOperationsWrong : ChangeSpec := { name := "numberOperations", fn := fun _ => fun
  | [d1, d2, d3] => { results := [.lit (.bool false)], args := [d1, d2, d3] }
  | _ => none }
def NumberOperationsWrongFalsely : Prop := numberOperationsRow.holds Tryd.pinned (OpenSpec.ofChange numberOperationsWrong)

/-- 'trclaw6.NumberRounds': WHATEVER THE INPUT: true; the input reads as it did. -/
def numberRoundsSpec : ChangeSpec := { name := "numberRounds", fn := fun _ => fun
  | [d1, d2] => { results := [.lit (.bool true)], args := [d1, d2] }
  | _ => none }
def numberRoundsRow : OpenClaim := { program := "ytpehlihbpmcofaadoor", sum := "21e6a030df74954baa32fe8e83a05a2b7d6a6aeb34bfbd9d81f255eb247be6f4", func := "transclude/trclaw6.NumberRounds", spec := "numberRounds", named := ["internal/strconv.uint64pow10", "math/bits.deBruijn32tab", "math/bits.deBruijn64tab"], apart := false, laid := [("math/bits.deBruijn32tab", laid_math_bits_deBruijn32tab), ("math/bits.deBruijn64tab", laid_math_bits_deBruijn64tab), ("internal/strconv.uint64pow10", laid_internal_strconv_uint64pow10)] }
def NumberRoundsSaid : Prop := numberRoundsRow.holds Tryd.pinned (OpenSpec.ofChange numberRoundsSpec)

/-- ITS FALSE NEIGHBOUR: 'it returns false'. Refute it at one input. -/
def numberRoundsWrong : ChangeSpec := { name := "numberRounds", fn := fun _ => fun
  | [d1, d2] => { results := [.lit (.bool false)], args := [d1, d2] }
  | _ => none }
def NumberRoundsWrongFalsely : Prop := numberRoundsRow.holds Tryd.pinned (OpenSpec.ofChange numberRoundsWrong)

/-- 'trclaw6.NumberParse': WHATEVER THE INPUT: true; the input reads as it did. -/
def numberParseSpec : ChangeSpec := { name := "numberParse", fn := fun _ => fun
  | [d] => { results := [.lit (.bool true)], args := [d] }
  | _ => none }
def numberParseRow : OpenClaim := { program := "ytpehlihbpmcofaadoor", sum := "21e6a030df74954baa32fe8e83a05a2b7d6a6aeb34bfbd9d81f255eb247be6f4", func := "transclude/trclaw6.NumberParse", spec := "numberParse", inPlace := ["internal/bytealg.IndexByteString", "internal/bytealg.IndexString"], named := ["internal/strconv.uint64pow10", "math/bits.deBruijn32tab", "math/bits.deBruijn64tab", "internal/bytealg.MaxLen"], apart := false, laid := [("math/bits.deBruijn32tab", laid_math_bits_deBruijn32tab), ("math/bits.deBruijn64tab", laid_math_bits_deBruijn64tab), ("internal/strconv.uint64pow10", laid_internal_strconv_uint64pow10)] }
def NumberParseSaid : Prop := numberParseRow.holds Tryd.pinned (OpenSpec.ofChange numberParseSpec)

/-- ITS FALSE NEIGHBOUR: 'it returns false'. Refute it at one input. -/
def numberParseWrong : ChangeSpec := { name := "numberParse", fn := fun _ => fun
  | [d] => { results := [.lit (.bool false)], args := [d] }
  | _ => none }
def NumberParseWrongFalsely : Prop := numberParseRow.holds Tryd.pinned (OpenSpec.ofChange numberParseWrong)

/-- 'trclaw6.NumberFormat': WHATEVER THE INPUT: true; the input reads as it did. -/
def numberFormatSpec : ChangeSpec := { name := "numberFormat", fn := fun _ => fun
  | [d1, d2] => { results := [.lit (.bool true)], args := [d1, d2] }
  | _ => none }
def numberFormatRow : OpenClaim := { program := "ytpehlihbpmcofaadoor", sum := "21e6a030df74954baa32fe8e83a05a2b7d6a6aeb34bfbd9d81f255eb247be6f4", func := "transclude/trclaw6.NumberFormat", spec := "numberFormat", recurses := true, named := ["internal/strconv.uint64pow10", "math/bits.deBruijn32tab", "math/bits.deBruijn64tab"], apart := false, laid := [("math/bits.deBruijn32tab", laid_math_bits_deBruijn32tab), ("math/bits.deBruijn64tab", laid_math_bits_deBruijn64tab), ("internal/strconv.uint64pow10", laid_internal_strconv_uint64pow10)] }
def NumberFormatSaid : Prop := numberFormatRow.holds Tryd.pinned (OpenSpec.ofChange numberFormatSpec)

/-- ITS FALSE NEIGHBOUR: 'it returns false'. Refute it at one input. -/
def numberFormatWrong : ChangeSpec := { name := "numberFormat", fn := fun _ => fun
  | [d1, d2] => { results := [.lit (.bool false)], args := [d1, d2] }
  | _ => none }
def NumberFormatWrongFalsely : Prop := numberFormatRow.holds Tryd.pinned (OpenSpec.ofChange numberFormatWrong)

/-- 'trclaw6.NumberDigits': WHATEVER THE INPUT: true; the input reads as it did. -/
def numberDigitsSpec : ChangeSpec := { name := "numberDigits", fn := fun _ => fun
  | [d1, d2] => { results := [.lit (.bool true)], args := [d1, d2] }
  | _ => none }
def numberDigitsRow : OpenClaim := { program := "ytpehlihbpmcofaadoor", sum := "21e6a030df74954baa32fe8e83a05a2b7d6a6aeb34bfbd9d81f255eb247be6f4", func := "transclude/trclaw6.NumberDigits", spec := "numberDigits", inPlace := ["internal/bytealg.IndexByteString", "internal/bytealg.IndexString"], named := ["internal/strconv.uint64pow10", "math/bits.deBruijn32tab", "math/bits.deBruijn64tab", "internal/bytealg.MaxLen"], apart := false, laid := [("math/bits.deBruijn32tab", laid_math_bits_deBruijn32tab), ("math/bits.deBruijn64tab", laid_math_bits_deBruijn64tab), ("internal/strconv.uint64pow10", laid_internal_strconv_uint64pow10)] }
def NumberDigitsSaid : Prop := numberDigitsRow.holds Tryd.pinned (OpenSpec.ofChange numberDigitsSpec)

/-- ITS FALSE NEIGHBOUR: 'it returns false'. Refute it at one input. -/
def numberDigitsWrong : ChangeSpec := { name := "numberDigits", fn := fun _ => fun
  | [d1, d2] => { results := [.lit (.bool false)], args := [d1, d2] }
  | _ => none }
def NumberDigitsWrongFalsely : Prop := numberDigitsRow.holds Tryd.pinned (OpenSpec.ofChange numberDigitsWrong)

/-- 'trclaw6.NumberRing': WHATEVER THE INPUT: true; the input reads as it did. -/
def numberRingSpec : ChangeSpec := { name := "numberRing", fn := fun _ => fun
  | [d1, d2, d3, d4, d5, d6] => { results := [.lit (.bool true)], args := [d1, d2, d3, d4, d5, d6] }
  | _ => none }
def numberRingRow : OpenClaim := { program := "ytpehlihbpmcofaadoor", sum := "21e6a030df74954baa32fe8e83a05a2b7d6a6aeb34bfbd9d81f255eb247be6f4", func := "transclude/trclaw6.NumberRing", spec := "numberRing", named := ["internal/strconv.uint64pow10", "math/bits.deBruijn32tab", "math/bits.deBruijn64tab"], apart := false, laid := [("math/bits.deBruijn32tab", laid_math_bits_deBruijn32tab), ("math/bits.deBruijn64tab", laid_math_bits_deBruijn64tab), ("internal/strconv.uint64pow10", laid_internal_strconv_uint64pow10)] }
def NumberRingSaid : Prop := numberRingRow.holds Tryd.pinned (OpenSpec.ofChange numberRingSpec)

/-- ITS FALSE NEIGHBOUR: 'it returns false'. Refute it at one input. -/
def numberRingWrong : ChangeSpec := { name := "numberRing", fn := fun _ => fun
  | [d1, d2, d3, d4, d5, d6] => { results := [.lit (.bool false)], args := [d1, d2, d3, d4, d5, d6] }
  | _ => none }
def NumberRingWrongFalsely : Prop := numberRingRow.holds Tryd.pinned (OpenSpec.ofChange numberRingWrong)

/-- 'trclaw6.NumberInverse': WHATEVER THE INPUT: true; the input reads as it did. -/
def numberInverseSpec : ChangeSpec := { name := "numberInverse", fn := fun _ => fun
  | [d1, d2, d3, d4] => { results := [.lit (.bool true)], args := [d1, d2, d3, d4] }
  | _ => none }
def numberInverseRow : OpenClaim := { program := "ytpehlihbpmcofaadoor", sum := "21e6a030df74954baa32fe8e83a05a2b7d6a6aeb34bfbd9d81f255eb247be6f4", func := "transclude/trclaw6.NumberInverse", spec := "numberInverse", named := ["internal/strconv.uint64pow10", "math/bits.deBruijn32tab", "math/bits.deBruijn64tab"], apart := false, laid := [("math/bits.deBruijn32tab", laid_math_bits_deBruijn32tab), ("math/bits.deBruijn64tab", laid_math_bits_deBruijn64tab), ("internal/strconv.uint64pow10", laid_internal_strconv_uint64pow10)] }
def NumberInverseSaid : Prop := numberInverseRow.holds Tryd.pinned (OpenSpec.ofChange numberInverseSpec)

/-- ITS FALSE NEIGHBOUR: 'it returns false'. Refute it at one input. -/
def numberInverseWrong : ChangeSpec := { name := "numberInverse", fn := fun _ => fun
  | [d1, d2, d3, d4] => { results := [.lit (.bool false)], args := [d1, d2, d3, d4] }
  | _ => none }
def NumberInverseWrongFalsely : Prop := numberInverseRow.holds Tryd.pinned (OpenSpec.ofChange numberInverseWrong)

/-- 'trclaw6.NumberMod': WHATEVER THE INPUT: true; the input reads as it did. -/
def numberModSpec : ChangeSpec := { name := "numberMod", fn := fun _ => fun
  | [d1, d2, d3, d4] => { results := [.lit (.bool true)], args := [d1, d2, d3, d4] }
  | _ => none }
def numberModRow : OpenClaim := { program := "ytpehlihbpmcofaadoor", sum := "21e6a030df74954baa32fe8e83a05a2b7d6a6aeb34bfbd9d81f255eb247be6f4", func := "transclude/trclaw6.NumberMod", spec := "numberMod", named := ["internal/strconv.uint64pow10", "math/bits.deBruijn32tab", "math/bits.deBruijn64tab"], apart := false, laid := [("math/bits.deBruijn32tab", laid_math_bits_deBruijn32tab), ("math/bits.deBruijn64tab", laid_math_bits_deBruijn64tab), ("internal/strconv.uint64pow10", laid_internal_strconv_uint64pow10)] }
def NumberModSaid : Prop := numberModRow.holds Tryd.pinned (OpenSpec.ofChange numberModSpec)

/-- ITS FALSE NEIGHBOUR: 'it returns false'. Refute it at one input. -/
def numberModWrong : ChangeSpec := { name := "numberMod", fn := fun _ => fun
  | [d1, d2, d3, d4] => { results := [.lit (.bool false)], args := [d1, d2, d3, d4] }
  | _ => none }
def NumberModWrongFalsely : Prop := numberModRow.holds Tryd.pinned (OpenSpec.ofChange numberModWrong)

/-- 'trclaw6.NumberNearest': WHATEVER THE INPUT: true; the input reads as it did. -/
def numberNearestSpec : ChangeSpec := { name := "numberNearest", fn := fun _ => fun
  | [d1, d2, d3] => { results := [.lit (.bool true)], args := [d1, d2, d3] }
  | _ => none }
def numberNearestRow : OpenClaim := { program := "ytpehlihbpmcofaadoor", sum := "21e6a030df74954baa32fe8e83a05a2b7d6a6aeb34bfbd9d81f255eb247be6f4", func := "transclude/trclaw6.NumberNearest", spec := "numberNearest", named := ["internal/strconv.uint64pow10", "math/bits.deBruijn32tab", "math/bits.deBruijn64tab"], apart := false, laid := [("math/bits.deBruijn32tab", laid_math_bits_deBruijn32tab), ("math/bits.deBruijn64tab", laid_math_bits_deBruijn64tab), ("internal/strconv.uint64pow10", laid_internal_strconv_uint64pow10)] }
def NumberNearestSaid : Prop := numberNearestRow.holds Tryd.pinned (OpenSpec.ofChange numberNearestSpec)

/-- ITS FALSE NEIGHBOUR: 'it returns false'. Refute it at one input. -/
def numberNearestWrong : ChangeSpec := { name := "numberNearest", fn := fun _ => fun
  | [d1, d2, d3] => { results := [.lit (.bool false)], args := [d1, d2, d3] }
  | _ => none }
def NumberNearestWrongFalsely : Prop := numberNearestRow.holds Tryd.pinned (OpenSpec.ofChange numberNearestWrong)

/-- 'trclaw6.NumberOrder': WHATEVER THE INPUT: true; the input reads as it did. -/
def numberOrderSpec : ChangeSpec := { name := "numberOrder", fn := fun _ => fun
  | [d1, d2, d3, d4, d5, d6] => { results := [.lit (.bool true)], args := [d1, d2, d3, d4, d5, d6] }
  | _ => none }
def numberOrderRow : OpenClaim := { program := "ytpehlihbpmcofaadoor", sum := "21e6a030df74954baa32fe8e83a05a2b7d6a6aeb34bfbd9d81f255eb247be6f4", func := "transclude/trclaw6.NumberOrder", spec := "numberOrder", named := ["internal/strconv.uint64pow10", "math/bits.deBruijn32tab", "math/bits.deBruijn64tab"], apart := false, laid := [("math/bits.deBruijn32tab", laid_math_bits_deBruijn32tab), ("math/bits.deBruijn64tab", laid_math_bits_deBruijn64tab), ("internal/strconv.uint64pow10", laid_internal_strconv_uint64pow10)] }
def NumberOrderSaid : Prop := numberOrderRow.holds Tryd.pinned (OpenSpec.ofChange numberOrderSpec)

/-- ITS FALSE NEIGHBOUR: 'it returns false'. Refute it at one input. -/
def numberOrderWrong : ChangeSpec := { name := "numberOrder", fn := fun _ => fun
  | [d1, d2, d3, d4, d5, d6] => { results := [.lit (.bool false)], args := [d1, d2, d3, d4, d5, d6] }
  | _ => none }
def NumberOrderWrongFalsely : Prop := numberOrderRow.holds Tryd.pinned (OpenSpec.ofChange numberOrderWrong)

/- THE SECOND FORM. 'bulk': how many values and letters a reading holds, each counted each time it is reached (what is shared counts as often as it is met; a slice's spare places count too). A statement '..UptoSaid' is the law's where the arguments, and the package variables that the reading takes, are together of bulk at most 1048576: NARROWER than '..Said'. Prove '..Said' where nothing that the law and all that it calls make is longer than what came in: it says more and counts as full. Else prove '..UptoSaid'. A law counts once. -/
mutual
def uptoBulk {H : Type} : DataW H → Nat
  | .lit (.string bytes) => bytes.length + 1
  | .lit _ => 1
  | .nil => 1
  | .ptr d => uptoBulk d + 1
  | .slice elems spare => uptoBulkAll elems + uptoBulkAll spare + 1
  | .agg parts => uptoBulkAll parts + 1
  | .iface _ d => uptoBulk d + 1
  | .map entries => uptoBulkEntries entries + 1
  | .held _ => 1
def uptoBulkAll {H : Type} : List (DataW H) → Nat
  | [] => 0
  | d :: r => uptoBulk d + uptoBulkAll r
def uptoBulkEntries {H : Type} : List (Lit × DataW H) → Nat
  | [] => 0
  | x :: r => uptoBulkEntry x + uptoBulkEntries r
def uptoBulkEntry {H : Type} : Lit × DataW H → Nat
  | (.string bytes, d) => bytes.length + uptoBulk d + 1
  | (_, d) => uptoBulk d + 1
 end
def uptoSmall : (H : Type) → List (DataW H) → Bool := fun _ ds => decide (uptoBulkAll ds ≤ 1048576)
def OpenSpec.upto (s : _root_.Go.ChangeSpec) : _root_.Go.OpenSpec := { _root_.Go.OpenSpec.ofChange s with cond := some uptoSmall }

/-- 'trclaw6.NumberMake', WHERE WHAT IT READS IS OF BULK AT MOST 1048576: true; the input reads as it did. -/
def numberMakeUptoRow : OpenClaim := { program := "ytpehlihbpmcofaadoor", sum := "21e6a030df74954baa32fe8e83a05a2b7d6a6aeb34bfbd9d81f255eb247be6f4", func := "transclude/trclaw6.NumberMake", spec := "numberMake", named := ["internal/strconv.uint64pow10", "math/bits.deBruijn32tab", "math/bits.deBruijn64tab"], apart := false, laid := [("math/bits.deBruijn32tab", laid_math_bits_deBruijn32tab), ("math/bits.deBruijn64tab", laid_math_bits_deBruijn64tab), ("internal/strconv.uint64pow10", laid_internal_strconv_uint64pow10)], narrowed := true }
def NumberMakeUptoSaid : Prop := numberMakeUptoRow.holds Tryd.pinned (OpenSpec.upto numberMakeSpec)

/-- 'trclaw6.NumberOperations', WHERE WHAT IT READS IS OF BULK AT MOST 1048576: true; the input reads as it did. -/
def numberOperationsUptoRow : OpenClaim := { program := "ytpehlihbpmcofaadoor", sum := "21e6a030df74954baa32fe8e83a05a2b7d6a6aeb34bfbd9d81f255eb247be6f4", func := "transclude/trclaw6.NumberOperations", spec := "numberOperations", named := ["internal/strconv.uint64pow10", "math/bits.deBruijn32tab", "math/bits.deBruijn64tab"], apart := false, laid := [("math/bits.deBruijn32tab", laid_math_bits_deBruijn32tab), ("math/bits.deBruijn64tab", laid_math_bits_deBruijn64tab), ("internal/strconv.uint64pow10", laid_internal_strconv_uint64pow10)], narrowed := true }
def NumberOperationsUptoSaid : Prop := numberOperationsUptoRow.holds Tryd.pinned (OpenSpec.upto numberOperationsSpec)

/-- 'trclaw6.NumberRounds', WHERE WHAT IT READS IS OF BULK AT MOST 1048576: true; the input reads as it did. -/
def numberRoundsUptoRow : OpenClaim := { program := "ytpehlihbpmcofaadoor", sum := "21e6a030df74954baa32fe8e83a05a2b7d6a6aeb34bfbd9d81f255eb247be6f4", func := "transclude/trclaw6.NumberRounds", spec := "numberRounds", named := ["internal/strconv.uint64pow10", "math/bits.deBruijn32tab", "math/bits.deBruijn64tab"], apart := false, laid := [("math/bits.deBruijn32tab", laid_math_bits_deBruijn32tab), ("math/bits.deBruijn64tab", laid_math_bits_deBruijn64tab), ("internal/strconv.uint64pow10", laid_internal_strconv_uint64pow10)], narrowed := true }
def NumberRoundsUptoSaid : Prop := numberRoundsUptoRow.holds Tryd.pinned (OpenSpec.upto numberRoundsSpec)

/-- 'trclaw6.NumberParse', WHERE WHAT IT READS IS OF BULK AT MOST 1048576: true; the input reads as it did. -/
def numberParseUptoRow : OpenClaim := { program := "ytpehlihbpmcofaadoor", sum := "21e6a030df74954baa32fe8e83a05a2b7d6a6aeb34bfbd9d81f255eb247be6f4", func := "transclude/trclaw6.NumberParse", spec := "numberParse", inPlace := ["internal/bytealg.IndexByteString", "internal/bytealg.IndexString"], named := ["internal/strconv.uint64pow10", "math/bits.deBruijn32tab", "math/bits.deBruijn64tab", "internal/bytealg.MaxLen"], apart := false, laid := [("math/bits.deBruijn32tab", laid_math_bits_deBruijn32tab), ("math/bits.deBruijn64tab", laid_math_bits_deBruijn64tab), ("internal/strconv.uint64pow10", laid_internal_strconv_uint64pow10)], narrowed := true }
def NumberParseUptoSaid : Prop := numberParseUptoRow.holds Tryd.pinned (OpenSpec.upto numberParseSpec)

/-- 'trclaw6.NumberFormat', WHERE WHAT IT READS IS OF BULK AT MOST 1048576: true; the input reads as it did. -/
def numberFormatUptoRow : OpenClaim := { program := "ytpehlihbpmcofaadoor", sum := "21e6a030df74954baa32fe8e83a05a2b7d6a6aeb34bfbd9d81f255eb247be6f4", func := "transclude/trclaw6.NumberFormat", spec := "numberFormat", recurses := true, named := ["internal/strconv.uint64pow10", "math/bits.deBruijn32tab", "math/bits.deBruijn64tab"], apart := false, laid := [("math/bits.deBruijn32tab", laid_math_bits_deBruijn32tab), ("math/bits.deBruijn64tab", laid_math_bits_deBruijn64tab), ("internal/strconv.uint64pow10", laid_internal_strconv_uint64pow10)], narrowed := true }
def NumberFormatUptoSaid : Prop := numberFormatUptoRow.holds Tryd.pinned (OpenSpec.upto numberFormatSpec)

/-- 'trclaw6.NumberDigits', WHERE WHAT IT READS IS OF BULK AT MOST 1048576: true; the input reads as it did. -/
def numberDigitsUptoRow : OpenClaim := { program := "ytpehlihbpmcofaadoor", sum := "21e6a030df74954baa32fe8e83a05a2b7d6a6aeb34bfbd9d81f255eb247be6f4", func := "transclude/trclaw6.NumberDigits", spec := "numberDigits", inPlace := ["internal/bytealg.IndexByteString", "internal/bytealg.IndexString"], named := ["internal/strconv.uint64pow10", "math/bits.deBruijn32tab", "math/bits.deBruijn64tab", "internal/bytealg.MaxLen"], apart := false, laid := [("math/bits.deBruijn32tab", laid_math_bits_deBruijn32tab), ("math/bits.deBruijn64tab", laid_math_bits_deBruijn64tab), ("internal/strconv.uint64pow10", laid_internal_strconv_uint64pow10)], narrowed := true }
def NumberDigitsUptoSaid : Prop := numberDigitsUptoRow.holds Tryd.pinned (OpenSpec.upto numberDigitsSpec)

/-- 'trclaw6.NumberRing', WHERE WHAT IT READS IS OF BULK AT MOST 1048576: true; the input reads as it did. -/
def numberRingUptoRow : OpenClaim := { program := "ytpehlihbpmcofaadoor", sum := "21e6a030df74954baa32fe8e83a05a2b7d6a6aeb34bfbd9d81f255eb247be6f4", func := "transclude/trclaw6.NumberRing", spec := "numberRing", named := ["internal/strconv.uint64pow10", "math/bits.deBruijn32tab", "math/bits.deBruijn64tab"], apart := false, laid := [("math/bits.deBruijn32tab", laid_math_bits_deBruijn32tab), ("math/bits.deBruijn64tab", laid_math_bits_deBruijn64tab), ("internal/strconv.uint64pow10", laid_internal_strconv_uint64pow10)], narrowed := true }
def NumberRingUptoSaid : Prop := numberRingUptoRow.holds Tryd.pinned (OpenSpec.upto numberRingSpec)

/-- 'trclaw6.NumberInverse', WHERE WHAT IT READS IS OF BULK AT MOST 1048576: true; the input reads as it did. -/
def numberInverseUptoRow : OpenClaim := { program := "ytpehlihbpmcofaadoor", sum := "21e6a030df74954baa32fe8e83a05a2b7d6a6aeb34bfbd9d81f255eb247be6f4", func := "transclude/trclaw6.NumberInverse", spec := "numberInverse", named := ["internal/strconv.uint64pow10", "math/bits.deBruijn32tab", "math/bits.deBruijn64tab"], apart := false, laid := [("math/bits.deBruijn32tab", laid_math_bits_deBruijn32tab), ("math/bits.deBruijn64tab", laid_math_bits_deBruijn64tab), ("internal/strconv.uint64pow10", laid_internal_strconv_uint64pow10)], narrowed := true }
def NumberInverseUptoSaid : Prop := numberInverseUptoRow.holds Tryd.pinned (OpenSpec.upto numberInverseSpec)

/-- 'trclaw6.NumberMod', WHERE WHAT IT READS IS OF BULK AT MOST 1048576: true; the input reads as it did. -/
def numberModUptoRow : OpenClaim := { program := "ytpehlihbpmcofaadoor", sum := "21e6a030df74954baa32fe8e83a05a2b7d6a6aeb34bfbd9d81f255eb247be6f4", func := "transclude/trclaw6.NumberMod", spec := "numberMod", named := ["internal/strconv.uint64pow10", "math/bits.deBruijn32tab", "math/bits.deBruijn64tab"], apart := false, laid := [("math/bits.deBruijn32tab", laid_math_bits_deBruijn32tab), ("math/bits.deBruijn64tab", laid_math_bits_deBruijn64tab), ("internal/strconv.uint64pow10", laid_internal_strconv_uint64pow10)], narrowed := true }
def NumberModUptoSaid : Prop := numberModUptoRow.holds Tryd.pinned (OpenSpec.upto numberModSpec)

/-- 'trclaw6.NumberNearest', WHERE WHAT IT READS IS OF BULK AT MOST 1048576: true; the input reads as it did. -/
def numberNearestUptoRow : OpenClaim := { program := "ytpehlihbpmcofaadoor", sum := "21e6a030df74954baa32fe8e83a05a2b7d6a6aeb34bfbd9d81f255eb247be6f4", func := "transclude/trclaw6.NumberNearest", spec := "numberNearest", named := ["internal/strconv.uint64pow10", "math/bits.deBruijn32tab", "math/bits.deBruijn64tab"], apart := false, laid := [("math/bits.deBruijn32tab", laid_math_bits_deBruijn32tab), ("math/bits.deBruijn64tab", laid_math_bits_deBruijn64tab), ("internal/strconv.uint64pow10", laid_internal_strconv_uint64pow10)], narrowed := true }
def NumberNearestUptoSaid : Prop := numberNearestUptoRow.holds Tryd.pinned (OpenSpec.upto numberNearestSpec)

/-- 'trclaw6.NumberOrder', WHERE WHAT IT READS IS OF BULK AT MOST 1048576: true; the input reads as it did. -/
def numberOrderUptoRow : OpenClaim := { program := "ytpehlihbpmcofaadoor", sum := "21e6a030df74954baa32fe8e83a05a2b7d6a6aeb34bfbd9d81f255eb247be6f4", func := "transclude/trclaw6.NumberOrder", spec := "numberOrder", named := ["internal/strconv.uint64pow10", "math/bits.deBruijn32tab", "math/bits.deBruijn64tab"], apart := false, laid := [("math/bits.deBruijn32tab", laid_math_bits_deBruijn32tab), ("math/bits.deBruijn64tab", laid_math_bits_deBruijn64tab), ("internal/strconv.uint64pow10", laid_internal_strconv_uint64pow10)], narrowed := true }
def NumberOrderUptoSaid : Prop := numberOrderUptoRow.holds Tryd.pinned (OpenSpec.upto numberOrderSpec)

end Rows
end Go.Proofs.YtpehlihbpmcofaaDoor
