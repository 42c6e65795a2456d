/-
  NARROWER THAN 'FOR EVERY INPUT', by the rows' own cells (each row's printed sentence says how): CalendarDates: laid · CalendarInverse: laid · CalendarStart: laid · CalendarNests: laid · CalendarAdd: laid · CalendarMonths: laid · CalendarParse: laid · CalendarFormat: laid · CalendarUnit: laid · CalendarReads: laid.
  DERIVED. THE GIVEN ROWS OF THIS SEAT. 10 by the template 'for every input the law returns true; each argument reads behind the call as it read before'; 0 by the template 'total and deterministic' (their statements: YtlkbdnjpcagopaaDoorTotals.lean).
  GIVEN WITH THE SEED: the statements are not yours to turn. If you find one false, say at which input.
  Laid BY PROGRAM, IN A SANDBOX (cutbox-rows.mjs): the forced cells as the released guide's own fill.sh prints them over the translation 50482692c58d930f… (all of the seat's roots in one cut). By AI agents, Wed Nov 11 2026. No macro, syntax, notation, axiom, sorry.
-/
import Derived.Test.YtlkbdnjpcagopaaDoorChecked
import GoSem.Claim
import GoSem.ClaimJoined
import GoSem.ClaimMapViews
import Derived.JoinedTies
import Derived.KernelRfl
namespace Go.Proofs.YtlkbdnjpcagopaaDoor
/- THE CELL 'sum', in the pinned program and in every row, IS THE sha256 OF THE DUMP (.gsa) THAT YtlkbdnjpcagopaaDoorProg.lean LOADS. Nothing in Lean hashes anything: it is a label: what it is worth is what the hold of that sum in a sandbox is worth. -/
noncomputable def Tryd.pinned : Pinned := { name := "ytlkbdnjpcagopaadoor", sum := "50482692c58d930f1562a832bbf5d5e59edc45e4bda0cf267aed5b4f3d239408", checked := Tryd.checked }
namespace Rows
def none {H : Type} : Left H := { results := [], args := [] }

/- WHAT THE LISTED PACKAGE-LEVEL VARIABLES READ AS WHEN THE CALL BEGINS. Each datum BY PROGRAM (the guide's laid-datum.mjs) off the statement by which the dump's own 'gosem.cut.vars' lays the variable. In a bare row this is a premise. The card (YtlkbdnjpcagopaaDoorCards.lean) ties it to the program's text. -/
def laid_math_bits_deBruijn32tab {H : Type} : DataW H := .agg [.lit (.int .u8 0), .lit (.int .u8 1), .lit (.int .u8 28), .lit (.int .u8 2), .lit (.int .u8 29), .lit (.int .u8 14), .lit (.int .u8 24), .lit (.int .u8 3), .lit (.int .u8 30), .lit (.int .u8 22), .lit (.int .u8 20), .lit (.int .u8 15), .lit (.int .u8 25), .lit (.int .u8 17), .lit (.int .u8 4), .lit (.int .u8 8), .lit (.int .u8 31), .lit (.int .u8 27), .lit (.int .u8 13), .lit (.int .u8 23), .lit (.int .u8 21), .lit (.int .u8 19), .lit (.int .u8 16), .lit (.int .u8 7), .lit (.int .u8 26), .lit (.int .u8 12), .lit (.int .u8 18), .lit (.int .u8 6), .lit (.int .u8 11), .lit (.int .u8 5), .lit (.int .u8 10), .lit (.int .u8 9)]
def laid_math_bits_deBruijn64tab {H : Type} : DataW H := .agg [.lit (.int .u8 0), .lit (.int .u8 1), .lit (.int .u8 56), .lit (.int .u8 2), .lit (.int .u8 57), .lit (.int .u8 49), .lit (.int .u8 28), .lit (.int .u8 3), .lit (.int .u8 61), .lit (.int .u8 58), .lit (.int .u8 42), .lit (.int .u8 50), .lit (.int .u8 38), .lit (.int .u8 29), .lit (.int .u8 17), .lit (.int .u8 4), .lit (.int .u8 62), .lit (.int .u8 47), .lit (.int .u8 59), .lit (.int .u8 36), .lit (.int .u8 45), .lit (.int .u8 43), .lit (.int .u8 51), .lit (.int .u8 22), .lit (.int .u8 53), .lit (.int .u8 39), .lit (.int .u8 33), .lit (.int .u8 30), .lit (.int .u8 24), .lit (.int .u8 18), .lit (.int .u8 12), .lit (.int .u8 5), .lit (.int .u8 63), .lit (.int .u8 55), .lit (.int .u8 48), .lit (.int .u8 27), .lit (.int .u8 60), .lit (.int .u8 41), .lit (.int .u8 37), .lit (.int .u8 16), .lit (.int .u8 46), .lit (.int .u8 35), .lit (.int .u8 44), .lit (.int .u8 21), .lit (.int .u8 52), .lit (.int .u8 32), .lit (.int .u8 23), .lit (.int .u8 11), .lit (.int .u8 54), .lit (.int .u8 26), .lit (.int .u8 40), .lit (.int .u8 15), .lit (.int .u8 34), .lit (.int .u8 20), .lit (.int .u8 31), .lit (.int .u8 10), .lit (.int .u8 25), .lit (.int .u8 14), .lit (.int .u8 19), .lit (.int .u8 9), .lit (.int .u8 13), .lit (.int .u8 8), .lit (.int .u8 7), .lit (.int .u8 6)]
def laid_internal_strconv_uint64pow10 {H : Type} : DataW H := .agg [.lit (.int .u64 1), .lit (.int .u64 10), .lit (.int .u64 100), .lit (.int .u64 1000), .lit (.int .u64 10000), .lit (.int .u64 100000), .lit (.int .u64 1000000), .lit (.int .u64 10000000), .lit (.int .u64 100000000), .lit (.int .u64 1000000000), .lit (.int .u64 10000000000), .lit (.int .u64 100000000000), .lit (.int .u64 1000000000000), .lit (.int .u64 10000000000000), .lit (.int .u64 100000000000000), .lit (.int .u64 1000000000000000), .lit (.int .u64 10000000000000000), .lit (.int .u64 100000000000000000), .lit (.int .u64 1000000000000000000), .lit (.int .u64 10000000000000000000)]
def laid_transclude_calendar_monthDays {H : Type} : DataW H := .agg [.lit (.int .i64 31), .lit (.int .i64 28), .lit (.int .i64 31), .lit (.int .i64 30), .lit (.int .i64 31), .lit (.int .i64 30), .lit (.int .i64 31), .lit (.int .i64 31), .lit (.int .i64 30), .lit (.int .i64 31), .lit (.int .i64 30), .lit (.int .i64 31)]
def laid_transclude_calendar_monthNames {H : Type} : DataW H := .agg [.lit (.string [74, 97, 110, 117, 97, 114, 121]), .lit (.string [70, 101, 98, 114, 117, 97, 114, 121]), .lit (.string [77, 97, 114, 99, 104]), .lit (.string [65, 112, 114, 105, 108]), .lit (.string [77, 97, 121]), .lit (.string [74, 117, 110, 101]), .lit (.string [74, 117, 108, 121]), .lit (.string [65, 117, 103, 117, 115, 116]), .lit (.string [83, 101, 112, 116, 101, 109, 98, 101, 114]), .lit (.string [79, 99, 116, 111, 98, 101, 114]), .lit (.string [78, 111, 118, 101, 109, 98, 101, 114]), .lit (.string [68, 101, 99, 101, 109, 98, 101, 114])]
def laid_transclude_calendar_dayNames {H : Type} : DataW H := .agg [.lit (.string [77, 111, 110, 100, 97, 121]), .lit (.string [84, 117, 101, 115, 100, 97, 121]), .lit (.string [87, 101, 100, 110, 101, 115, 100, 97, 121]), .lit (.string [84, 104, 117, 114, 115, 100, 97, 121]), .lit (.string [70, 114, 105, 100, 97, 121]), .lit (.string [83, 97, 116, 117, 114, 100, 97, 121]), .lit (.string [83, 117, 110, 100, 97, 121])]

/-- 'trclaw7.CalendarDates': WHATEVER THE INPUT: true; the input reads as it did. -/
def calendarDatesSpec : ChangeSpec := { name := "calendarDates", fn := fun _ => fun
  | [d1, d2, d3] => { results := [.lit (.bool true)], args := [d1, d2, d3] }
  | _ => none }
def calendarDatesRow : OpenClaim := { program := "ytlkbdnjpcagopaadoor", sum := "50482692c58d930f1562a832bbf5d5e59edc45e4bda0cf267aed5b4f3d239408", func := "transclude/trclaw7.CalendarDates", spec := "calendarDates", inPlace := ["internal/abi.NoEscape"], unfollowed := true, recurses := true, named := ["transclude/calendar.monthDays", "transclude/calendar.monthNames", "transclude/calendar.dayNames", "internal/strconv.uint64pow10", "math/bits.deBruijn32tab", "math/bits.deBruijn64tab"], apart := false, laid := [("math/bits.deBruijn32tab", laid_math_bits_deBruijn32tab), ("math/bits.deBruijn64tab", laid_math_bits_deBruijn64tab), ("internal/strconv.uint64pow10", laid_internal_strconv_uint64pow10), ("transclude/calendar.monthDays", laid_transclude_calendar_monthDays), ("transclude/calendar.monthNames", laid_transclude_calendar_monthNames), ("transclude/calendar.dayNames", laid_transclude_calendar_dayNames)] }
def CalendarDatesSaid : Prop := calendarDatesRow.holds Tryd.pinned (OpenSpec.ofChange calendarDatesSpec)

/-- ITS FALSE NEIGHBOUR: 'it returns false'. Refute it at one input. -/
def calendarDatesWrong : ChangeSpec := { name := "calendarDates", fn := fun _ => fun
  | [d1, d2, d3] => { results := [.lit (.bool false)], args := [d1, d2, d3] }
  | _ => none }
def CalendarDatesWrongFalsely : Prop := calendarDatesRow.holds Tryd.pinned (OpenSpec.ofChange calendarDatesWrong)

/-- 'trclaw7.CalendarInverse': WHATEVER THE INPUT: true; the input reads as it did. -/
def calendarInverseSpec : ChangeSpec := { name := "calendarInverse", fn := fun _ => fun
  | [d] => { results := [.lit (.bool true)], args := [d] }
  | _ => none }
def calendarInverseRow : OpenClaim := { program := "ytlkbdnjpcagopaadoor", sum := "50482692c58d930f1562a832bbf5d5e59edc45e4bda0cf267aed5b4f3d239408", func := "transclude/trclaw7.CalendarInverse", spec := "calendarInverse", inPlace := ["internal/abi.NoEscape"], unfollowed := true, recurses := true, named := ["transclude/calendar.monthDays", "transclude/calendar.monthNames", "transclude/calendar.dayNames", "internal/strconv.uint64pow10", "math/bits.deBruijn32tab", "math/bits.deBruijn64tab"], apart := false, laid := [("math/bits.deBruijn32tab", laid_math_bits_deBruijn32tab), ("math/bits.deBruijn64tab", laid_math_bits_deBruijn64tab), ("internal/strconv.uint64pow10", laid_internal_strconv_uint64pow10), ("transclude/calendar.monthDays", laid_transclude_calendar_monthDays), ("transclude/calendar.monthNames", laid_transclude_calendar_monthNames), ("transclude/calendar.dayNames", laid_transclude_calendar_dayNames)] }
def CalendarInverseSaid : Prop := calendarInverseRow.holds Tryd.pinned (OpenSpec.ofChange calendarInverseSpec)

/-- ITS FALSE NEIGHBOUR: 'it returns false'. Refute it at one input. -/
def calendarInverseWrong : ChangeSpec := { name := "calendarInverse", fn := fun _ => fun
  | [d] => { results := [.lit (.bool false)], args := [d] }
  | _ => none }
def CalendarInverseWrongFalsely : Prop := calendarInverseRow.holds Tryd.pinned (OpenSpec.ofChange calendarInverseWrong)

/-- 'trclaw7.CalendarStart': WHATEVER THE INPUT: true; the input reads as it did. -/
def calendarStartSpec : ChangeSpec := { name := "calendarStart", fn := fun _ => fun
  | [d1, d2] => { results := [.lit (.bool true)], args := [d1, d2] }
  | _ => none }
def calendarStartRow : OpenClaim := { program := "ytlkbdnjpcagopaadoor", sum := "50482692c58d930f1562a832bbf5d5e59edc45e4bda0cf267aed5b4f3d239408", func := "transclude/trclaw7.CalendarStart", spec := "calendarStart", inPlace := ["internal/abi.NoEscape"], unfollowed := true, recurses := true, named := ["transclude/calendar.monthDays", "transclude/calendar.monthNames", "transclude/calendar.dayNames", "internal/strconv.uint64pow10", "math/bits.deBruijn32tab", "math/bits.deBruijn64tab"], apart := false, laid := [("math/bits.deBruijn32tab", laid_math_bits_deBruijn32tab), ("math/bits.deBruijn64tab", laid_math_bits_deBruijn64tab), ("internal/strconv.uint64pow10", laid_internal_strconv_uint64pow10), ("transclude/calendar.monthDays", laid_transclude_calendar_monthDays), ("transclude/calendar.monthNames", laid_transclude_calendar_monthNames), ("transclude/calendar.dayNames", laid_transclude_calendar_dayNames)] }
def CalendarStartSaid : Prop := calendarStartRow.holds Tryd.pinned (OpenSpec.ofChange calendarStartSpec)

/-- ITS FALSE NEIGHBOUR: 'it returns false'. Refute it at one input. -/
def calendarStartWrong : ChangeSpec := { name := "calendarStart", fn := fun _ => fun
  | [d1, d2] => { results := [.lit (.bool false)], args := [d1, d2] }
  | _ => none }
def CalendarStartWrongFalsely : Prop := calendarStartRow.holds Tryd.pinned (OpenSpec.ofChange calendarStartWrong)

/-- 'trclaw7.CalendarNests': WHATEVER THE INPUT: true; the input reads as it did. -/
def calendarNestsSpec : ChangeSpec := { name := "calendarNests", fn := fun _ => fun
  | [d1, d2] => { results := [.lit (.bool true)], args := [d1, d2] }
  | _ => none }
def calendarNestsRow : OpenClaim := { program := "ytlkbdnjpcagopaadoor", sum := "50482692c58d930f1562a832bbf5d5e59edc45e4bda0cf267aed5b4f3d239408", func := "transclude/trclaw7.CalendarNests", spec := "calendarNests", inPlace := ["internal/abi.NoEscape"], unfollowed := true, recurses := true, named := ["transclude/calendar.monthDays", "transclude/calendar.monthNames", "transclude/calendar.dayNames", "internal/strconv.uint64pow10", "math/bits.deBruijn32tab", "math/bits.deBruijn64tab"], apart := false, laid := [("math/bits.deBruijn32tab", laid_math_bits_deBruijn32tab), ("math/bits.deBruijn64tab", laid_math_bits_deBruijn64tab), ("internal/strconv.uint64pow10", laid_internal_strconv_uint64pow10), ("transclude/calendar.monthDays", laid_transclude_calendar_monthDays), ("transclude/calendar.monthNames", laid_transclude_calendar_monthNames), ("transclude/calendar.dayNames", laid_transclude_calendar_dayNames)] }
def CalendarNestsSaid : Prop := calendarNestsRow.holds Tryd.pinned (OpenSpec.ofChange calendarNestsSpec)

/-- ITS FALSE NEIGHBOUR: 'it returns false'. Refute it at one input. -/
def calendarNestsWrong : ChangeSpec := { name := "calendarNests", fn := fun _ => fun
  | [d1, d2] => { results := [.lit (.bool false)], args := [d1, d2] }
  | _ => none }
def CalendarNestsWrongFalsely : Prop := calendarNestsRow.holds Tryd.pinned (OpenSpec.ofChange calendarNestsWrong)

/-- 'trclaw7.CalendarAdd': WHATEVER THE INPUT: true; the input reads as it did. -/
def calendarAddSpec : ChangeSpec := { name := "calendarAdd", fn := fun _ => fun
  | [d1, d2, d3] => { results := [.lit (.bool true)], args := [d1, d2, d3] }
  | _ => none }
def calendarAddRow : OpenClaim := { program := "ytlkbdnjpcagopaadoor", sum := "50482692c58d930f1562a832bbf5d5e59edc45e4bda0cf267aed5b4f3d239408", func := "transclude/trclaw7.CalendarAdd", spec := "calendarAdd", inPlace := ["internal/abi.NoEscape"], unfollowed := true, recurses := true, named := ["transclude/calendar.monthDays", "transclude/calendar.monthNames", "transclude/calendar.dayNames", "internal/strconv.uint64pow10", "math/bits.deBruijn32tab", "math/bits.deBruijn64tab"], apart := false, laid := [("math/bits.deBruijn32tab", laid_math_bits_deBruijn32tab), ("math/bits.deBruijn64tab", laid_math_bits_deBruijn64tab), ("internal/strconv.uint64pow10", laid_internal_strconv_uint64pow10), ("transclude/calendar.monthDays", laid_transclude_calendar_monthDays), ("transclude/calendar.monthNames", laid_transclude_calendar_monthNames), ("transclude/calendar.dayNames", laid_transclude_calendar_dayNames)] }
def CalendarAddSaid : Prop := calendarAddRow.holds Tryd.pinned (OpenSpec.ofChange calendarAddSpec)

/-- ITS FALSE NEIGHBOUR: 'it returns false'. Refute it at one input. -/
def calendarAddWrong : ChangeSpec := { name := "calendarAdd", fn := fun _ => fun
  | [d1, d2, d3] => { results := [.lit (.bool false)], args := [d1, d2, d3] }
  | _ => none }
def CalendarAddWrongFalsely : Prop := calendarAddRow.holds Tryd.pinned (OpenSpec.ofChange calendarAddWrong)

/-- 'trclaw7.CalendarMonths': WHATEVER THE INPUT: true; the input reads as it did. -/
def calendarMonthsSpec : ChangeSpec := { name := "calendarMonths", fn := fun _ => fun
  | [d1, d2] => { results := [.lit (.bool true)], args := [d1, d2] }
  | _ => none }
def calendarMonthsRow : OpenClaim := { program := "ytlkbdnjpcagopaadoor", sum := "50482692c58d930f1562a832bbf5d5e59edc45e4bda0cf267aed5b4f3d239408", func := "transclude/trclaw7.CalendarMonths", spec := "calendarMonths", inPlace := ["internal/abi.NoEscape"], unfollowed := true, recurses := true, named := ["transclude/calendar.monthDays", "transclude/calendar.monthNames", "transclude/calendar.dayNames", "internal/strconv.uint64pow10", "math/bits.deBruijn32tab", "math/bits.deBruijn64tab"], apart := false, laid := [("math/bits.deBruijn32tab", laid_math_bits_deBruijn32tab), ("math/bits.deBruijn64tab", laid_math_bits_deBruijn64tab), ("internal/strconv.uint64pow10", laid_internal_strconv_uint64pow10), ("transclude/calendar.monthDays", laid_transclude_calendar_monthDays), ("transclude/calendar.monthNames", laid_transclude_calendar_monthNames), ("transclude/calendar.dayNames", laid_transclude_calendar_dayNames)] }
def CalendarMonthsSaid : Prop := calendarMonthsRow.holds Tryd.pinned (OpenSpec.ofChange calendarMonthsSpec)

/-- ITS FALSE NEIGHBOUR: 'it returns false'. Refute it at one input. -/
def calendarMonthsWrong : ChangeSpec := { name := "calendarMonths", fn := fun _ => fun
  | [d1, d2] => { results := [.lit (.bool false)], args := [d1, d2] }
  | _ => none }
def CalendarMonthsWrongFalsely : Prop := calendarMonthsRow.holds Tryd.pinned (OpenSpec.ofChange calendarMonthsWrong)

/-- 'trclaw7.CalendarParse': WHATEVER THE INPUT: true; the input reads as it did. -/
def calendarParseSpec : ChangeSpec := { name := "calendarParse", fn := fun _ => fun
  | [d] => { results := [.lit (.bool true)], args := [d] }
  | _ => none }
def calendarParseRow : OpenClaim := { program := "ytlkbdnjpcagopaadoor", sum := "50482692c58d930f1562a832bbf5d5e59edc45e4bda0cf267aed5b4f3d239408", func := "transclude/trclaw7.CalendarParse", spec := "calendarParse", inPlace := ["internal/abi.NoEscape"], unfollowed := true, recurses := true, named := ["transclude/calendar.monthDays", "transclude/calendar.monthNames", "transclude/calendar.dayNames", "internal/strconv.uint64pow10", "math/bits.deBruijn32tab", "math/bits.deBruijn64tab"], apart := false, laid := [("math/bits.deBruijn32tab", laid_math_bits_deBruijn32tab), ("math/bits.deBruijn64tab", laid_math_bits_deBruijn64tab), ("internal/strconv.uint64pow10", laid_internal_strconv_uint64pow10), ("transclude/calendar.monthDays", laid_transclude_calendar_monthDays), ("transclude/calendar.monthNames", laid_transclude_calendar_monthNames), ("transclude/calendar.dayNames", laid_transclude_calendar_dayNames)] }
def CalendarParseSaid : Prop := calendarParseRow.holds Tryd.pinned (OpenSpec.ofChange calendarParseSpec)

/-- ITS FALSE NEIGHBOUR: 'it returns false'. Refute it at one input. -/
def calendarParseWrong : ChangeSpec := { name := "calendarParse", fn := fun _ => fun
  | [d] => { results := [.lit (.bool false)], args := [d] }
  | _ => none }
def CalendarParseWrongFalsely : Prop := calendarParseRow.holds Tryd.pinned (OpenSpec.ofChange calendarParseWrong)

/-- 'trclaw7.CalendarFormat': WHATEVER THE INPUT: true; the input reads as it did. -/
def calendarFormatSpec : ChangeSpec := { name := "calendarFormat", fn := fun _ => fun
  | [d1, d2] => { results := [.lit (.bool true)], args := [d1, d2] }
  | _ => none }
def calendarFormatRow : OpenClaim := { program := "ytlkbdnjpcagopaadoor", sum := "50482692c58d930f1562a832bbf5d5e59edc45e4bda0cf267aed5b4f3d239408", func := "transclude/trclaw7.CalendarFormat", spec := "calendarFormat", inPlace := ["internal/abi.NoEscape"], unfollowed := true, recurses := true, named := ["transclude/calendar.monthDays", "transclude/calendar.monthNames", "transclude/calendar.dayNames", "internal/strconv.uint64pow10", "math/bits.deBruijn32tab", "math/bits.deBruijn64tab"], apart := false, laid := [("math/bits.deBruijn32tab", laid_math_bits_deBruijn32tab), ("math/bits.deBruijn64tab", laid_math_bits_deBruijn64tab), ("internal/strconv.uint64pow10", laid_internal_strconv_uint64pow10), ("transclude/calendar.monthDays", laid_transclude_calendar_monthDays), ("transclude/calendar.monthNames", laid_transclude_calendar_monthNames), ("transclude/calendar.dayNames", laid_transclude_calendar_dayNames)] }
def CalendarFormatSaid : Prop := calendarFormatRow.holds Tryd.pinned (OpenSpec.ofChange calendarFormatSpec)

/-- ITS FALSE NEIGHBOUR: 'it returns false'. Refute it at one input. -/
def calendarFormatWrong : ChangeSpec := { name := "calendarFormat", fn := fun _ => fun
  | [d1, d2] => { results := [.lit (.bool false)], args := [d1, d2] }
  | _ => none }
def CalendarFormatWrongFalsely : Prop := calendarFormatRow.holds Tryd.pinned (OpenSpec.ofChange calendarFormatWrong)

/-- 'trclaw7.CalendarUnit': WHATEVER THE INPUT: true; the input reads as it did. -/
def calendarUnitSpec : ChangeSpec := { name := "calendarUnit", fn := fun _ => fun
  | [d1, d2] => { results := [.lit (.bool true)], args := [d1, d2] }
  | _ => none }
def calendarUnitRow : OpenClaim := { program := "ytlkbdnjpcagopaadoor", sum := "50482692c58d930f1562a832bbf5d5e59edc45e4bda0cf267aed5b4f3d239408", func := "transclude/trclaw7.CalendarUnit", spec := "calendarUnit", inPlace := ["internal/abi.NoEscape"], unfollowed := true, recurses := true, named := ["transclude/calendar.monthDays", "transclude/calendar.monthNames", "transclude/calendar.dayNames", "internal/strconv.uint64pow10", "math/bits.deBruijn32tab", "math/bits.deBruijn64tab"], apart := false, laid := [("math/bits.deBruijn32tab", laid_math_bits_deBruijn32tab), ("math/bits.deBruijn64tab", laid_math_bits_deBruijn64tab), ("internal/strconv.uint64pow10", laid_internal_strconv_uint64pow10), ("transclude/calendar.monthDays", laid_transclude_calendar_monthDays), ("transclude/calendar.monthNames", laid_transclude_calendar_monthNames), ("transclude/calendar.dayNames", laid_transclude_calendar_dayNames)] }
def CalendarUnitSaid : Prop := calendarUnitRow.holds Tryd.pinned (OpenSpec.ofChange calendarUnitSpec)

/-- ITS FALSE NEIGHBOUR: 'it returns false'. Refute it at one input. -/
def calendarUnitWrong : ChangeSpec := { name := "calendarUnit", fn := fun _ => fun
  | [d1, d2] => { results := [.lit (.bool false)], args := [d1, d2] }
  | _ => none }
def CalendarUnitWrongFalsely : Prop := calendarUnitRow.holds Tryd.pinned (OpenSpec.ofChange calendarUnitWrong)

/-- 'trclaw7.CalendarReads': WHATEVER THE INPUT: true; the input reads as it did. -/
def calendarReadsSpec : ChangeSpec := { name := "calendarReads", fn := fun _ => fun
  | [d] => { results := [.lit (.bool true)], args := [d] }
  | _ => none }
def calendarReadsRow : OpenClaim := { program := "ytlkbdnjpcagopaadoor", sum := "50482692c58d930f1562a832bbf5d5e59edc45e4bda0cf267aed5b4f3d239408", func := "transclude/trclaw7.CalendarReads", spec := "calendarReads", inPlace := ["internal/abi.NoEscape"], unfollowed := true, recurses := true, named := ["transclude/calendar.monthDays", "transclude/calendar.monthNames", "transclude/calendar.dayNames", "internal/strconv.uint64pow10", "math/bits.deBruijn32tab", "math/bits.deBruijn64tab"], apart := false, laid := [("math/bits.deBruijn32tab", laid_math_bits_deBruijn32tab), ("math/bits.deBruijn64tab", laid_math_bits_deBruijn64tab), ("internal/strconv.uint64pow10", laid_internal_strconv_uint64pow10), ("transclude/calendar.monthDays", laid_transclude_calendar_monthDays), ("transclude/calendar.monthNames", laid_transclude_calendar_monthNames), ("transclude/calendar.dayNames", laid_transclude_calendar_dayNames)] }
def CalendarReadsSaid : Prop := calendarReadsRow.holds Tryd.pinned (OpenSpec.ofChange calendarReadsSpec)

/-- ITS FALSE NEIGHBOUR: 'it returns false'. Refute it at one input. -/
def calendarReadsWrong : ChangeSpec := { name := "calendarReads", fn := fun _ => fun
  | [d] => { results := [.lit (.bool false)], args := [d] }
  | _ => none }
def CalendarReadsWrongFalsely : Prop := calendarReadsRow.holds Tryd.pinned (OpenSpec.ofChange calendarReadsWrong)

/- THE SECOND FORM. 'bulk': how many values and letters a reading holds, each counted each time it is reached (what is shared counts as often as it is met; a slice's spare places count too). A statement '..UptoSaid' is the law's where the arguments, and the package variables that the reading takes, are together of bulk at most 1048576: NARROWER than '..Said'. Prove '..Said' where nothing that the law and all that it calls make is longer than what came in: it says more and counts as full. Else prove '..UptoSaid'. A law counts once. -/
mutual
def uptoBulk {H : Type} : DataW H → Nat
  | .lit (.string bytes) => bytes.length + 1
  | .lit _ => 1
  | .nil => 1
  | .ptr d => uptoBulk d + 1
  | .slice elems spare => uptoBulkAll elems + uptoBulkAll spare + 1
  | .agg parts => uptoBulkAll parts + 1
  | .iface _ d => uptoBulk d + 1
  | .map entries => uptoBulkEntries entries + 1
  | .held _ => 1
def uptoBulkAll {H : Type} : List (DataW H) → Nat
  | [] => 0
  | d :: r => uptoBulk d + uptoBulkAll r
def uptoBulkEntries {H : Type} : List (Lit × DataW H) → Nat
  | [] => 0
  | x :: r => uptoBulkEntry x + uptoBulkEntries r
def uptoBulkEntry {H : Type} : Lit × DataW H → Nat
  | (.string bytes, d) => bytes.length + uptoBulk d + 1
  | (_, d) => uptoBulk d + 1
 end
def uptoSmall : (H : Type) → List (DataW H) → Bool := fun _ ds => decide (uptoBulkAll ds ≤ 1048576)
def OpenSpec.upto (s : _root_.Go.ChangeSpec) : _root_.Go.OpenSpec := { _root_.Go.OpenSpec.ofChange s with cond := some uptoSmall }

/-- 'trclaw7.CalendarDates', WHERE WHAT IT READS IS OF BULK AT MOST 1048576: true; the input reads as it did. -/
def calendarDatesUptoRow : OpenClaim := { program := "ytlkbdnjpcagopaadoor", sum := "50482692c58d930f1562a832bbf5d5e59edc45e4bda0cf267aed5b4f3d239408", func := "transclude/trclaw7.CalendarDates", spec := "calendarDates", inPlace := ["internal/abi.NoEscape"], unfollowed := true, recurses := true, named := ["transclude/calendar.monthDays", "transclude/calendar.monthNames", "transclude/calendar.dayNames", "internal/strconv.uint64pow10", "math/bits.deBruijn32tab", "math/bits.deBruijn64tab"], apart := false, laid := [("math/bits.deBruijn32tab", laid_math_bits_deBruijn32tab), ("math/bits.deBruijn64tab", laid_math_bits_deBruijn64tab), ("internal/strconv.uint64pow10", laid_internal_strconv_uint64pow10), ("transclude/calendar.monthDays", laid_transclude_calendar_monthDays), ("transclude/calendar.monthNames", laid_transclude_calendar_monthNames), ("transclude/calendar.dayNames", laid_transclude_calendar_dayNames)], narrowed := true }
def CalendarDatesUptoSaid : Prop := calendarDatesUptoRow.holds Tryd.pinned (OpenSpec.upto calendarDatesSpec)

/-- 'trclaw7.CalendarInverse', WHERE WHAT IT READS IS OF BULK AT MOST 1048576: true; the input reads as it did. -/
def calendarInverseUptoRow : OpenClaim := { program := "ytlkbdnjpcagopaadoor", sum := "50482692c58d930f1562a832bbf5d5e59edc45e4bda0cf267aed5b4f3d239408", func := "transclude/trclaw7.CalendarInverse", spec := "calendarInverse", inPlace := ["internal/abi.NoEscape"], unfollowed := true, recurses := true, named := ["transclude/calendar.monthDays", "transclude/calendar.monthNames", "transclude/calendar.dayNames", "internal/strconv.uint64pow10", "math/bits.deBruijn32tab", "math/bits.deBruijn64tab"], apart := false, laid := [("math/bits.deBruijn32tab", laid_math_bits_deBruijn32tab), ("math/bits.deBruijn64tab", laid_math_bits_deBruijn64tab), ("internal/strconv.uint64pow10", laid_internal_strconv_uint64pow10), ("transclude/calendar.monthDays", laid_transclude_calendar_monthDays), ("transclude/calendar.monthNames", laid_transclude_calendar_monthNames), ("transclude/calendar.dayNames", laid_transclude_calendar_dayNames)], narrowed := true }
def CalendarInverseUptoSaid : Prop := calendarInverseUptoRow.holds Tryd.pinned (OpenSpec.upto calendarInverseSpec)

/-- 'trclaw7.CalendarStart', WHERE WHAT IT READS IS OF BULK AT MOST 1048576: true; the input reads as it did. -/
def calendarStartUptoRow : OpenClaim := { program := "ytlkbdnjpcagopaadoor", sum := "50482692c58d930f1562a832bbf5d5e59edc45e4bda0cf267aed5b4f3d239408", func := "transclude/trclaw7.CalendarStart", spec := "calendarStart", inPlace := ["internal/abi.NoEscape"], unfollowed := true, recurses := true, named := ["transclude/calendar.monthDays", "transclude/calendar.monthNames", "transclude/calendar.dayNames", "internal/strconv.uint64pow10", "math/bits.deBruijn32tab", "math/bits.deBruijn64tab"], apart := false, laid := [("math/bits.deBruijn32tab", laid_math_bits_deBruijn32tab), ("math/bits.deBruijn64tab", laid_math_bits_deBruijn64tab), ("internal/strconv.uint64pow10", laid_internal_strconv_uint64pow10), ("transclude/calendar.monthDays", laid_transclude_calendar_monthDays), ("transclude/calendar.monthNames", laid_transclude_calendar_monthNames), ("transclude/calendar.dayNames", laid_transclude_calendar_dayNames)], narrowed := true }
def CalendarStartUptoSaid : Prop := calendarStartUptoRow.holds Tryd.pinned (OpenSpec.upto calendarStartSpec)

/-- 'trclaw7.CalendarNests', WHERE WHAT IT READS IS OF BULK AT MOST 1048576: true; the input reads as it did. -/
def calendarNestsUptoRow : OpenClaim := { program := "ytlkbdnjpcagopaadoor", sum := "50482692c58d930f1562a832bbf5d5e59edc45e4bda0cf267aed5b4f3d239408", func := "transclude/trclaw7.CalendarNests", spec := "calendarNests", inPlace := ["internal/abi.NoEscape"], unfollowed := true, recurses := true, named := ["transclude/calendar.monthDays", "transclude/calendar.monthNames", "transclude/calendar.dayNames", "internal/strconv.uint64pow10", "math/bits.deBruijn32tab", "math/bits.deBruijn64tab"], apart := false, laid := [("math/bits.deBruijn32tab", laid_math_bits_deBruijn32tab), ("math/bits.deBruijn64tab", laid_math_bits_deBruijn64tab), ("internal/strconv.uint64pow10", laid_internal_strconv_uint64pow10), ("transclude/calendar.monthDays", laid_transclude_calendar_monthDays), ("transclude/calendar.monthNames", laid_transclude_calendar_monthNames), ("transclude/calendar.dayNames", laid_transclude_calendar_dayNames)], narrowed := true }
def CalendarNestsUptoSaid : Prop := calendarNestsUptoRow.holds Tryd.pinned (OpenSpec.upto calendarNestsSpec)

/-- 'trclaw7.CalendarAdd', WHERE WHAT IT READS IS OF BULK AT MOST 1048576: true; the input reads as it did. -/
def calendarAddUptoRow : OpenClaim := { program := "ytlkbdnjpcagopaadoor", sum := "50482692c58d930f1562a832bbf5d5e59edc45e4bda0cf267aed5b4f3d239408", func := "transclude/trclaw7.CalendarAdd", spec := "calendarAdd", inPlace := ["internal/abi.NoEscape"], unfollowed := true, recurses := true, named := ["transclude/calendar.monthDays", "transclude/calendar.monthNames", "transclude/calendar.dayNames", "internal/strconv.uint64pow10", "math/bits.deBruijn32tab", "math/bits.deBruijn64tab"], apart := false, laid := [("math/bits.deBruijn32tab", laid_math_bits_deBruijn32tab), ("math/bits.deBruijn64tab", laid_math_bits_deBruijn64tab), ("internal/strconv.uint64pow10", laid_internal_strconv_uint64pow10), ("transclude/calendar.monthDays", laid_transclude_calendar_monthDays), ("transclude/calendar.monthNames", laid_transclude_calendar_monthNames), ("transclude/calendar.dayNames", laid_transclude_calendar_dayNames)], narrowed := true }
def CalendarAddUptoSaid : Prop := calendarAddUptoRow.holds Tryd.pinned (OpenSpec.upto calendarAddSpec)

/-- 'trclaw7.CalendarMonths', WHERE WHAT IT READS IS OF BULK AT MOST 1048576: true; the input reads as it did. -/
def calendarMonthsUptoRow : OpenClaim := { program := "ytlkbdnjpcagopaadoor", sum := "50482692c58d930f1562a832bbf5d5e59edc45e4bda0cf267aed5b4f3d239408", func := "transclude/trclaw7.CalendarMonths", spec := "calendarMonths", inPlace := ["internal/abi.NoEscape"], unfollowed := true, recurses := true, named := ["transclude/calendar.monthDays", "transclude/calendar.monthNames", "transclude/calendar.dayNames", "internal/strconv.uint64pow10", "math/bits.deBruijn32tab", "math/bits.deBruijn64tab"], apart := false, laid := [("math/bits.deBruijn32tab", laid_math_bits_deBruijn32tab), ("math/bits.deBruijn64tab", laid_math_bits_deBruijn64tab), ("internal/strconv.uint64pow10", laid_internal_strconv_uint64pow10), ("transclude/calendar.monthDays", laid_transclude_calendar_monthDays), ("transclude/calendar.monthNames", laid_transclude_calendar_monthNames), ("transclude/calendar.dayNames", laid_transclude_calendar_dayNames)], narrowed := true }
def CalendarMonthsUptoSaid : Prop := calendarMonthsUptoRow.holds Tryd.pinned (OpenSpec.upto calendarMonthsSpec)

/-- 'trclaw7.CalendarParse', WHERE WHAT IT READS IS OF BULK AT MOST 1048576: true; the input reads as it did. -/
def calendarParseUptoRow : OpenClaim := { program := "ytlkbdnjpcagopaadoor", sum := "50482692c58d930f1562a832bbf5d5e59edc45e4bda0cf267aed5b4f3d239408", func := "transclude/trclaw7.CalendarParse", spec := "calendarParse", inPlace := ["internal/abi.NoEscape"], unfollowed := true, recurses := true, named := ["transclude/calendar.monthDays", "transclude/calendar.monthNames", "transclude/calendar.dayNames", "internal/strconv.uint64pow10", "math/bits.deBruijn32tab", "math/bits.deBruijn64tab"], apart := false, laid := [("math/bits.deBruijn32tab", laid_math_bits_deBruijn32tab), ("math/bits.deBruijn64tab", laid_math_bits_deBruijn64tab), ("internal/strconv.uint64pow10", laid_internal_strconv_uint64pow10), ("transclude/calendar.monthDays", laid_transclude_calendar_monthDays), ("transclude/calendar.monthNames", laid_transclude_calendar_monthNames), ("transclude/calendar.dayNames", laid_transclude_calendar_dayNames)], narrowed := true }
def CalendarParseUptoSaid : Prop := calendarParseUptoRow.holds Tryd.pinned (OpenSpec.upto calendarParseSpec)

/-- 'trclaw7.CalendarFormat', WHERE WHAT IT READS IS OF BULK AT MOST 1048576: true; the input reads as it did. -/
def calendarFormatUptoRow : OpenClaim := { program := "ytlkbdnjpcagopaadoor", sum := "50482692c58d930f1562a832bbf5d5e59edc45e4bda0cf267aed5b4f3d239408", func := "transclude/trclaw7.CalendarFormat", spec := "calendarFormat", inPlace := ["internal/abi.NoEscape"], unfollowed := true, recurses := true, named := ["transclude/calendar.monthDays", "transclude/calendar.monthNames", "transclude/calendar.dayNames", "internal/strconv.uint64pow10", "math/bits.deBruijn32tab", "math/bits.deBruijn64tab"], apart := false, laid := [("math/bits.deBruijn32tab", laid_math_bits_deBruijn32tab), ("math/bits.deBruijn64tab", laid_math_bits_deBruijn64tab), ("internal/strconv.uint64pow10", laid_internal_strconv_uint64pow10), ("transclude/calendar.monthDays", laid_transclude_calendar_monthDays), ("transclude/calendar.monthNames", laid_transclude_calendar_monthNames), ("transclude/calendar.dayNames", laid_transclude_calendar_dayNames)], narrowed := true }
def CalendarFormatUptoSaid : Prop := calendarFormatUptoRow.holds Tryd.pinned (OpenSpec.upto calendarFormatSpec)

/-- 'trclaw7.CalendarUnit', WHERE WHAT IT READS IS OF BULK AT MOST 1048576: true; the input reads as it did. -/
def calendarUnitUptoRow : OpenClaim := { program := "ytlkbdnjpcagopaadoor", sum := "50482692c58d930f1562a832bbf5d5e59edc45e4bda0cf267aed5b4f3d239408", func := "transclude/trclaw7.CalendarUnit", spec := "calendarUnit", inPlace := ["internal/abi.NoEscape"], unfollowed := true, recurses := true, named := ["transclude/calendar.monthDays", "transclude/calendar.monthNames", "transclude/calendar.dayNames", "internal/strconv.uint64pow10", "math/bits.deBruijn32tab", "math/bits.deBruijn64tab"], apart := false, laid := [("math/bits.deBruijn32tab", laid_math_bits_deBruijn32tab), ("math/bits.deBruijn64tab", laid_math_bits_deBruijn64tab), ("internal/strconv.uint64pow10", laid_internal_strconv_uint64pow10), ("transclude/calendar.monthDays", laid_transclude_calendar_monthDays), ("transclude/calendar.monthNames", laid_transclude_calendar_monthNames), ("transclude/calendar.dayNames", laid_transclude_calendar_dayNames)], narrowed := true }
def CalendarUnitUptoSaid : Prop := calendarUnitUptoRow.holds Tryd.pinned (OpenSpec.upto calendarUnitSpec)

/-- 'trclaw7.CalendarReads', WHERE WHAT IT READS IS OF BULK AT MOST 1048576: true; the input reads as it did. -/
def calendarReadsUptoRow : OpenClaim := { program := "ytlkbdnjpcagopaadoor", sum := "50482692c58d930f1562a832bbf5d5e59edc45e4bda0cf267aed5b4f3d239408", func := "transclude/trclaw7.CalendarReads", spec := "calendarReads", inPlace := ["internal/abi.NoEscape"], unfollowed := true, recurses := true, named := ["transclude/calendar.monthDays", "transclude/calendar.monthNames", "transclude/calendar.dayNames", "internal/strconv.uint64pow10", "math/bits.deBruijn32tab", "math/bits.deBruijn64tab"], apart := false, laid := [("math/bits.deBruijn32tab", laid_math_bits_deBruijn32tab), ("math/bits.deBruijn64tab", laid_math_bits_deBruijn64tab), ("internal/strconv.uint64pow10", laid_internal_strconv_uint64pow10), ("transclude/calendar.monthDays", laid_transclude_calendar_monthDays), ("transclude/calendar.monthNames", laid_transclude_calendar_monthNames), ("transclude/calendar.dayNames", laid_transclude_calendar_dayNames)], narrowed := true }
def CalendarReadsUptoSaid : Prop := calendarReadsUptoRow.holds Tryd.pinned (OpenSpec.upto calendarReadsSpec)

end Rows
end Go.Proofs.YtlkbdnjpcagopaaDoor
