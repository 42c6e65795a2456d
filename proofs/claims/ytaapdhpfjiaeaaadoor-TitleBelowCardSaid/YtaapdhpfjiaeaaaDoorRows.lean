/-
  NARROWER THAN 'FOR EVERY INPUT', by the rows' own cells (each row's printed sentence says how): TitleParse: laid · TitleFormat: laid · TitleRoundTrip: laid · TitleBlanks: laid · TitleSpaces: laid · TitleCompare: laid · TitleAncestors: laid · TitleResolve: laid · TitleBelow: laid.
  DERIVED. THE GIVEN ROWS OF THIS SEAT. 9 by the template 'for every input the law returns true; each argument reads behind the call as it read before'; 0 by the template 'total and deterministic' (their statements: YtaapdhpfjiaeaaaDoorTotals.lean).
  GIVEN WITH THE SEED: the statements are not yours to turn. If you find one false, say at which input.
  Laid BY PROGRAM, IN A SANDBOX (cutbox-rows.mjs): the forced cells as the released guide's own fill.sh prints them over the translation 19b1c9cd5537329b… (all of the seat's roots in one cut). By AI agents, Wed Nov 11 2026. No macro, syntax, notation, axiom, sorry.
-/
import Derived.Test.YtaapdhpfjiaeaaaDoorChecked
import GoSem.PinnedTables
import GoSem.Claim
import GoSem.ClaimJoined
import GoSem.ClaimMapViews
import Derived.JoinedTies
import Derived.KernelRfl
namespace Go.Proofs.YtaapdhpfjiaeaaaDoor
/- THE CELL 'sum', in the pinned program and in every row, IS THE sha256 OF THE DUMP (.gsa) THAT YtaapdhpfjiaeaaaDoorProg.lean LOADS. Nothing in Lean hashes anything: it is a label: what it is worth is what the hold of that sum in a sandbox is worth. -/
noncomputable def Tryd.pinned : Pinned := { name := "ytaapdhpfjiaeaaadoor", sum := "19b1c9cd5537329b7cd88ec3d8082c002fc36254c5dbe77d7233aadcef9daca0", checked := Tryd.checked }
namespace Rows
def none {H : Type} : Left H := { results := [], args := [] }

/- WHAT THE LISTED PACKAGE-LEVEL VARIABLES READ AS WHEN THE CALL BEGINS. Each datum BY PROGRAM (the guide's laid-datum.mjs) off the statement by which the dump's own 'gosem.cut.vars' lays the variable. In a bare row this is a premise. The card (YtaapdhpfjiaeaaaDoorCards.lean) ties it to the program's text. -/
def laid_unicode_utf8_acceptRanges {H : Type} : DataW H := .agg [.agg [.lit (.int .u8 128), .lit (.int .u8 191)], .agg [.lit (.int .u8 160), .lit (.int .u8 191)], .agg [.lit (.int .u8 128), .lit (.int .u8 159)], .agg [.lit (.int .u8 144), .lit (.int .u8 191)], .agg [.lit (.int .u8 128), .lit (.int .u8 143)], .agg [.lit (.int .u8 0), .lit (.int .u8 0)], .agg [.lit (.int .u8 0), .lit (.int .u8 0)], .agg [.lit (.int .u8 0), .lit (.int .u8 0)], .agg [.lit (.int .u8 0), .lit (.int .u8 0)], .agg [.lit (.int .u8 0), .lit (.int .u8 0)], .agg [.lit (.int .u8 0), .lit (.int .u8 0)], .agg [.lit (.int .u8 0), .lit (.int .u8 0)], .agg [.lit (.int .u8 0), .lit (.int .u8 0)], .agg [.lit (.int .u8 0), .lit (.int .u8 0)], .agg [.lit (.int .u8 0), .lit (.int .u8 0)], .agg [.lit (.int .u8 0), .lit (.int .u8 0)]]
def laid_transclude_title_spaceNames {H : Type} : DataW H := .agg [.lit (.string []), .lit (.string [84, 97, 108, 107]), .lit (.string [85, 115, 101, 114]), .lit (.string [84, 101, 109, 112, 108, 97, 116, 101]), .lit (.string [67, 97, 116, 101, 103, 111, 114, 121]), .lit (.string [80, 114, 111, 106, 101, 99, 116])]
/-- One of Go's own tables, pinned by name: the form's constant. -/
def laid_unicode_utf8_first : DataW Unit := Go.Pinned.utf8First

/-- 'trclaw1.TitleParse': WHATEVER THE INPUT: true; the input reads as it did. -/
def titleParseSpec : ChangeSpec := { name := "titleParse", fn := fun _ => fun
  | [d] => { results := [.lit (.bool true)], args := [d] }
  | _ => none }
def titleParseRow : OpenClaim := { program := "ytaapdhpfjiaeaaadoor", sum := "19b1c9cd5537329b7cd88ec3d8082c002fc36254c5dbe77d7233aadcef9daca0", func := "transclude/trclaw1.TitleParse", spec := "titleParse", inPlace := ["internal/abi.NoEscape", "internal/bytealg.IndexByteString", "internal/bytealg.IndexString", "internal/bytealg.CountString", "internal/bytealg.MakeNoZero"], unfollowed := true, recurses := true, named := ["transclude/title.spaceNames", "internal/bytealg.MaxLen", "unicode/utf8.first", "unicode/utf8.acceptRanges"], apart := false, laid := [("unicode/utf8.acceptRanges", laid_unicode_utf8_acceptRanges), ("transclude/title.spaceNames", laid_transclude_title_spaceNames), ("unicode/utf8.first", laid_unicode_utf8_first)] }
def TitleParseSaid : Prop := titleParseRow.holds Tryd.pinned (OpenSpec.ofChange titleParseSpec)

/-- ITS FALSE NEIGHBOUR: 'it returns false'. Refute it at one input. -/
def titleParseWrong : ChangeSpec := { name := "titleParse", fn := fun _ => fun
  | [d] => { results := [.lit (.bool false)], args := [d] }
  | _ => none }
def TitleParseWrongFalsely : Prop := titleParseRow.holds Tryd.pinned (OpenSpec.ofChange titleParseWrong)

/-- 'trclaw1.TitleFormat': WHATEVER THE INPUT: true; the input reads as it did. -/
def titleFormatSpec : ChangeSpec := { name := "titleFormat", fn := fun _ => fun
  | [d] => { results := [.lit (.bool true)], args := [d] }
  | _ => none }
def titleFormatRow : OpenClaim := { program := "ytaapdhpfjiaeaaadoor", sum := "19b1c9cd5537329b7cd88ec3d8082c002fc36254c5dbe77d7233aadcef9daca0", func := "transclude/trclaw1.TitleFormat", spec := "titleFormat", inPlace := ["internal/abi.NoEscape", "internal/bytealg.IndexByteString", "internal/bytealg.IndexString", "internal/bytealg.CountString", "internal/bytealg.MakeNoZero"], unfollowed := true, recurses := true, named := ["transclude/title.spaceNames", "internal/bytealg.MaxLen", "unicode/utf8.first", "unicode/utf8.acceptRanges"], apart := false, laid := [("unicode/utf8.acceptRanges", laid_unicode_utf8_acceptRanges), ("transclude/title.spaceNames", laid_transclude_title_spaceNames), ("unicode/utf8.first", laid_unicode_utf8_first)] }
def TitleFormatSaid : Prop := titleFormatRow.holds Tryd.pinned (OpenSpec.ofChange titleFormatSpec)

/-- ITS FALSE NEIGHBOUR: 'it returns false'. Refute it at one input. -/
def titleFormatWrong : ChangeSpec := { name := "titleFormat", fn := fun _ => fun
  | [d] => { results := [.lit (.bool false)], args := [d] }
  | _ => none }
def TitleFormatWrongFalsely : Prop := titleFormatRow.holds Tryd.pinned (OpenSpec.ofChange titleFormatWrong)

/-- 'trclaw1.TitleRoundTrip': WHATEVER THE INPUT: true; the input reads as it did. -/
def titleRoundTripSpec : ChangeSpec := { name := "titleRoundTrip", fn := fun _ => fun
  | [d] => { results := [.lit (.bool true)], args := [d] }
  | _ => none }
def titleRoundTripRow : OpenClaim := { program := "ytaapdhpfjiaeaaadoor", sum := "19b1c9cd5537329b7cd88ec3d8082c002fc36254c5dbe77d7233aadcef9daca0", func := "transclude/trclaw1.TitleRoundTrip", spec := "titleRoundTrip", inPlace := ["internal/abi.NoEscape", "internal/bytealg.IndexByteString", "internal/bytealg.IndexString", "internal/bytealg.CountString", "internal/bytealg.MakeNoZero"], unfollowed := true, recurses := true, named := ["transclude/title.spaceNames", "internal/bytealg.MaxLen", "unicode/utf8.first", "unicode/utf8.acceptRanges"], apart := false, laid := [("unicode/utf8.acceptRanges", laid_unicode_utf8_acceptRanges), ("transclude/title.spaceNames", laid_transclude_title_spaceNames), ("unicode/utf8.first", laid_unicode_utf8_first)] }
def TitleRoundTripSaid : Prop := titleRoundTripRow.holds Tryd.pinned (OpenSpec.ofChange titleRoundTripSpec)

/-- ITS FALSE NEIGHBOUR: 'it returns false'. Refute it at one input. -/
def titleRoundTripWrong : ChangeSpec := { name := "titleRoundTrip", fn := fun _ => fun
  | [d] => { results := [.lit (.bool false)], args := [d] }
  | _ => none }
def TitleRoundTripWrongFalsely : Prop := titleRoundTripRow.holds Tryd.pinned (OpenSpec.ofChange titleRoundTripWrong)

/-- 'trclaw1.TitleBlanks': WHATEVER THE INPUT: true; the input reads as it did. -/
def titleBlanksSpec : ChangeSpec := { name := "titleBlanks", fn := fun _ => fun
  | [d1, d2] => { results := [.lit (.bool true)], args := [d1, d2] }
  | _ => none }
def titleBlanksRow : OpenClaim := { program := "ytaapdhpfjiaeaaadoor", sum := "19b1c9cd5537329b7cd88ec3d8082c002fc36254c5dbe77d7233aadcef9daca0", func := "transclude/trclaw1.TitleBlanks", spec := "titleBlanks", inPlace := ["internal/abi.NoEscape", "internal/bytealg.IndexByteString", "internal/bytealg.IndexString", "internal/bytealg.CountString", "internal/bytealg.MakeNoZero"], unfollowed := true, recurses := true, named := ["transclude/title.spaceNames", "internal/bytealg.MaxLen", "unicode/utf8.first", "unicode/utf8.acceptRanges"], apart := false, laid := [("unicode/utf8.acceptRanges", laid_unicode_utf8_acceptRanges), ("transclude/title.spaceNames", laid_transclude_title_spaceNames), ("unicode/utf8.first", laid_unicode_utf8_first)] }
def TitleBlanksSaid : Prop := titleBlanksRow.holds Tryd.pinned (OpenSpec.ofChange titleBlanksSpec)

/-- ITS FALSE NEIGHBOUR: 'it returns false'. Refute it at one input. -/
def titleBlanksWrong : ChangeSpec := { name := "titleBlanks", fn := fun _ => fun
  | [d1, d2] => { results := [.lit (.bool false)], args := [d1, d2] }
  | _ => none }
def TitleBlanksWrongFalsely : Prop := titleBlanksRow.holds Tryd.pinned (OpenSpec.ofChange titleBlanksWrong)

/-- 'trclaw1.TitleSpaces': WHATEVER THE INPUT: true; the input reads as it did. -/
def titleSpacesSpec : ChangeSpec := { name := "titleSpaces", fn := fun _ => fun
  | [d1, d2] => { results := [.lit (.bool true)], args := [d1, d2] }
  | _ => none }
def titleSpacesRow : OpenClaim := { program := "ytaapdhpfjiaeaaadoor", sum := "19b1c9cd5537329b7cd88ec3d8082c002fc36254c5dbe77d7233aadcef9daca0", func := "transclude/trclaw1.TitleSpaces", spec := "titleSpaces", inPlace := ["internal/abi.NoEscape", "internal/bytealg.IndexByteString", "internal/bytealg.IndexString", "internal/bytealg.CountString", "internal/bytealg.MakeNoZero"], unfollowed := true, recurses := true, named := ["transclude/title.spaceNames", "internal/bytealg.MaxLen", "unicode/utf8.first", "unicode/utf8.acceptRanges"], apart := false, laid := [("unicode/utf8.acceptRanges", laid_unicode_utf8_acceptRanges), ("transclude/title.spaceNames", laid_transclude_title_spaceNames), ("unicode/utf8.first", laid_unicode_utf8_first)] }
def TitleSpacesSaid : Prop := titleSpacesRow.holds Tryd.pinned (OpenSpec.ofChange titleSpacesSpec)

/-- ITS FALSE NEIGHBOUR: 'it returns false'. Refute it at one input. -/
def titleSpacesWrong : ChangeSpec := { name := "titleSpaces", fn := fun _ => fun
  | [d1, d2] => { results := [.lit (.bool false)], args := [d1, d2] }
  | _ => none }
def TitleSpacesWrongFalsely : Prop := titleSpacesRow.holds Tryd.pinned (OpenSpec.ofChange titleSpacesWrong)

/-- 'trclaw1.TitleCompare': WHATEVER THE INPUT: true; the input reads as it did. -/
def titleCompareSpec : ChangeSpec := { name := "titleCompare", fn := fun _ => fun
  | [d1, d2, d3] => { results := [.lit (.bool true)], args := [d1, d2, d3] }
  | _ => none }
def titleCompareRow : OpenClaim := { program := "ytaapdhpfjiaeaaadoor", sum := "19b1c9cd5537329b7cd88ec3d8082c002fc36254c5dbe77d7233aadcef9daca0", func := "transclude/trclaw1.TitleCompare", spec := "titleCompare", inPlace := ["internal/bytealg.abigen_runtime_cmpstring", "internal/abi.NoEscape", "internal/bytealg.IndexByteString", "internal/bytealg.IndexString", "internal/bytealg.CountString", "internal/bytealg.MakeNoZero"], unfollowed := true, recurses := true, named := ["transclude/title.spaceNames", "internal/bytealg.MaxLen", "unicode/utf8.first", "unicode/utf8.acceptRanges"], apart := false, laid := [("unicode/utf8.acceptRanges", laid_unicode_utf8_acceptRanges), ("transclude/title.spaceNames", laid_transclude_title_spaceNames), ("unicode/utf8.first", laid_unicode_utf8_first)] }
def TitleCompareSaid : Prop := titleCompareRow.holds Tryd.pinned (OpenSpec.ofChange titleCompareSpec)

/-- ITS FALSE NEIGHBOUR: 'it returns false'. Refute it at one input. -/
def titleCompareWrong : ChangeSpec := { name := "titleCompare", fn := fun _ => fun
  | [d1, d2, d3] => { results := [.lit (.bool false)], args := [d1, d2, d3] }
  | _ => none }
def TitleCompareWrongFalsely : Prop := titleCompareRow.holds Tryd.pinned (OpenSpec.ofChange titleCompareWrong)

/-- 'trclaw1.TitleAncestors': WHATEVER THE INPUT: true; the input reads as it did. -/
def titleAncestorsSpec : ChangeSpec := { name := "titleAncestors", fn := fun _ => fun
  | [d] => { results := [.lit (.bool true)], args := [d] }
  | _ => none }
def titleAncestorsRow : OpenClaim := { program := "ytaapdhpfjiaeaaadoor", sum := "19b1c9cd5537329b7cd88ec3d8082c002fc36254c5dbe77d7233aadcef9daca0", func := "transclude/trclaw1.TitleAncestors", spec := "titleAncestors", inPlace := ["internal/abi.NoEscape", "internal/bytealg.IndexByteString", "internal/bytealg.IndexString", "internal/bytealg.CountString", "internal/bytealg.MakeNoZero"], unfollowed := true, recurses := true, named := ["transclude/title.spaceNames", "internal/bytealg.MaxLen", "unicode/utf8.first", "unicode/utf8.acceptRanges"], apart := false, laid := [("unicode/utf8.acceptRanges", laid_unicode_utf8_acceptRanges), ("transclude/title.spaceNames", laid_transclude_title_spaceNames), ("unicode/utf8.first", laid_unicode_utf8_first)] }
def TitleAncestorsSaid : Prop := titleAncestorsRow.holds Tryd.pinned (OpenSpec.ofChange titleAncestorsSpec)

/-- ITS FALSE NEIGHBOUR: 'it returns false'. Refute it at one input. -/
def titleAncestorsWrong : ChangeSpec := { name := "titleAncestors", fn := fun _ => fun
  | [d] => { results := [.lit (.bool false)], args := [d] }
  | _ => none }
def TitleAncestorsWrongFalsely : Prop := titleAncestorsRow.holds Tryd.pinned (OpenSpec.ofChange titleAncestorsWrong)

/-- 'trclaw1.TitleResolve': WHATEVER THE INPUT: true; the input reads as it did. -/
def titleResolveSpec : ChangeSpec := { name := "titleResolve", fn := fun _ => fun
  | [d1, d2] => { results := [.lit (.bool true)], args := [d1, d2] }
  | _ => none }
def titleResolveRow : OpenClaim := { program := "ytaapdhpfjiaeaaadoor", sum := "19b1c9cd5537329b7cd88ec3d8082c002fc36254c5dbe77d7233aadcef9daca0", func := "transclude/trclaw1.TitleResolve", spec := "titleResolve", inPlace := ["internal/abi.NoEscape", "internal/bytealg.IndexByteString", "internal/bytealg.IndexString", "internal/bytealg.CountString", "internal/bytealg.MakeNoZero"], unfollowed := true, recurses := true, named := ["transclude/title.spaceNames", "internal/bytealg.MaxLen", "unicode/utf8.first", "unicode/utf8.acceptRanges"], apart := false, laid := [("unicode/utf8.acceptRanges", laid_unicode_utf8_acceptRanges), ("transclude/title.spaceNames", laid_transclude_title_spaceNames), ("unicode/utf8.first", laid_unicode_utf8_first)] }
def TitleResolveSaid : Prop := titleResolveRow.holds Tryd.pinned (OpenSpec.ofChange titleResolveSpec)

/-- ITS FALSE NEIGHBOUR: 'it returns false'. Refute it at one input. -/
def titleResolveWrong : ChangeSpec := { name := "titleResolve", fn := fun _ => fun
  | [d1, d2] => { results := [.lit (.bool false)], args := [d1, d2] }
  | _ => none }
def TitleResolveWrongFalsely : Prop := titleResolveRow.holds Tryd.pinned (OpenSpec.ofChange titleResolveWrong)

/-- 'trclaw1.TitleBelow': WHATEVER THE INPUT: true; the input reads as it did. -/
def titleBelowSpec : ChangeSpec := { name := "titleBelow", fn := fun _ => fun
  | [d] => { results := [.lit (.bool true)], args := [d] }
  | _ => none }
def titleBelowRow : OpenClaim := { program := "ytaapdhpfjiaeaaadoor", sum := "19b1c9cd5537329b7cd88ec3d8082c002fc36254c5dbe77d7233aadcef9daca0", func := "transclude/trclaw1.TitleBelow", spec := "titleBelow", inPlace := ["internal/bytealg.IndexByteString", "internal/bytealg.IndexString", "internal/abi.NoEscape", "internal/bytealg.CountString", "internal/bytealg.MakeNoZero"], unfollowed := true, recurses := true, named := ["unicode/utf8.first", "unicode/utf8.acceptRanges", "transclude/title.spaceNames", "internal/bytealg.MaxLen"], apart := false, laid := [("unicode/utf8.acceptRanges", laid_unicode_utf8_acceptRanges), ("transclude/title.spaceNames", laid_transclude_title_spaceNames), ("unicode/utf8.first", laid_unicode_utf8_first)] }
def TitleBelowSaid : Prop := titleBelowRow.holds Tryd.pinned (OpenSpec.ofChange titleBelowSpec)

/-- ITS FALSE NEIGHBOUR: 'it returns false'. Refute it at one input. -/
def titleBelowWrong : ChangeSpec := { name := "titleBelow", fn := fun _ => fun
  | [d] => { results := [.lit (.bool false)], args := [d] }
  | _ => none }
def TitleBelowWrongFalsely : Prop := titleBelowRow.holds Tryd.pinned (OpenSpec.ofChange titleBelowWrong)

/- THE SECOND FORM. 'bulk': how many values and letters a reading holds, each counted each time it is reached (what is shared counts as often as it is met; a slice's spare places count too). A statement '..UptoSaid' is the law's where the arguments, and the package variables that the reading takes, are together of bulk at most 1048576: NARROWER than '..Said'. Prove '..Said' where nothing that the law and all that it calls make is longer than what came in: it says more and counts as full. Else prove '..UptoSaid'. A law counts once. -/
mutual
def uptoBulk {H : Type} : DataW H → Nat
  | .lit (.string bytes) => bytes.length + 1
  | .lit _ => 1
  | .nil => 1
  | .ptr d => uptoBulk d + 1
  | .slice elems spare => uptoBulkAll elems + uptoBulkAll spare + 1
  | .agg parts => uptoBulkAll parts + 1
  | .iface _ d => uptoBulk d + 1
  | .map entries => uptoBulkEntries entries + 1
  | .held _ => 1
def uptoBulkAll {H : Type} : List (DataW H) → Nat
  | [] => 0
  | d :: r => uptoBulk d + uptoBulkAll r
def uptoBulkEntries {H : Type} : List (Lit × DataW H) → Nat
  | [] => 0
  | x :: r => uptoBulkEntry x + uptoBulkEntries r
def uptoBulkEntry {H : Type} : Lit × DataW H → Nat
  | (.string bytes, d) => bytes.length + uptoBulk d + 1
  | (_, d) => uptoBulk d + 1
 end
def uptoSmall : (H : Type) → List (DataW H) → Bool := fun _ ds => decide (uptoBulkAll ds ≤ 1048576)
def OpenSpec.upto (s : _root_.Go.ChangeSpec) : _root_.Go.OpenSpec := { _root_.Go.OpenSpec.ofChange s with cond := some uptoSmall }

/-- 'trclaw1.TitleParse', WHERE WHAT IT READS IS OF BULK AT MOST 1048576: true; the input reads as it did. -/
def titleParseUptoRow : OpenClaim := { program := "ytaapdhpfjiaeaaadoor", sum := "19b1c9cd5537329b7cd88ec3d8082c002fc36254c5dbe77d7233aadcef9daca0", func := "transclude/trclaw1.TitleParse", spec := "titleParse", inPlace := ["internal/abi.NoEscape", "internal/bytealg.IndexByteString", "internal/bytealg.IndexString", "internal/bytealg.CountString", "internal/bytealg.MakeNoZero"], unfollowed := true, recurses := true, named := ["transclude/title.spaceNames", "internal/bytealg.MaxLen", "unicode/utf8.first", "unicode/utf8.acceptRanges"], apart := false, laid := [("unicode/utf8.acceptRanges", laid_unicode_utf8_acceptRanges), ("transclude/title.spaceNames", laid_transclude_title_spaceNames), ("unicode/utf8.first", laid_unicode_utf8_first)], narrowed := true }
def TitleParseUptoSaid : Prop := titleParseUptoRow.holds Tryd.pinned (OpenSpec.upto titleParseSpec)

/-- 'trclaw1.TitleFormat', WHERE WHAT IT READS IS OF BULK AT MOST 1048576: true; the input reads as it did. -/
def titleFormatUptoRow : OpenClaim := { program := "ytaapdhpfjiaeaaadoor", sum := "19b1c9cd5537329b7cd88ec3d8082c002fc36254c5dbe77d7233aadcef9daca0", func := "transclude/trclaw1.TitleFormat", spec := "titleFormat", inPlace := ["internal/abi.NoEscape", "internal/bytealg.IndexByteString", "internal/bytealg.IndexString", "internal/bytealg.CountString", "internal/bytealg.MakeNoZero"], unfollowed := true, recurses := true, named := ["transclude/title.spaceNames", "internal/bytealg.MaxLen", "unicode/utf8.first", "unicode/utf8.acceptRanges"], apart := false, laid := [("unicode/utf8.acceptRanges", laid_unicode_utf8_acceptRanges), ("transclude/title.spaceNames", laid_transclude_title_spaceNames), ("unicode/utf8.first", laid_unicode_utf8_first)], narrowed := true }
def TitleFormatUptoSaid : Prop := titleFormatUptoRow.holds Tryd.pinned (OpenSpec.upto titleFormatSpec)

/-- 'trclaw1.TitleRoundTrip', WHERE WHAT IT READS IS OF BULK AT MOST 1048576: true; the input reads as it did. -/
def titleRoundTripUptoRow : OpenClaim := { program := "ytaapdhpfjiaeaaadoor", sum := "19b1c9cd5537329b7cd88ec3d8082c002fc36254c5dbe77d7233aadcef9daca0", func := "transclude/trclaw1.TitleRoundTrip", spec := "titleRoundTrip", inPlace := ["internal/abi.NoEscape", "internal/bytealg.IndexByteString", "internal/bytealg.IndexString", "internal/bytealg.CountString", "internal/bytealg.MakeNoZero"], unfollowed := true, recurses := true, named := ["transclude/title.spaceNames", "internal/bytealg.MaxLen", "unicode/utf8.first", "unicode/utf8.acceptRanges"], apart := false, laid := [("unicode/utf8.acceptRanges", laid_unicode_utf8_acceptRanges), ("transclude/title.spaceNames", laid_transclude_title_spaceNames), ("unicode/utf8.first", laid_unicode_utf8_first)], narrowed := true }
def TitleRoundTripUptoSaid : Prop := titleRoundTripUptoRow.holds Tryd.pinned (OpenSpec.upto titleRoundTripSpec)

/-- 'trclaw1.TitleBlanks', WHERE WHAT IT READS IS OF BULK AT MOST 1048576: true; the input reads as it did. -/
def titleBlanksUptoRow : OpenClaim := { program := "ytaapdhpfjiaeaaadoor", sum := "19b1c9cd5537329b7cd88ec3d8082c002fc36254c5dbe77d7233aadcef9daca0", func := "transclude/trclaw1.TitleBlanks", spec := "titleBlanks", inPlace := ["internal/abi.NoEscape", "internal/bytealg.IndexByteString", "internal/bytealg.IndexString", "internal/bytealg.CountString", "internal/bytealg.MakeNoZero"], unfollowed := true, recurses := true, named := ["transclude/title.spaceNames", "internal/bytealg.MaxLen", "unicode/utf8.first", "unicode/utf8.acceptRanges"], apart := false, laid := [("unicode/utf8.acceptRanges", laid_unicode_utf8_acceptRanges), ("transclude/title.spaceNames", laid_transclude_title_spaceNames), ("unicode/utf8.first", laid_unicode_utf8_first)], narrowed := true }
def TitleBlanksUptoSaid : Prop := titleBlanksUptoRow.holds Tryd.pinned (OpenSpec.upto titleBlanksSpec)

/-- 'trclaw1.TitleSpaces', WHERE WHAT IT READS IS OF BULK AT MOST 1048576: true; the input reads as it did. -/
def titleSpacesUptoRow : OpenClaim := { program := "ytaapdhpfjiaeaaadoor", sum := "19b1c9cd5537329b7cd88ec3d8082c002fc36254c5dbe77d7233aadcef9daca0", func := "transclude/trclaw1.TitleSpaces", spec := "titleSpaces", inPlace := ["internal/abi.NoEscape", "internal/bytealg.IndexByteString", "internal/bytealg.IndexString", "internal/bytealg.CountString", "internal/bytealg.MakeNoZero"], unfollowed := true, recurses := true, named := ["transclude/title.spaceNames", "internal/bytealg.MaxLen", "unicode/utf8.first", "unicode/utf8.acceptRanges"], apart := false, laid := [("unicode/utf8.acceptRanges", laid_unicode_utf8_acceptRanges), ("transclude/title.spaceNames", laid_transclude_title_spaceNames), ("unicode/utf8.first", laid_unicode_utf8_first)], narrowed := true }
def TitleSpacesUptoSaid : Prop := titleSpacesUptoRow.holds Tryd.pinned (OpenSpec.upto titleSpacesSpec)

/-- 'trclaw1.TitleCompare', WHERE WHAT IT READS IS OF BULK AT MOST 1048576: true; the input reads as it did. -/
def titleCompareUptoRow : OpenClaim := { program := "ytaapdhpfjiaeaaadoor", sum := "19b1c9cd5537329b7cd88ec3d8082c002fc36254c5dbe77d7233aadcef9daca0", func := "transclude/trclaw1.TitleCompare", spec := "titleCompare", inPlace := ["internal/bytealg.abigen_runtime_cmpstring", "internal/abi.NoEscape", "internal/bytealg.IndexByteString", "internal/bytealg.IndexString", "internal/bytealg.CountString", "internal/bytealg.MakeNoZero"], unfollowed := true, recurses := true, named := ["transclude/title.spaceNames", "internal/bytealg.MaxLen", "unicode/utf8.first", "unicode/utf8.acceptRanges"], apart := false, laid := [("unicode/utf8.acceptRanges", laid_unicode_utf8_acceptRanges), ("transclude/title.spaceNames", laid_transclude_title_spaceNames), ("unicode/utf8.first", laid_unicode_utf8_first)], narrowed := true }
def TitleCompareUptoSaid : Prop := titleCompareUptoRow.holds Tryd.pinned (OpenSpec.upto titleCompareSpec)

/-- 'trclaw1.TitleAncestors', WHERE WHAT IT READS IS OF BULK AT MOST 1048576: true; the input reads as it did. -/
def titleAncestorsUptoRow : OpenClaim := { program := "ytaapdhpfjiaeaaadoor", sum := "19b1c9cd5537329b7cd88ec3d8082c002fc36254c5dbe77d7233aadcef9daca0", func := "transclude/trclaw1.TitleAncestors", spec := "titleAncestors", inPlace := ["internal/abi.NoEscape", "internal/bytealg.IndexByteString", "internal/bytealg.IndexString", "internal/bytealg.CountString", "internal/bytealg.MakeNoZero"], unfollowed := true, recurses := true, named := ["transclude/title.spaceNames", "internal/bytealg.MaxLen", "unicode/utf8.first", "unicode/utf8.acceptRanges"], apart := false, laid := [("unicode/utf8.acceptRanges", laid_unicode_utf8_acceptRanges), ("transclude/title.spaceNames", laid_transclude_title_spaceNames), ("unicode/utf8.first", laid_unicode_utf8_first)], narrowed := true }
def TitleAncestorsUptoSaid : Prop := titleAncestorsUptoRow.holds Tryd.pinned (OpenSpec.upto titleAncestorsSpec)

/-- 'trclaw1.TitleResolve', WHERE WHAT IT READS IS OF BULK AT MOST 1048576: true; the input reads as it did. -/
def titleResolveUptoRow : OpenClaim := { program := "ytaapdhpfjiaeaaadoor", sum := "19b1c9cd5537329b7cd88ec3d8082c002fc36254c5dbe77d7233aadcef9daca0", func := "transclude/trclaw1.TitleResolve", spec := "titleResolve", inPlace := ["internal/abi.NoEscape", "internal/bytealg.IndexByteString", "internal/bytealg.IndexString", "internal/bytealg.CountString", "internal/bytealg.MakeNoZero"], unfollowed := true, recurses := true, named := ["transclude/title.spaceNames", "internal/bytealg.MaxLen", "unicode/utf8.first", "unicode/utf8.acceptRanges"], apart := false, laid := [("unicode/utf8.acceptRanges", laid_unicode_utf8_acceptRanges), ("transclude/title.spaceNames", laid_transclude_title_spaceNames), ("unicode/utf8.first", laid_unicode_utf8_first)], narrowed := true }
def TitleResolveUptoSaid : Prop := titleResolveUptoRow.holds Tryd.pinned (OpenSpec.upto titleResolveSpec)

/-- 'trclaw1.TitleBelow', WHERE WHAT IT READS IS OF BULK AT MOST 1048576: true; the input reads as it did. -/
def titleBelowUptoRow : OpenClaim := { program := "ytaapdhpfjiaeaaadoor", sum := "19b1c9cd5537329b7cd88ec3d8082c002fc36254c5dbe77d7233aadcef9daca0", func := "transclude/trclaw1.TitleBelow", spec := "titleBelow", inPlace := ["internal/bytealg.IndexByteString", "internal/bytealg.IndexString", "internal/abi.NoEscape", "internal/bytealg.CountString", "internal/bytealg.MakeNoZero"], unfollowed := true, recurses := true, named := ["unicode/utf8.first", "unicode/utf8.acceptRanges", "transclude/title.spaceNames", "internal/bytealg.MaxLen"], apart := false, laid := [("unicode/utf8.acceptRanges", laid_unicode_utf8_acceptRanges), ("transclude/title.spaceNames", laid_transclude_title_spaceNames), ("unicode/utf8.first", laid_unicode_utf8_first)], narrowed := true }
def TitleBelowUptoSaid : Prop := titleBelowUptoRow.holds Tryd.pinned (OpenSpec.upto titleBelowSpec)

end Rows
end Go.Proofs.YtaapdhpfjiaeaaaDoor
