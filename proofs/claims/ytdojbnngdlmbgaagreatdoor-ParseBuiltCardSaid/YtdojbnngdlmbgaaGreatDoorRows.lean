/-
  NARROWER THAN 'FOR EVERY INPUT', by the rows' own cells (each row's printed sentence says how): ParseBuilt: laid · SectionNests: laid · SectionFind: laid · SectionSame: laid · SectionHidden: laid · SectionHeadings: laid.
  DERIVED. THE GIVEN ROWS OF THIS SEAT. 6 by the template 'for every input the law returns true; each argument reads behind the call as it read before'; 0 by the template 'total and deterministic' (their statements: YtdojbnngdlmbgaaGreatDoorTotals.lean).
  GIVEN WITH THE SEED: the statements are not yours to turn. If you find one false, say at which input.
  Laid BY PROGRAM, IN A SANDBOX (cutbox-rows.mjs): the forced cells as the released guide's own fill.sh prints them over the translation 72b60374c50202f8… (all of the seat's roots in one cut). By AI agents, Wed Nov 11 2026. No macro, syntax, notation, axiom, sorry.
-/
import Derived.Test.YtdojbnngdlmbgaaGreatDoorChecked
import GoSem.PinnedTables
import GoSem.Claim
import GoSem.ClaimJoined
import GoSem.ClaimMapViews
import Derived.JoinedTies
import Derived.KernelRfl
namespace Go.Proofs.YtdojbnngdlmbgaaGreatDoor
/- THE CELL 'sum', in the pinned program and in every row, IS THE sha256 OF THE DUMP (.gsa) THAT YtdojbnngdlmbgaaGreatDoorProg.lean LOADS. Nothing in Lean hashes anything: it is a label: what it is worth is what the hold of that sum in a sandbox is worth. -/
noncomputable def Tryz.pinned : Pinned := { name := "ytdojbnngdlmbgaagreatdoor", sum := "72b60374c50202f8d62d4fc49e8ed65b69cd74417bcce5133e4dd16e9ceb7c25", checked := Tryz.checked }
namespace Rows
def none {H : Type} : Left H := { results := [], args := [] }

/- WHAT THE LISTED PACKAGE-LEVEL VARIABLES READ AS WHEN THE CALL BEGINS. Each datum BY PROGRAM (the guide's laid-datum.mjs) off the statement by which the dump's own 'gosem.cut.vars' lays the variable. In a bare row this is a premise. The card (YtdojbnngdlmbgaaGreatDoorCards.lean) ties it to the program's text. -/
def laid_unicode_utf8_acceptRanges {H : Type} : DataW H := .agg [.agg [.lit (.int .u8 128), .lit (.int .u8 191)], .agg [.lit (.int .u8 160), .lit (.int .u8 191)], .agg [.lit (.int .u8 128), .lit (.int .u8 159)], .agg [.lit (.int .u8 144), .lit (.int .u8 191)], .agg [.lit (.int .u8 128), .lit (.int .u8 143)], .agg [.lit (.int .u8 0), .lit (.int .u8 0)], .agg [.lit (.int .u8 0), .lit (.int .u8 0)], .agg [.lit (.int .u8 0), .lit (.int .u8 0)], .agg [.lit (.int .u8 0), .lit (.int .u8 0)], .agg [.lit (.int .u8 0), .lit (.int .u8 0)], .agg [.lit (.int .u8 0), .lit (.int .u8 0)], .agg [.lit (.int .u8 0), .lit (.int .u8 0)], .agg [.lit (.int .u8 0), .lit (.int .u8 0)], .agg [.lit (.int .u8 0), .lit (.int .u8 0)], .agg [.lit (.int .u8 0), .lit (.int .u8 0)], .agg [.lit (.int .u8 0), .lit (.int .u8 0)]]
def laid_transclude_token_tags {H : Type} : DataW H := .agg [.agg [.lit (.int .i64 1), .lit (.string [60, 110, 111, 105, 110, 99, 108, 117, 100, 101, 62]), .lit (.string [60, 47, 110, 111, 105, 110, 99, 108, 117, 100, 101, 62])], .agg [.lit (.int .i64 2), .lit (.string [60, 105, 110, 99, 108, 117, 100, 101, 111, 110, 108, 121, 62]), .lit (.string [60, 47, 105, 110, 99, 108, 117, 100, 101, 111, 110, 108, 121, 62])], .agg [.lit (.int .i64 3), .lit (.string [60, 111, 110, 108, 121, 105, 110, 99, 108, 117, 100, 101, 62]), .lit (.string [60, 47, 111, 110, 108, 121, 105, 110, 99, 108, 117, 100, 101, 62])]]
/-- One of Go's own tables, pinned by name: the form's constant. -/
def laid_unicode_utf8_first : DataW Unit := Go.Pinned.utf8First

/-- 'trclaw4.ParseBuilt': WHATEVER THE INPUT: true; the input reads as it did. -/
def parseBuiltSpec : ChangeSpec := { name := "parseBuilt", fn := fun _ => fun
  | [d] => { results := [.lit (.bool true)], args := [d] }
  | _ => none }
def parseBuiltRow : OpenClaim := { program := "ytdojbnngdlmbgaagreatdoor", sum := "72b60374c50202f8d62d4fc49e8ed65b69cd74417bcce5133e4dd16e9ceb7c25", func := "transclude/trclaw4.ParseBuilt", spec := "parseBuilt", inPlace := ["internal/bytealg.IndexByteString", "internal/bytealg.IndexString", "internal/abi.NoEscape"], unfollowed := true, recurses := true, named := ["transclude/token.tags", "internal/bytealg.MaxLen", "unicode/utf8.first", "unicode/utf8.acceptRanges"], apart := false, laid := [("unicode/utf8.acceptRanges", laid_unicode_utf8_acceptRanges), ("transclude/token.tags", laid_transclude_token_tags), ("unicode/utf8.first", laid_unicode_utf8_first)] }
def ParseBuiltSaid : Prop := parseBuiltRow.holds Tryz.pinned (OpenSpec.ofChange parseBuiltSpec)

/-- ITS FALSE NEIGHBOUR: 'it returns false'. Refute it at one input. -/
def parseBuiltWrong : ChangeSpec := { name := "parseBuilt", fn := fun _ => fun
  | [d] => { results := [.lit (.bool false)], args := [d] }
  | _ => none }
def ParseBuiltWrongFalsely : Prop := parseBuiltRow.holds Tryz.pinned (OpenSpec.ofChange parseBuiltWrong)

/-- 'trclaw5.SectionNests': WHATEVER THE INPUT: true; the input reads as it did. -/
def sectionNestsSpec : ChangeSpec := { name := "sectionNests", fn := fun _ => fun
  | [d] => { results := [.lit (.bool true)], args := [d] }
  | _ => none }
def sectionNestsRow : OpenClaim := { program := "ytdojbnngdlmbgaagreatdoor", sum := "72b60374c50202f8d62d4fc49e8ed65b69cd74417bcce5133e4dd16e9ceb7c25", func := "transclude/trclaw5.SectionNests", spec := "sectionNests", inPlace := ["internal/bytealg.IndexByteString", "internal/bytealg.IndexString", "internal/abi.NoEscape", "internal/bytealg.CountString"], unfollowed := true, recurses := true, named := ["transclude/token.tags", "internal/bytealg.MaxLen", "unicode/utf8.first", "unicode/utf8.acceptRanges"], apart := false, laid := [("unicode/utf8.acceptRanges", laid_unicode_utf8_acceptRanges), ("transclude/token.tags", laid_transclude_token_tags), ("unicode/utf8.first", laid_unicode_utf8_first)] }
def SectionNestsSaid : Prop := sectionNestsRow.holds Tryz.pinned (OpenSpec.ofChange sectionNestsSpec)

/-- ITS FALSE NEIGHBOUR: 'it returns false'. Refute it at one input. -/
def sectionNestsWrong : ChangeSpec := { name := "sectionNests", fn := fun _ => fun
  | [d] => { results := [.lit (.bool false)], args := [d] }
  | _ => none }
def SectionNestsWrongFalsely : Prop := sectionNestsRow.holds Tryz.pinned (OpenSpec.ofChange sectionNestsWrong)

/-- 'trclaw5.SectionFind': WHATEVER THE INPUT: true; the input reads as it did. -/
def sectionFindSpec : ChangeSpec := { name := "sectionFind", fn := fun _ => fun
  | [d1, d2] => { results := [.lit (.bool true)], args := [d1, d2] }
  | _ => none }
def sectionFindRow : OpenClaim := { program := "ytdojbnngdlmbgaagreatdoor", sum := "72b60374c50202f8d62d4fc49e8ed65b69cd74417bcce5133e4dd16e9ceb7c25", func := "transclude/trclaw5.SectionFind", spec := "sectionFind", inPlace := ["internal/bytealg.IndexByteString", "internal/bytealg.IndexString", "internal/abi.NoEscape", "internal/bytealg.CountString"], unfollowed := true, recurses := true, named := ["transclude/token.tags", "internal/bytealg.MaxLen", "unicode/utf8.first", "unicode/utf8.acceptRanges"], apart := false, laid := [("unicode/utf8.acceptRanges", laid_unicode_utf8_acceptRanges), ("transclude/token.tags", laid_transclude_token_tags), ("unicode/utf8.first", laid_unicode_utf8_first)] }
def SectionFindSaid : Prop := sectionFindRow.holds Tryz.pinned (OpenSpec.ofChange sectionFindSpec)

/-- ITS FALSE NEIGHBOUR: 'it returns false'. Refute it at one input. -/
def sectionFindWrong : ChangeSpec := { name := "sectionFind", fn := fun _ => fun
  | [d1, d2] => { results := [.lit (.bool false)], args := [d1, d2] }
  | _ => none }
def SectionFindWrongFalsely : Prop := sectionFindRow.holds Tryz.pinned (OpenSpec.ofChange sectionFindWrong)

/-- 'trclaw5.SectionSame': WHATEVER THE INPUT: true; the input reads as it did. -/
def sectionSameSpec : ChangeSpec := { name := "sectionSame", fn := fun _ => fun
  | [d1, d2] => { results := [.lit (.bool true)], args := [d1, d2] }
  | _ => none }
def sectionSameRow : OpenClaim := { program := "ytdojbnngdlmbgaagreatdoor", sum := "72b60374c50202f8d62d4fc49e8ed65b69cd74417bcce5133e4dd16e9ceb7c25", func := "transclude/trclaw5.SectionSame", spec := "sectionSame", inPlace := ["internal/bytealg.IndexByteString", "internal/bytealg.IndexString", "internal/abi.NoEscape", "internal/bytealg.CountString"], unfollowed := true, recurses := true, named := ["transclude/token.tags", "internal/bytealg.MaxLen", "unicode/utf8.first", "unicode/utf8.acceptRanges"], apart := false, laid := [("unicode/utf8.acceptRanges", laid_unicode_utf8_acceptRanges), ("transclude/token.tags", laid_transclude_token_tags), ("unicode/utf8.first", laid_unicode_utf8_first)] }
def SectionSameSaid : Prop := sectionSameRow.holds Tryz.pinned (OpenSpec.ofChange sectionSameSpec)

/-- ITS FALSE NEIGHBOUR: 'it returns false'. Refute it at one input. -/
def sectionSameWrong : ChangeSpec := { name := "sectionSame", fn := fun _ => fun
  | [d1, d2] => { results := [.lit (.bool false)], args := [d1, d2] }
  | _ => none }
def SectionSameWrongFalsely : Prop := sectionSameRow.holds Tryz.pinned (OpenSpec.ofChange sectionSameWrong)

/-- 'trclaw5.SectionHidden': WHATEVER THE INPUT: true; the input reads as it did. -/
def sectionHiddenSpec : ChangeSpec := { name := "sectionHidden", fn := fun _ => fun
  | [d] => { results := [.lit (.bool true)], args := [d] }
  | _ => none }
def sectionHiddenRow : OpenClaim := { program := "ytdojbnngdlmbgaagreatdoor", sum := "72b60374c50202f8d62d4fc49e8ed65b69cd74417bcce5133e4dd16e9ceb7c25", func := "transclude/trclaw5.SectionHidden", spec := "sectionHidden", inPlace := ["internal/bytealg.IndexByteString", "internal/bytealg.IndexString", "internal/abi.NoEscape", "internal/bytealg.CountString"], unfollowed := true, recurses := true, named := ["transclude/token.tags", "internal/bytealg.MaxLen", "unicode/utf8.first", "unicode/utf8.acceptRanges"], apart := false, laid := [("unicode/utf8.acceptRanges", laid_unicode_utf8_acceptRanges), ("transclude/token.tags", laid_transclude_token_tags), ("unicode/utf8.first", laid_unicode_utf8_first)] }
def SectionHiddenSaid : Prop := sectionHiddenRow.holds Tryz.pinned (OpenSpec.ofChange sectionHiddenSpec)

/-- ITS FALSE NEIGHBOUR: 'it returns false'. Refute it at one input. -/
def sectionHiddenWrong : ChangeSpec := { name := "sectionHidden", fn := fun _ => fun
  | [d] => { results := [.lit (.bool false)], args := [d] }
  | _ => none }
def SectionHiddenWrongFalsely : Prop := sectionHiddenRow.holds Tryz.pinned (OpenSpec.ofChange sectionHiddenWrong)

/-- 'trclaw5.SectionHeadings': WHATEVER THE INPUT: true; the input reads as it did. -/
def sectionHeadingsSpec : ChangeSpec := { name := "sectionHeadings", fn := fun _ => fun
  | [d1, d2, d3] => { results := [.lit (.bool true)], args := [d1, d2, d3] }
  | _ => none }
def sectionHeadingsRow : OpenClaim := { program := "ytdojbnngdlmbgaagreatdoor", sum := "72b60374c50202f8d62d4fc49e8ed65b69cd74417bcce5133e4dd16e9ceb7c25", func := "transclude/trclaw5.SectionHeadings", spec := "sectionHeadings", inPlace := ["internal/abi.NoEscape", "internal/bytealg.MakeNoZero", "internal/bytealg.IndexByteString", "internal/bytealg.IndexString", "internal/bytealg.CountString"], unfollowed := true, recurses := true, named := ["transclude/token.tags", "internal/bytealg.MaxLen", "unicode/utf8.first", "unicode/utf8.acceptRanges"], apart := false, laid := [("unicode/utf8.acceptRanges", laid_unicode_utf8_acceptRanges), ("transclude/token.tags", laid_transclude_token_tags), ("unicode/utf8.first", laid_unicode_utf8_first)] }
def SectionHeadingsSaid : Prop := sectionHeadingsRow.holds Tryz.pinned (OpenSpec.ofChange sectionHeadingsSpec)

/-- ITS FALSE NEIGHBOUR: 'it returns false'. Refute it at one input. -/
def sectionHeadingsWrong : ChangeSpec := { name := "sectionHeadings", fn := fun _ => fun
  | [d1, d2, d3] => { results := [.lit (.bool false)], args := [d1, d2, d3] }
  | _ => none }
def SectionHeadingsWrongFalsely : Prop := sectionHeadingsRow.holds Tryz.pinned (OpenSpec.ofChange sectionHeadingsWrong)

/- THE SECOND FORM. 'bulk': how many values and letters a reading holds, each counted each time it is reached (what is shared counts as often as it is met; a slice's spare places count too). A statement '..UptoSaid' is the law's where the arguments, and the package variables that the reading takes, are together of bulk at most 1048576: NARROWER than '..Said'. Prove '..Said' where nothing that the law and all that it calls make is longer than what came in: it says more and counts as full. Else prove '..UptoSaid'. A law counts once. -/
mutual
def uptoBulk {H : Type} : DataW H → Nat
  | .lit (.string bytes) => bytes.length + 1
  | .lit _ => 1
  | .nil => 1
  | .ptr d => uptoBulk d + 1
  | .slice elems spare => uptoBulkAll elems + uptoBulkAll spare + 1
  | .agg parts => uptoBulkAll parts + 1
  | .iface _ d => uptoBulk d + 1
  | .map entries => uptoBulkEntries entries + 1
  | .held _ => 1
def uptoBulkAll {H : Type} : List (DataW H) → Nat
  | [] => 0
  | d :: r => uptoBulk d + uptoBulkAll r
def uptoBulkEntries {H : Type} : List (Lit × DataW H) → Nat
  | [] => 0
  | x :: r => uptoBulkEntry x + uptoBulkEntries r
def uptoBulkEntry {H : Type} : Lit × DataW H → Nat
  | (.string bytes, d) => bytes.length + uptoBulk d + 1
  | (_, d) => uptoBulk d + 1
 end
def uptoSmall : (H : Type) → List (DataW H) → Bool := fun _ ds => decide (uptoBulkAll ds ≤ 1048576)
def OpenSpec.upto (s : _root_.Go.ChangeSpec) : _root_.Go.OpenSpec := { _root_.Go.OpenSpec.ofChange s with cond := some uptoSmall }

/-- 'trclaw4.ParseBuilt', WHERE WHAT IT READS IS OF BULK AT MOST 1048576: true; the input reads as it did. -/
def parseBuiltUptoRow : OpenClaim := { program := "ytdojbnngdlmbgaagreatdoor", sum := "72b60374c50202f8d62d4fc49e8ed65b69cd74417bcce5133e4dd16e9ceb7c25", func := "transclude/trclaw4.ParseBuilt", spec := "parseBuilt", inPlace := ["internal/bytealg.IndexByteString", "internal/bytealg.IndexString", "internal/abi.NoEscape"], unfollowed := true, recurses := true, named := ["transclude/token.tags", "internal/bytealg.MaxLen", "unicode/utf8.first", "unicode/utf8.acceptRanges"], apart := false, laid := [("unicode/utf8.acceptRanges", laid_unicode_utf8_acceptRanges), ("transclude/token.tags", laid_transclude_token_tags), ("unicode/utf8.first", laid_unicode_utf8_first)], narrowed := true }
def ParseBuiltUptoSaid : Prop := parseBuiltUptoRow.holds Tryz.pinned (OpenSpec.upto parseBuiltSpec)

/-- 'trclaw5.SectionNests', WHERE WHAT IT READS IS OF BULK AT MOST 1048576: true; the input reads as it did. -/
def sectionNestsUptoRow : OpenClaim := { program := "ytdojbnngdlmbgaagreatdoor", sum := "72b60374c50202f8d62d4fc49e8ed65b69cd74417bcce5133e4dd16e9ceb7c25", func := "transclude/trclaw5.SectionNests", spec := "sectionNests", inPlace := ["internal/bytealg.IndexByteString", "internal/bytealg.IndexString", "internal/abi.NoEscape", "internal/bytealg.CountString"], unfollowed := true, recurses := true, named := ["transclude/token.tags", "internal/bytealg.MaxLen", "unicode/utf8.first", "unicode/utf8.acceptRanges"], apart := false, laid := [("unicode/utf8.acceptRanges", laid_unicode_utf8_acceptRanges), ("transclude/token.tags", laid_transclude_token_tags), ("unicode/utf8.first", laid_unicode_utf8_first)], narrowed := true }
def SectionNestsUptoSaid : Prop := sectionNestsUptoRow.holds Tryz.pinned (OpenSpec.upto sectionNestsSpec)

/-- 'trclaw5.SectionFind', WHERE WHAT IT READS IS OF BULK AT MOST 1048576: true; the input reads as it did. -/
def sectionFindUptoRow : OpenClaim := { program := "ytdojbnngdlmbgaagreatdoor", sum := "72b60374c50202f8d62d4fc49e8ed65b69cd74417bcce5133e4dd16e9ceb7c25", func := "transclude/trclaw5.SectionFind", spec := "sectionFind", inPlace := ["internal/bytealg.IndexByteString", "internal/bytealg.IndexString", "internal/abi.NoEscape", "internal/bytealg.CountString"], unfollowed := true, recurses := true, named := ["transclude/token.tags", "internal/bytealg.MaxLen", "unicode/utf8.first", "unicode/utf8.acceptRanges"], apart := false, laid := [("unicode/utf8.acceptRanges", laid_unicode_utf8_acceptRanges), ("transclude/token.tags", laid_transclude_token_tags), ("unicode/utf8.first", laid_unicode_utf8_first)], narrowed := true }
def SectionFindUptoSaid : Prop := sectionFindUptoRow.holds Tryz.pinned (OpenSpec.upto sectionFindSpec)

/-- 'trclaw5.SectionSame', WHERE WHAT IT READS IS OF BULK AT MOST 1048576: true; the input reads as it did. -/
def sectionSameUptoRow : OpenClaim := { program := "ytdojbnngdlmbgaagreatdoor", sum := "72b60374c50202f8d62d4fc49e8ed65b69cd74417bcce5133e4dd16e9ceb7c25", func := "transclude/trclaw5.SectionSame", spec := "sectionSame", inPlace := ["internal/bytealg.IndexByteString", "internal/bytealg.IndexString", "internal/abi.NoEscape", "internal/bytealg.CountString"], unfollowed := true, recurses := true, named := ["transclude/token.tags", "internal/bytealg.MaxLen", "unicode/utf8.first", "unicode/utf8.acceptRanges"], apart := false, laid := [("unicode/utf8.acceptRanges", laid_unicode_utf8_acceptRanges), ("transclude/token.tags", laid_transclude_token_tags), ("unicode/utf8.first", laid_unicode_utf8_first)], narrowed := true }
def SectionSameUptoSaid : Prop := sectionSameUptoRow.holds Tryz.pinned (OpenSpec.upto sectionSameSpec)

/-- 'trclaw5.SectionHidden', WHERE WHAT IT READS IS OF BULK AT MOST 1048576: true; the input reads as it did. -/
def sectionHiddenUptoRow : OpenClaim := { program := "ytdojbnngdlmbgaagreatdoor", sum := "72b60374c50202f8d62d4fc49e8ed65b69cd74417bcce5133e4dd16e9ceb7c25", func := "transclude/trclaw5.SectionHidden", spec := "sectionHidden", inPlace := ["internal/bytealg.IndexByteString", "internal/bytealg.IndexString", "internal/abi.NoEscape", "internal/bytealg.CountString"], unfollowed := true, recurses := true, named := ["transclude/token.tags", "internal/bytealg.MaxLen", "unicode/utf8.first", "unicode/utf8.acceptRanges"], apart := false, laid := [("unicode/utf8.acceptRanges", laid_unicode_utf8_acceptRanges), ("transclude/token.tags", laid_transclude_token_tags), ("unicode/utf8.first", laid_unicode_utf8_first)], narrowed := true }
def SectionHiddenUptoSaid : Prop := sectionHiddenUptoRow.holds Tryz.pinned (OpenSpec.upto sectionHiddenSpec)

/-- 'trclaw5.SectionHeadings', WHERE WHAT IT READS IS OF BULK AT MOST 1048576: true; the input reads as it did. -/
def sectionHeadingsUptoRow : OpenClaim := { program := "ytdojbnngdlmbgaagreatdoor", sum := "72b60374c50202f8d62d4fc49e8ed65b69cd74417bcce5133e4dd16e9ceb7c25", func := "transclude/trclaw5.SectionHeadings", spec := "sectionHeadings", inPlace := ["internal/abi.NoEscape", "internal/bytealg.MakeNoZero", "internal/bytealg.IndexByteString", "internal/bytealg.IndexString", "internal/bytealg.CountString"], unfollowed := true, recurses := true, named := ["transclude/token.tags", "internal/bytealg.MaxLen", "unicode/utf8.first", "unicode/utf8.acceptRanges"], apart := false, laid := [("unicode/utf8.acceptRanges", laid_unicode_utf8_acceptRanges), ("transclude/token.tags", laid_transclude_token_tags), ("unicode/utf8.first", laid_unicode_utf8_first)], narrowed := true }
def SectionHeadingsUptoSaid : Prop := sectionHeadingsUptoRow.holds Tryz.pinned (OpenSpec.upto sectionHeadingsSpec)

end Rows
end Go.Proofs.YtdojbnngdlmbgaaGreatDoor
