/-
  NARROWER THAN 'FOR EVERY INPUT', by the rows' own cells (each row's printed sentence says how): FormulaLevels: laid · FormulaBlanks: laid · FormulaPrecedence: laid · FormulaLogic: laid · FormulaPowers: laid.
  DERIVED. THE GIVEN ROWS OF THIS SEAT. 5 by the template 'for every input the law returns true; each argument reads behind the call as it read before'; 0 by the template 'total and deterministic' (their statements: YtfocokjihbenmaaDoorTotals.lean).
  GIVEN WITH THE SEED: the statements are not yours to turn. If you find one false, say at which input.
  Laid BY PROGRAM, IN A SANDBOX (cutbox-rows.mjs): the forced cells as the released guide's own fill.sh prints them over the translation c32201a5fdf744be… (all of the seat's roots in one cut). By AI agents, Wed Nov 11 2026. No macro, syntax, notation, axiom, sorry.
-/
import Derived.Test.YtfocokjihbenmaaDoorChecked
import GoSem.PinnedTables
import GoSem.Claim
import GoSem.ClaimJoined
import GoSem.ClaimMapViews
import Derived.JoinedTies
import Derived.KernelRfl
namespace Go.Proofs.YtfocokjihbenmaaDoor
/- THE CELL 'sum', in the pinned program and in every row, IS THE sha256 OF THE DUMP (.gsa) THAT YtfocokjihbenmaaDoorProg.lean LOADS. Nothing in Lean hashes anything: it is a label: what it is worth is what the hold of that sum in a sandbox is worth. -/
noncomputable def Tryd.pinned : Pinned := { name := "ytfocokjihbenmaadoor", sum := "c32201a5fdf744be2bcdff9d6e70337700b53ecd9fbab3fd55c16cd2b2525b7a", checked := Tryd.checked }
namespace Rows
def none {H : Type} : Left H := { results := [], args := [] }

/- WHAT THE LISTED PACKAGE-LEVEL VARIABLES READ AS WHEN THE CALL BEGINS. Each datum BY PROGRAM (the guide's laid-datum.mjs) off the statement by which the dump's own 'gosem.cut.vars' lays the variable. In a bare row this is a premise. The card (YtfocokjihbenmaaDoorCards.lean) ties it to the program's text. -/
def laid_unicode_utf8_acceptRanges {H : Type} : DataW H := .agg [.agg [.lit (.int .u8 128), .lit (.int .u8 191)], .agg [.lit (.int .u8 160), .lit (.int .u8 191)], .agg [.lit (.int .u8 128), .lit (.int .u8 159)], .agg [.lit (.int .u8 144), .lit (.int .u8 191)], .agg [.lit (.int .u8 128), .lit (.int .u8 143)], .agg [.lit (.int .u8 0), .lit (.int .u8 0)], .agg [.lit (.int .u8 0), .lit (.int .u8 0)], .agg [.lit (.int .u8 0), .lit (.int .u8 0)], .agg [.lit (.int .u8 0), .lit (.int .u8 0)], .agg [.lit (.int .u8 0), .lit (.int .u8 0)], .agg [.lit (.int .u8 0), .lit (.int .u8 0)], .agg [.lit (.int .u8 0), .lit (.int .u8 0)], .agg [.lit (.int .u8 0), .lit (.int .u8 0)], .agg [.lit (.int .u8 0), .lit (.int .u8 0)], .agg [.lit (.int .u8 0), .lit (.int .u8 0)], .agg [.lit (.int .u8 0), .lit (.int .u8 0)]]
/-- One of Go's own tables, pinned by name: the form's constant. -/
def laid_unicode_utf8_first : DataW Unit := Go.Pinned.utf8First

/-- 'trclaw8.FormulaLevels': WHATEVER THE INPUT: true; the input reads as it did. -/
def formulaLevelsSpec : ChangeSpec := { name := "formulaLevels", fn := fun _ => fun
  | [d] => { results := [.lit (.bool true)], args := [d] }
  | _ => none }
def formulaLevelsRow : OpenClaim := { program := "ytfocokjihbenmaadoor", sum := "c32201a5fdf744be2bcdff9d6e70337700b53ecd9fbab3fd55c16cd2b2525b7a", func := "transclude/trclaw8.FormulaLevels", spec := "formulaLevels", inPlace := ["internal/abi.NoEscape", "internal/bytealg.MakeNoZero", "internal/bytealg.IndexByteString", "internal/bytealg.IndexString"], unfollowed := true, recurses := true, named := ["unicode/utf8.first", "unicode/utf8.acceptRanges", "internal/bytealg.MaxLen"], apart := false, laid := [("unicode/utf8.acceptRanges", laid_unicode_utf8_acceptRanges), ("unicode/utf8.first", laid_unicode_utf8_first)] }
def FormulaLevelsSaid : Prop := formulaLevelsRow.holds Tryd.pinned (OpenSpec.ofChange formulaLevelsSpec)

/-- ITS FALSE NEIGHBOUR: 'it returns false'. Refute it at one input. -/
def formulaLevelsWrong : ChangeSpec := { name := "formulaLevels", fn := fun _ => fun
  | [d] => { results := [.lit (.bool false)], args := [d] }
  | _ => none }
def FormulaLevelsWrongFalsely : Prop := formulaLevelsRow.holds Tryd.pinned (OpenSpec.ofChange formulaLevelsWrong)

/-- 'trclaw8.FormulaBlanks': WHATEVER THE INPUT: true; the input reads as it did. -/
def formulaBlanksSpec : ChangeSpec := { name := "formulaBlanks", fn := fun _ => fun
  | [d] => { results := [.lit (.bool true)], args := [d] }
  | _ => none }
def formulaBlanksRow : OpenClaim := { program := "ytfocokjihbenmaadoor", sum := "c32201a5fdf744be2bcdff9d6e70337700b53ecd9fbab3fd55c16cd2b2525b7a", func := "transclude/trclaw8.FormulaBlanks", spec := "formulaBlanks", inPlace := ["internal/bytealg.IndexByteString", "internal/bytealg.IndexString"], unfollowed := true, recurses := true, named := ["unicode/utf8.first", "unicode/utf8.acceptRanges", "internal/bytealg.MaxLen"], apart := false, laid := [("unicode/utf8.acceptRanges", laid_unicode_utf8_acceptRanges), ("unicode/utf8.first", laid_unicode_utf8_first)] }
def FormulaBlanksSaid : Prop := formulaBlanksRow.holds Tryd.pinned (OpenSpec.ofChange formulaBlanksSpec)

/-- ITS FALSE NEIGHBOUR: 'it returns false'. Refute it at one input. -/
def formulaBlanksWrong : ChangeSpec := { name := "formulaBlanks", fn := fun _ => fun
  | [d] => { results := [.lit (.bool false)], args := [d] }
  | _ => none }
def FormulaBlanksWrongFalsely : Prop := formulaBlanksRow.holds Tryd.pinned (OpenSpec.ofChange formulaBlanksWrong)

/-- 'trclaw8.FormulaPrecedence': WHATEVER THE INPUT: true; the input reads as it did. -/
def formulaPrecedenceSpec : ChangeSpec := { name := "formulaPrecedence", fn := fun _ => fun
  | [d1, d2, d3, d4] => { results := [.lit (.bool true)], args := [d1, d2, d3, d4] }
  | _ => none }
def formulaPrecedenceRow : OpenClaim := { program := "ytfocokjihbenmaadoor", sum := "c32201a5fdf744be2bcdff9d6e70337700b53ecd9fbab3fd55c16cd2b2525b7a", func := "transclude/trclaw8.FormulaPrecedence", spec := "formulaPrecedence", inPlace := ["internal/bytealg.IndexByteString", "internal/bytealg.IndexString"], unfollowed := true, recurses := true, named := ["unicode/utf8.first", "unicode/utf8.acceptRanges", "internal/bytealg.MaxLen"], apart := false, laid := [("unicode/utf8.acceptRanges", laid_unicode_utf8_acceptRanges), ("unicode/utf8.first", laid_unicode_utf8_first)] }
def FormulaPrecedenceSaid : Prop := formulaPrecedenceRow.holds Tryd.pinned (OpenSpec.ofChange formulaPrecedenceSpec)

/-- ITS FALSE NEIGHBOUR: 'it returns false'. Refute it at one input. -/
def formulaPrecedenceWrong : ChangeSpec := { name := "formulaPrecedence", fn := fun _ => fun
  | [d1, d2, d3, d4] => { results := [.lit (.bool false)], args := [d1, d2, d3, d4] }
  | _ => none }
def FormulaPrecedenceWrongFalsely : Prop := formulaPrecedenceRow.holds Tryd.pinned (OpenSpec.ofChange formulaPrecedenceWrong)

/-- 'trclaw8.FormulaLogic': WHATEVER THE INPUT: true; the input reads as it did. -/
def formulaLogicSpec : ChangeSpec := { name := "formulaLogic", fn := fun _ => fun
  | [d1, d2] => { results := [.lit (.bool true)], args := [d1, d2] }
  | _ => none }
def formulaLogicRow : OpenClaim := { program := "ytfocokjihbenmaadoor", sum := "c32201a5fdf744be2bcdff9d6e70337700b53ecd9fbab3fd55c16cd2b2525b7a", func := "transclude/trclaw8.FormulaLogic", spec := "formulaLogic", inPlace := ["internal/bytealg.IndexByteString", "internal/bytealg.IndexString"], unfollowed := true, recurses := true, named := ["unicode/utf8.first", "unicode/utf8.acceptRanges", "internal/bytealg.MaxLen"], apart := false, laid := [("unicode/utf8.acceptRanges", laid_unicode_utf8_acceptRanges), ("unicode/utf8.first", laid_unicode_utf8_first)] }
def FormulaLogicSaid : Prop := formulaLogicRow.holds Tryd.pinned (OpenSpec.ofChange formulaLogicSpec)

/-- ITS FALSE NEIGHBOUR: 'it returns false'. Refute it at one input. -/
def formulaLogicWrong : ChangeSpec := { name := "formulaLogic", fn := fun _ => fun
  | [d1, d2] => { results := [.lit (.bool false)], args := [d1, d2] }
  | _ => none }
def FormulaLogicWrongFalsely : Prop := formulaLogicRow.holds Tryd.pinned (OpenSpec.ofChange formulaLogicWrong)

/-- 'trclaw8.FormulaPowers': WHATEVER THE INPUT: true; the input reads as it did. -/
def formulaPowersSpec : ChangeSpec := { name := "formulaPowers", fn := fun _ => fun
  | [d1, d2] => { results := [.lit (.bool true)], args := [d1, d2] }
  | _ => none }
def formulaPowersRow : OpenClaim := { program := "ytfocokjihbenmaadoor", sum := "c32201a5fdf744be2bcdff9d6e70337700b53ecd9fbab3fd55c16cd2b2525b7a", func := "transclude/trclaw8.FormulaPowers", spec := "formulaPowers", inPlace := ["internal/bytealg.IndexByteString", "internal/bytealg.IndexString"], unfollowed := true, recurses := true, named := ["unicode/utf8.first", "unicode/utf8.acceptRanges", "internal/bytealg.MaxLen"], apart := false, laid := [("unicode/utf8.acceptRanges", laid_unicode_utf8_acceptRanges), ("unicode/utf8.first", laid_unicode_utf8_first)] }
def FormulaPowersSaid : Prop := formulaPowersRow.holds Tryd.pinned (OpenSpec.ofChange formulaPowersSpec)

/-- ITS FALSE NEIGHBOUR: 'it returns false'. Refute it at one input. -/
def formulaPowersWrong : ChangeSpec := { name := "formulaPowers", fn := fun _ => fun
  | [d1, d2] => { results := [.lit (.bool false)], args := [d1, d2] }
  | _ => none }
def FormulaPowersWrongFalsely : Prop := formulaPowersRow.holds Tryd.pinned (OpenSpec.ofChange formulaPowersWrong)

/- THE SECOND FORM. 'bulk': how many values and letters a reading holds, each counted each time it is reached (what is shared counts as often as it is met; a slice's spare places count too). A statement '..UptoSaid' is the law's where the arguments, and the package variables that the reading takes, are together of bulk at most 1048576: NARROWER than '..Said'. Prove '..Said' where nothing that the law and all that it calls make is longer than what came in: it says more and counts as full. Else prove '..UptoSaid'. A law counts once. -/
mutual
def uptoBulk {H : Type} : DataW H → Nat
  | .lit (.string bytes) => bytes.length + 1
  | .lit _ => 1
  | .nil => 1
  | .ptr d => uptoBulk d + 1
  | .slice elems spare => uptoBulkAll elems + uptoBulkAll spare + 1
  | .agg parts => uptoBulkAll parts + 1
  | .iface _ d => uptoBulk d + 1
  | .map entries => uptoBulkEntries entries + 1
  | .held _ => 1
def uptoBulkAll {H : Type} : List (DataW H) → Nat
  | [] => 0
  | d :: r => uptoBulk d + uptoBulkAll r
def uptoBulkEntries {H : Type} : List (Lit × DataW H) → Nat
  | [] => 0
  | x :: r => uptoBulkEntry x + uptoBulkEntries r
def uptoBulkEntry {H : Type} : Lit × DataW H → Nat
  | (.string bytes, d) => bytes.length + uptoBulk d + 1
  | (_, d) => uptoBulk d + 1
 end
def uptoSmall : (H : Type) → List (DataW H) → Bool := fun _ ds => decide (uptoBulkAll ds ≤ 1048576)
def OpenSpec.upto (s : _root_.Go.ChangeSpec) : _root_.Go.OpenSpec := { _root_.Go.OpenSpec.ofChange s with cond := some uptoSmall }

/-- 'trclaw8.FormulaLevels', WHERE WHAT IT READS IS OF BULK AT MOST 1048576: true; the input reads as it did. -/
def formulaLevelsUptoRow : OpenClaim := { program := "ytfocokjihbenmaadoor", sum := "c32201a5fdf744be2bcdff9d6e70337700b53ecd9fbab3fd55c16cd2b2525b7a", func := "transclude/trclaw8.FormulaLevels", spec := "formulaLevels", inPlace := ["internal/abi.NoEscape", "internal/bytealg.MakeNoZero", "internal/bytealg.IndexByteString", "internal/bytealg.IndexString"], unfollowed := true, recurses := true, named := ["unicode/utf8.first", "unicode/utf8.acceptRanges", "internal/bytealg.MaxLen"], apart := false, laid := [("unicode/utf8.acceptRanges", laid_unicode_utf8_acceptRanges), ("unicode/utf8.first", laid_unicode_utf8_first)], narrowed := true }
def FormulaLevelsUptoSaid : Prop := formulaLevelsUptoRow.holds Tryd.pinned (OpenSpec.upto formulaLevelsSpec)

/-- 'trclaw8.FormulaBlanks', WHERE WHAT IT READS IS OF BULK AT MOST 1048576: true; the input reads as it did. -/
def formulaBlanksUptoRow : OpenClaim := { program := "ytfocokjihbenmaadoor", sum := "c32201a5fdf744be2bcdff9d6e70337700b53ecd9fbab3fd55c16cd2b2525b7a", func := "transclude/trclaw8.FormulaBlanks", spec := "formulaBlanks", inPlace := ["internal/bytealg.IndexByteString", "internal/bytealg.IndexString"], unfollowed := true, recurses := true, named := ["unicode/utf8.first", "unicode/utf8.acceptRanges", "internal/bytealg.MaxLen"], apart := false, laid := [("unicode/utf8.acceptRanges", laid_unicode_utf8_acceptRanges), ("unicode/utf8.first", laid_unicode_utf8_first)], narrowed := true }
def FormulaBlanksUptoSaid : Prop := formulaBlanksUptoRow.holds Tryd.pinned (OpenSpec.upto formulaBlanksSpec)

/-- 'trclaw8.FormulaPrecedence', WHERE WHAT IT READS IS OF BULK AT MOST 1048576: true; the input reads as it did. -/
def formulaPrecedenceUptoRow : OpenClaim := { program := "ytfocokjihbenmaadoor", sum := "c32201a5fdf744be2bcdff9d6e70337700b53ecd9fbab3fd55c16cd2b2525b7a", func := "transclude/trclaw8.FormulaPrecedence", spec := "formulaPrecedence", inPlace := ["internal/bytealg.IndexByteString", "internal/bytealg.IndexString"], unfollowed := true, recurses := true, named := ["unicode/utf8.first", "unicode/utf8.acceptRanges", "internal/bytealg.MaxLen"], apart := false, laid := [("unicode/utf8.acceptRanges", laid_unicode_utf8_acceptRanges), ("unicode/utf8.first", laid_unicode_utf8_first)], narrowed := true }
def FormulaPrecedenceUptoSaid : Prop := formulaPrecedenceUptoRow.holds Tryd.pinned (OpenSpec.upto formulaPrecedenceSpec)

/-- 'trclaw8.FormulaLogic', WHERE WHAT IT READS IS OF BULK AT MOST 1048576: true; the input reads as it did. -/
def formulaLogicUptoRow : OpenClaim := { program := "ytfocokjihbenmaadoor", sum := "c32201a5fdf744be2bcdff9d6e70337700b53ecd9fbab3fd55c16cd2b2525b7a", func := "transclude/trclaw8.FormulaLogic", spec := "formulaLogic", inPlace := ["internal/bytealg.IndexByteString", "internal/bytealg.IndexString"], unfollowed := true, recurses := true, named := ["unicode/utf8.first", "unicode/utf8.acceptRanges", "internal/bytealg.MaxLen"], apart := false, laid := [("unicode/utf8.acceptRanges", laid_unicode_utf8_acceptRanges), ("unicode/utf8.first", laid_unicode_utf8_first)], narrowed := true }
def FormulaLogicUptoSaid : Prop := formulaLogicUptoRow.holds Tryd.pinned (OpenSpec.upto formulaLogicSpec)

/-- 'trclaw8.FormulaPowers', WHERE WHAT IT READS IS OF BULK AT MOST 1048576: true; the input reads as it did. -/
def formulaPowersUptoRow : OpenClaim := { program := "ytfocokjihbenmaadoor", sum := "c32201a5fdf744be2bcdff9d6e70337700b53ecd9fbab3fd55c16cd2b2525b7a", func := "transclude/trclaw8.FormulaPowers", spec := "formulaPowers", inPlace := ["internal/bytealg.IndexByteString", "internal/bytealg.IndexString"], unfollowed := true, recurses := true, named := ["unicode/utf8.first", "unicode/utf8.acceptRanges", "internal/bytealg.MaxLen"], apart := false, laid := [("unicode/utf8.acceptRanges", laid_unicode_utf8_acceptRanges), ("unicode/utf8.first", laid_unicode_utf8_first)], narrowed := true }
def FormulaPowersUptoSaid : Prop := formulaPowersUptoRow.holds Tryd.pinned (OpenSpec.upto formulaPowersSpec)

end Rows
end Go.Proofs.YtfocokjihbenmaaDoor
