/-
  DERIVED. GIVEN WITH THE SEED: THE CARDS: each row of YtfocokjihbenmaaGreatDoorRows.lean that lists a variable, with what it lists TIED to the program's text (the seventh form; the later family's looks); each row that meets fmt, with fmt's text TOLD by the authors' own Lean function (tested against real Go, not proved from fmt's source: count such statements apart). THE CARD IS WHAT COUNTS. Prove the row's statement (the work); the ties are given (YtfocokjihbenmaaGreatDoorTie.lean); close each card by the builder's one call (the guide's Derived/Test/ToyasCard.lean, 'card_holds'). Laid BY PROGRAM, IN A SANDBOX (cutbox-door.mjs). By AI agents, Wed Nov 11 2026. No macro, syntax, notation, axiom, sorry.
-/
import Derived.Test.YtfocokjihbenmaaGreatDoorRows
import GoSem.ClaimSeven
namespace Go.Proofs.YtfocokjihbenmaaGreatDoor
namespace Rows

/-- THE TIED CARD OF 'trclaw8.FormulaEval'. -/
def formulaEvalCard : Claim7 := { stood := { row := formulaEvalRow, standIns := [], harness := (true, "8ee32dafa91d6230b79c6bbb572927197e0c6d25730ed7363d5ef13897124f88"), looks := false }, kinds := [], alts := [], laidByText := true, laidKinds := [.data, .pinned], laidTests := true, laidLooks := .later }
def FormulaEvalCardSaid : Prop := Claim7.holds Tryz.pinned (.plain (OpenSpec.ofChange formulaEvalSpec)) formulaEvalCard

/-- THE TIED CARD OF 'trclaw8.FormulaBuilt'. -/
def formulaBuiltCard : Claim7 := { stood := { row := formulaBuiltRow, standIns := [], harness := (true, "8ee32dafa91d6230b79c6bbb572927197e0c6d25730ed7363d5ef13897124f88"), looks := false }, kinds := [], alts := [], laidByText := true, laidKinds := [.data, .pinned], laidTests := true, laidLooks := .later }
def FormulaBuiltCardSaid : Prop := Claim7.holds Tryz.pinned (.plain (OpenSpec.ofChange formulaBuiltSpec)) formulaBuiltCard

/-- THE TIED CARD OF 'trclaw8.FormulaOperators'. -/
def formulaOperatorsCard : Claim7 := { stood := { row := formulaOperatorsRow, standIns := [], harness := (true, "8ee32dafa91d6230b79c6bbb572927197e0c6d25730ed7363d5ef13897124f88"), looks := false }, kinds := [], alts := [], laidByText := true, laidKinds := [.data, .pinned], laidTests := true, laidLooks := .later }
def FormulaOperatorsCardSaid : Prop := Claim7.holds Tryz.pinned (.plain (OpenSpec.ofChange formulaOperatorsSpec)) formulaOperatorsCard

/-- THE SECOND FORM's CARD OF 'trclaw8.FormulaEval'. -/
def formulaEvalUptoCard : Claim7 := { stood := { row := formulaEvalUptoRow, standIns := [], harness := (true, "8ee32dafa91d6230b79c6bbb572927197e0c6d25730ed7363d5ef13897124f88"), looks := false }, kinds := [], alts := [], laidByText := true, laidKinds := [.data, .pinned], laidTests := true, laidLooks := .later }
def FormulaEvalUptoCardSaid : Prop := Claim7.holds Tryz.pinned (.plain (OpenSpec.upto formulaEvalSpec)) formulaEvalUptoCard

/-- THE SECOND FORM's CARD OF 'trclaw8.FormulaBuilt'. -/
def formulaBuiltUptoCard : Claim7 := { stood := { row := formulaBuiltUptoRow, standIns := [], harness := (true, "8ee32dafa91d6230b79c6bbb572927197e0c6d25730ed7363d5ef13897124f88"), looks := false }, kinds := [], alts := [], laidByText := true, laidKinds := [.data, .pinned], laidTests := true, laidLooks := .later }
def FormulaBuiltUptoCardSaid : Prop := Claim7.holds Tryz.pinned (.plain (OpenSpec.upto formulaBuiltSpec)) formulaBuiltUptoCard

/-- THE SECOND FORM's CARD OF 'trclaw8.FormulaOperators'. -/
def formulaOperatorsUptoCard : Claim7 := { stood := { row := formulaOperatorsUptoRow, standIns := [], harness := (true, "8ee32dafa91d6230b79c6bbb572927197e0c6d25730ed7363d5ef13897124f88"), looks := false }, kinds := [], alts := [], laidByText := true, laidKinds := [.data, .pinned], laidTests := true, laidLooks := .later }
def FormulaOperatorsUptoCardSaid : Prop := Claim7.holds Tryz.pinned (.plain (OpenSpec.upto formulaOperatorsSpec)) formulaOperatorsUptoCard
end Rows
end Go.Proofs.YtfocokjihbenmaaGreatDoor
