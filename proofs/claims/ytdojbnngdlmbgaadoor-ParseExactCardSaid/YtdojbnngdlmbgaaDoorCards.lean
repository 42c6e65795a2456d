/-
  DERIVED. GIVEN WITH THE SEED: THE CARDS: each row of YtdojbnngdlmbgaaDoorRows.lean that lists a variable, with what it lists TIED to the program's text (the seventh form; the later family's looks); each row that meets fmt, with fmt's text TOLD by the authors' own Lean function (tested against real Go, not proved from fmt's source: count such statements apart). THE CARD IS WHAT COUNTS. Prove the row's statement (the work); the ties are given (YtdojbnngdlmbgaaDoorTie.lean); close each card by the builder's one call (the guide's Derived/Test/ToyasCard.lean, 'card_holds'). Laid BY PROGRAM, IN A SANDBOX (cutbox-door.mjs). By AI agents, Wed Nov 11 2026. No macro, syntax, notation, axiom, sorry.
-/
import Derived.Test.YtdojbnngdlmbgaaDoorRows
import GoSem.ClaimSeven
namespace Go.Proofs.YtdojbnngdlmbgaaDoor
namespace Rows

/-- THE TIED CARD OF 'trclaw4.ParseExact'. -/
def parseExactCard : Claim7 := { stood := { row := parseExactRow, standIns := [], harness := (true, "6bc066bc4392a80d3b157a889ec083c9ead3b1beced57ee44893783e02382615"), looks := false }, kinds := [], alts := [], laidByText := true, laidKinds := [.data, .data, .pinned], laidTests := true, laidLooks := .later }
def ParseExactCardSaid : Prop := Claim7.holds Tryd.pinned (.plain (OpenSpec.ofChange parseExactSpec)) parseExactCard

/-- THE TIED CARD OF 'trclaw4.ParseArguments'. -/
def parseArgumentsCard : Claim7 := { stood := { row := parseArgumentsRow, standIns := [], harness := (true, "6bc066bc4392a80d3b157a889ec083c9ead3b1beced57ee44893783e02382615"), looks := false }, kinds := [], alts := [], laidByText := true, laidKinds := [.data, .data, .pinned], laidTests := true, laidLooks := .later }
def ParseArgumentsCardSaid : Prop := Claim7.holds Tryd.pinned (.plain (OpenSpec.ofChange parseArgumentsSpec)) parseArgumentsCard

/-- THE SECOND FORM's CARD OF 'trclaw4.ParseExact'. -/
def parseExactUptoCard : Claim7 := { stood := { row := parseExactUptoRow, standIns := [], harness := (true, "6bc066bc4392a80d3b157a889ec083c9ead3b1beced57ee44893783e02382615"), looks := false }, kinds := [], alts := [], laidByText := true, laidKinds := [.data, .data, .pinned], laidTests := true, laidLooks := .later }
def ParseExactUptoCardSaid : Prop := Claim7.holds Tryd.pinned (.plain (OpenSpec.upto parseExactSpec)) parseExactUptoCard

/-- THE SECOND FORM's CARD OF 'trclaw4.ParseArguments'. -/
def parseArgumentsUptoCard : Claim7 := { stood := { row := parseArgumentsUptoRow, standIns := [], harness := (true, "6bc066bc4392a80d3b157a889ec083c9ead3b1beced57ee44893783e02382615"), looks := false }, kinds := [], alts := [], laidByText := true, laidKinds := [.data, .data, .pinned], laidTests := true, laidLooks := .later }
def ParseArgumentsUptoCardSaid : Prop := Claim7.holds Tryd.pinned (.plain (OpenSpec.upto parseArgumentsSpec)) parseArgumentsUptoCard
end Rows
end Go.Proofs.YtdojbnngdlmbgaaDoor
