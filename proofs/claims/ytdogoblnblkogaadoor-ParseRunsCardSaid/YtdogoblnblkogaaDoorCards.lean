/-
  DERIVED. GIVEN WITH THE SEED: THE CARDS: each row of YtdogoblnblkogaaDoorRows.lean that lists a variable, with what it lists TIED to the program's text (the seventh form; the later family's looks); each row that meets fmt, with fmt's text TOLD by the authors' own Lean function (tested against real Go, not proved from fmt's source: count such statements apart). THE CARD IS WHAT COUNTS. Prove the row's statement (the work); the ties are given (YtdogoblnblkogaaDoorTie.lean); close each card by the builder's one call (the guide's Derived/Test/ToyasCard.lean, 'card_holds'). Laid BY PROGRAM, IN A SANDBOX (cutbox-door.mjs). By AI agents, Wed Nov 11 2026. No macro, syntax, notation, axiom, sorry.
-/
import Derived.Test.YtdogoblnblkogaaDoorRows
import GoSem.ClaimSeven
namespace Go.Proofs.YtdogoblnblkogaaDoor
namespace Rows

/-- THE TIED CARD OF 'trclaw4.ParseExact'. -/
def parseExactCard : Claim7 := { stood := { row := parseExactRow, standIns := [], harness := (true, "cc38a0aede6206847b982b46de1d6fec414ae4b759e93d361b14c60bc6582390"), looks := false }, kinds := [], alts := [], laidByText := true, laidKinds := [.data, .data, .pinned], laidTests := true, laidLooks := .later }
def ParseExactCardSaid : Prop := Claim7.holds Tryd.pinned (.plain (OpenSpec.ofChange parseExactSpec)) parseExactCard

/-- THE TIED CARD OF 'trclaw4.ParseNests'. -/
def parseNestsCard : Claim7 := { stood := { row := parseNestsRow, standIns := [], harness := (true, "cc38a0aede6206847b982b46de1d6fec414ae4b759e93d361b14c60bc6582390"), looks := false }, kinds := [], alts := [], laidByText := true, laidKinds := [.data, .data, .pinned], laidTests := true, laidLooks := .later }
def ParseNestsCardSaid : Prop := Claim7.holds Tryd.pinned (.plain (OpenSpec.ofChange parseNestsSpec)) parseNestsCard

/-- THE TIED CARD OF 'trclaw4.ParseRuns'. -/
def parseRunsCard : Claim7 := { stood := { row := parseRunsRow, standIns := [], harness := (true, "cc38a0aede6206847b982b46de1d6fec414ae4b759e93d361b14c60bc6582390"), looks := false }, kinds := [], alts := [], laidByText := true, laidKinds := [.data, .data, .pinned], laidTests := true, laidLooks := .later }
def ParseRunsCardSaid : Prop := Claim7.holds Tryd.pinned (.plain (OpenSpec.ofChange parseRunsSpec)) parseRunsCard

/-- THE TIED CARD OF 'trclaw4.ParseTags'. -/
def parseTagsCard : Claim7 := { stood := { row := parseTagsRow, standIns := [], harness := (true, "cc38a0aede6206847b982b46de1d6fec414ae4b759e93d361b14c60bc6582390"), looks := false }, kinds := [], alts := [], laidByText := true, laidKinds := [.data, .data, .pinned], laidTests := true, laidLooks := .later }
def ParseTagsCardSaid : Prop := Claim7.holds Tryd.pinned (.plain (OpenSpec.ofChange parseTagsSpec)) parseTagsCard

/-- THE TIED CARD OF 'trclaw4.ParseArguments'. -/
def parseArgumentsCard : Claim7 := { stood := { row := parseArgumentsRow, standIns := [], harness := (true, "cc38a0aede6206847b982b46de1d6fec414ae4b759e93d361b14c60bc6582390"), looks := false }, kinds := [], alts := [], laidByText := true, laidKinds := [.data, .data, .pinned], laidTests := true, laidLooks := .later }
def ParseArgumentsCardSaid : Prop := Claim7.holds Tryd.pinned (.plain (OpenSpec.ofChange parseArgumentsSpec)) parseArgumentsCard

/-- THE SECOND FORM's CARD OF 'trclaw4.ParseExact'. -/
def parseExactUptoCard : Claim7 := { stood := { row := parseExactUptoRow, standIns := [], harness := (true, "cc38a0aede6206847b982b46de1d6fec414ae4b759e93d361b14c60bc6582390"), looks := false }, kinds := [], alts := [], laidByText := true, laidKinds := [.data, .data, .pinned], laidTests := true, laidLooks := .later }
def ParseExactUptoCardSaid : Prop := Claim7.holds Tryd.pinned (.plain (OpenSpec.upto parseExactSpec)) parseExactUptoCard

/-- THE SECOND FORM's CARD OF 'trclaw4.ParseNests'. -/
def parseNestsUptoCard : Claim7 := { stood := { row := parseNestsUptoRow, standIns := [], harness := (true, "cc38a0aede6206847b982b46de1d6fec414ae4b759e93d361b14c60bc6582390"), looks := false }, kinds := [], alts := [], laidByText := true, laidKinds := [.data, .data, .pinned], laidTests := true, laidLooks := .later }
def ParseNestsUptoCardSaid : Prop := Claim7.holds Tryd.pinned (.plain (OpenSpec.upto parseNestsSpec)) parseNestsUptoCard

/-- THE SECOND FORM's CARD OF 'trclaw4.ParseRuns'. -/
def parseRunsUptoCard : Claim7 := { stood := { row := parseRunsUptoRow, standIns := [], harness := (true, "cc38a0aede6206847b982b46de1d6fec414ae4b759e93d361b14c60bc6582390"), looks := false }, kinds := [], alts := [], laidByText := true, laidKinds := [.data, .data, .pinned], laidTests := true, laidLooks := .later }
def ParseRunsUptoCardSaid : Prop := Claim7.holds Tryd.pinned (.plain (OpenSpec.upto parseRunsSpec)) parseRunsUptoCard

/-- THE SECOND FORM's CARD OF 'trclaw4.ParseTags'. -/
def parseTagsUptoCard : Claim7 := { stood := { row := parseTagsUptoRow, standIns := [], harness := (true, "cc38a0aede6206847b982b46de1d6fec414ae4b759e93d361b14c60bc6582390"), looks := false }, kinds := [], alts := [], laidByText := true, laidKinds := [.data, .data, .pinned], laidTests := true, laidLooks := .later }
def ParseTagsUptoCardSaid : Prop := Claim7.holds Tryd.pinned (.plain (OpenSpec.upto parseTagsSpec)) parseTagsUptoCard

/-- THE SECOND FORM's CARD OF 'trclaw4.ParseArguments'. -/
def parseArgumentsUptoCard : Claim7 := { stood := { row := parseArgumentsUptoRow, standIns := [], harness := (true, "cc38a0aede6206847b982b46de1d6fec414ae4b759e93d361b14c60bc6582390"), looks := false }, kinds := [], alts := [], laidByText := true, laidKinds := [.data, .data, .pinned], laidTests := true, laidLooks := .later }
def ParseArgumentsUptoCardSaid : Prop := Claim7.holds Tryd.pinned (.plain (OpenSpec.upto parseArgumentsSpec)) parseArgumentsUptoCard
end Rows
end Go.Proofs.YtdogoblnblkogaaDoor
