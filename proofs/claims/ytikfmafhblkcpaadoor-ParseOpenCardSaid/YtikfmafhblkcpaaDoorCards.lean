/-
  DERIVED. GIVEN WITH THE SEED: THE CARDS: each row of YtikfmafhblkcpaaDoorRows.lean that lists a variable, with what it lists TIED to the program's text (the seventh form; the later family's looks); each row that meets fmt, with fmt's text TOLD by the authors' own Lean function (tested against real Go, not proved from fmt's source: count such statements apart). THE CARD IS WHAT COUNTS. Prove the row's statement (the work); the ties are given (YtikfmafhblkcpaaDoorTie.lean); close each card by the builder's one call (the guide's Derived/Test/ToyasCard.lean, 'card_holds'). Laid BY PROGRAM, IN A SANDBOX (cutbox-door.mjs). By AI agents, Wed Nov 11 2026. No macro, syntax, notation, axiom, sorry.
-/
import Derived.Test.YtikfmafhblkcpaaDoorRows
import GoSem.ClaimSeven
namespace Go.Proofs.YtikfmafhblkcpaaDoor
namespace Rows

/-- THE TIED CARD OF 'trclaw4.ParseExact'. -/
def parseExactCard : Claim7 := { stood := { row := parseExactRow, standIns := [], harness := (true, "ddc944946a7246bfe70d99f036ccfdae7853e62ab2c33bb015b382620deaeba1"), looks := false }, kinds := [], alts := [], laidByText := true, laidKinds := [.data, .data, .pinned], laidTests := true, laidLooks := .later }
def ParseExactCardSaid : Prop := Claim7.holds Tryd.pinned (.plain (OpenSpec.ofChange parseExactSpec)) parseExactCard

/-- THE TIED CARD OF 'trclaw4.ParseKeeps'. -/
def parseKeepsCard : Claim7 := { stood := { row := parseKeepsRow, standIns := [], harness := (true, "ddc944946a7246bfe70d99f036ccfdae7853e62ab2c33bb015b382620deaeba1"), looks := false }, kinds := [], alts := [], laidByText := true, laidKinds := [.data, .data, .pinned], laidTests := true, laidLooks := .later }
def ParseKeepsCardSaid : Prop := Claim7.holds Tryd.pinned (.plain (OpenSpec.ofChange parseKeepsSpec)) parseKeepsCard

/-- THE TIED CARD OF 'trclaw4.ParseJoined'. -/
def parseJoinedCard : Claim7 := { stood := { row := parseJoinedRow, standIns := [], harness := (true, "ddc944946a7246bfe70d99f036ccfdae7853e62ab2c33bb015b382620deaeba1"), looks := false }, kinds := [], alts := [], laidByText := true, laidKinds := [.data, .data, .pinned], laidTests := true, laidLooks := .later }
def ParseJoinedCardSaid : Prop := Claim7.holds Tryd.pinned (.plain (OpenSpec.ofChange parseJoinedSpec)) parseJoinedCard

/-- THE TIED CARD OF 'trclaw4.ParseText'. -/
def parseTextCard : Claim7 := { stood := { row := parseTextRow, standIns := [], harness := (true, "ddc944946a7246bfe70d99f036ccfdae7853e62ab2c33bb015b382620deaeba1"), looks := false }, kinds := [], alts := [], laidByText := true, laidKinds := [.data, .data, .pinned], laidTests := true, laidLooks := .later }
def ParseTextCardSaid : Prop := Claim7.holds Tryd.pinned (.plain (OpenSpec.ofChange parseTextSpec)) parseTextCard

/-- THE TIED CARD OF 'trclaw4.ParseNests'. -/
def parseNestsCard : Claim7 := { stood := { row := parseNestsRow, standIns := [], harness := (true, "ddc944946a7246bfe70d99f036ccfdae7853e62ab2c33bb015b382620deaeba1"), looks := false }, kinds := [], alts := [], laidByText := true, laidKinds := [.data, .data, .pinned], laidTests := true, laidLooks := .later }
def ParseNestsCardSaid : Prop := Claim7.holds Tryd.pinned (.plain (OpenSpec.ofChange parseNestsSpec)) parseNestsCard

/-- THE TIED CARD OF 'trclaw4.ParseRuns'. -/
def parseRunsCard : Claim7 := { stood := { row := parseRunsRow, standIns := [], harness := (true, "ddc944946a7246bfe70d99f036ccfdae7853e62ab2c33bb015b382620deaeba1"), looks := false }, kinds := [], alts := [], laidByText := true, laidKinds := [.data, .data, .pinned], laidTests := true, laidLooks := .later }
def ParseRunsCardSaid : Prop := Claim7.holds Tryd.pinned (.plain (OpenSpec.ofChange parseRunsSpec)) parseRunsCard

/-- THE TIED CARD OF 'trclaw4.ParseTags'. -/
def parseTagsCard : Claim7 := { stood := { row := parseTagsRow, standIns := [], harness := (true, "ddc944946a7246bfe70d99f036ccfdae7853e62ab2c33bb015b382620deaeba1"), looks := false }, kinds := [], alts := [], laidByText := true, laidKinds := [.data, .data, .pinned], laidTests := true, laidLooks := .later }
def ParseTagsCardSaid : Prop := Claim7.holds Tryd.pinned (.plain (OpenSpec.ofChange parseTagsSpec)) parseTagsCard

/-- THE TIED CARD OF 'trclaw4.ParseArguments'. -/
def parseArgumentsCard : Claim7 := { stood := { row := parseArgumentsRow, standIns := [], harness := (true, "ddc944946a7246bfe70d99f036ccfdae7853e62ab2c33bb015b382620deaeba1"), looks := false }, kinds := [], alts := [], laidByText := true, laidKinds := [.data, .data, .pinned], laidTests := true, laidLooks := .later }
def ParseArgumentsCardSaid : Prop := Claim7.holds Tryd.pinned (.plain (OpenSpec.ofChange parseArgumentsSpec)) parseArgumentsCard

/-- THE TIED CARD OF 'trclaw4.ParseOpen'. -/
def parseOpenCard : Claim7 := { stood := { row := parseOpenRow, standIns := [], harness := (true, "ddc944946a7246bfe70d99f036ccfdae7853e62ab2c33bb015b382620deaeba1"), looks := false }, kinds := [], alts := [], laidByText := true, laidKinds := [.data, .data, .pinned], laidTests := true, laidLooks := .later }
def ParseOpenCardSaid : Prop := Claim7.holds Tryd.pinned (.plain (OpenSpec.ofChange parseOpenSpec)) parseOpenCard

/-- THE SECOND FORM's CARD OF 'trclaw4.ParseExact'. -/
def parseExactUptoCard : Claim7 := { stood := { row := parseExactUptoRow, standIns := [], harness := (true, "ddc944946a7246bfe70d99f036ccfdae7853e62ab2c33bb015b382620deaeba1"), looks := false }, kinds := [], alts := [], laidByText := true, laidKinds := [.data, .data, .pinned], laidTests := true, laidLooks := .later }
def ParseExactUptoCardSaid : Prop := Claim7.holds Tryd.pinned (.plain (OpenSpec.upto parseExactSpec)) parseExactUptoCard

/-- THE SECOND FORM's CARD OF 'trclaw4.ParseKeeps'. -/
def parseKeepsUptoCard : Claim7 := { stood := { row := parseKeepsUptoRow, standIns := [], harness := (true, "ddc944946a7246bfe70d99f036ccfdae7853e62ab2c33bb015b382620deaeba1"), looks := false }, kinds := [], alts := [], laidByText := true, laidKinds := [.data, .data, .pinned], laidTests := true, laidLooks := .later }
def ParseKeepsUptoCardSaid : Prop := Claim7.holds Tryd.pinned (.plain (OpenSpec.upto parseKeepsSpec)) parseKeepsUptoCard

/-- THE SECOND FORM's CARD OF 'trclaw4.ParseJoined'. -/
def parseJoinedUptoCard : Claim7 := { stood := { row := parseJoinedUptoRow, standIns := [], harness := (true, "ddc944946a7246bfe70d99f036ccfdae7853e62ab2c33bb015b382620deaeba1"), looks := false }, kinds := [], alts := [], laidByText := true, laidKinds := [.data, .data, .pinned], laidTests := true, laidLooks := .later }
def ParseJoinedUptoCardSaid : Prop := Claim7.holds Tryd.pinned (.plain (OpenSpec.upto parseJoinedSpec)) parseJoinedUptoCard

/-- THE SECOND FORM's CARD OF 'trclaw4.ParseText'. -/
def parseTextUptoCard : Claim7 := { stood := { row := parseTextUptoRow, standIns := [], harness := (true, "ddc944946a7246bfe70d99f036ccfdae7853e62ab2c33bb015b382620deaeba1"), looks := false }, kinds := [], alts := [], laidByText := true, laidKinds := [.data, .data, .pinned], laidTests := true, laidLooks := .later }
def ParseTextUptoCardSaid : Prop := Claim7.holds Tryd.pinned (.plain (OpenSpec.upto parseTextSpec)) parseTextUptoCard

/-- THE SECOND FORM's CARD OF 'trclaw4.ParseNests'. -/
def parseNestsUptoCard : Claim7 := { stood := { row := parseNestsUptoRow, standIns := [], harness := (true, "ddc944946a7246bfe70d99f036ccfdae7853e62ab2c33bb015b382620deaeba1"), looks := false }, kinds := [], alts := [], laidByText := true, laidKinds := [.data, .data, .pinned], laidTests := true, laidLooks := .later }
def ParseNestsUptoCardSaid : Prop := Claim7.holds Tryd.pinned (.plain (OpenSpec.upto parseNestsSpec)) parseNestsUptoCard

/-- THE SECOND FORM's CARD OF 'trclaw4.ParseRuns'. -/
def parseRunsUptoCard : Claim7 := { stood := { row := parseRunsUptoRow, standIns := [], harness := (true, "ddc944946a7246bfe70d99f036ccfdae7853e62ab2c33bb015b382620deaeba1"), looks := false }, kinds := [], alts := [], laidByText := true, laidKinds := [.data, .data, .pinned], laidTests := true, laidLooks := .later }
def ParseRunsUptoCardSaid : Prop := Claim7.holds Tryd.pinned (.plain (OpenSpec.upto parseRunsSpec)) parseRunsUptoCard

/-- THE SECOND FORM's CARD OF 'trclaw4.ParseTags'. -/
def parseTagsUptoCard : Claim7 := { stood := { row := parseTagsUptoRow, standIns := [], harness := (true, "ddc944946a7246bfe70d99f036ccfdae7853e62ab2c33bb015b382620deaeba1"), looks := false }, kinds := [], alts := [], laidByText := true, laidKinds := [.data, .data, .pinned], laidTests := true, laidLooks := .later }
def ParseTagsUptoCardSaid : Prop := Claim7.holds Tryd.pinned (.plain (OpenSpec.upto parseTagsSpec)) parseTagsUptoCard

/-- THE SECOND FORM's CARD OF 'trclaw4.ParseArguments'. -/
def parseArgumentsUptoCard : Claim7 := { stood := { row := parseArgumentsUptoRow, standIns := [], harness := (true, "ddc944946a7246bfe70d99f036ccfdae7853e62ab2c33bb015b382620deaeba1"), looks := false }, kinds := [], alts := [], laidByText := true, laidKinds := [.data, .data, .pinned], laidTests := true, laidLooks := .later }
def ParseArgumentsUptoCardSaid : Prop := Claim7.holds Tryd.pinned (.plain (OpenSpec.upto parseArgumentsSpec)) parseArgumentsUptoCard

/-- THE SECOND FORM's CARD OF 'trclaw4.ParseOpen'. -/
def parseOpenUptoCard : Claim7 := { stood := { row := parseOpenUptoRow, standIns := [], harness := (true, "ddc944946a7246bfe70d99f036ccfdae7853e62ab2c33bb015b382620deaeba1"), looks := false }, kinds := [], alts := [], laidByText := true, laidKinds := [.data, .data, .pinned], laidTests := true, laidLooks := .later }
def ParseOpenUptoCardSaid : Prop := Claim7.holds Tryd.pinned (.plain (OpenSpec.upto parseOpenSpec)) parseOpenUptoCard
end Rows
end Go.Proofs.YtikfmafhblkcpaaDoor
