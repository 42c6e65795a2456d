/-
  DERIVED. GIVEN WITH THE SEED: THE CARDS: each row of YtaapdhpfjiaeaaaDoorRows.lean that lists a variable, with what it lists TIED to the program's text (the seventh form; the later family's looks); each row that meets fmt, with fmt's text TOLD by the authors' own Lean function (tested against real Go, not proved from fmt's source: count such statements apart). THE CARD IS WHAT COUNTS. Prove the row's statement (the work); the ties are given (YtaapdhpfjiaeaaaDoorTie.lean); close each card by the builder's one call (the guide's Derived/Test/ToyasCard.lean, 'card_holds'). Laid BY PROGRAM, IN A SANDBOX (cutbox-door.mjs). By AI agents, Wed Nov 11 2026. No macro, syntax, notation, axiom, sorry.
-/
import Derived.Test.YtaapdhpfjiaeaaaDoorRows
import GoSem.ClaimSeven
namespace Go.Proofs.YtaapdhpfjiaeaaaDoor
namespace Rows

/-- THE TIED CARD OF 'trclaw1.TitleParse'. -/
def titleParseCard : Claim7 := { stood := { row := titleParseRow, standIns := [], harness := (true, "1a09071b68ad35c75e66818934679a0b8e433f9218a0a7098496eebe86220d7e"), looks := false }, kinds := [], alts := [], laidByText := true, laidKinds := [.data, .data, .pinned], laidTests := true, laidLooks := .later }
def TitleParseCardSaid : Prop := Claim7.holds Tryd.pinned (.plain (OpenSpec.ofChange titleParseSpec)) titleParseCard

/-- THE TIED CARD OF 'trclaw1.TitleFormat'. -/
def titleFormatCard : Claim7 := { stood := { row := titleFormatRow, standIns := [], harness := (true, "1a09071b68ad35c75e66818934679a0b8e433f9218a0a7098496eebe86220d7e"), looks := false }, kinds := [], alts := [], laidByText := true, laidKinds := [.data, .data, .pinned], laidTests := true, laidLooks := .later }
def TitleFormatCardSaid : Prop := Claim7.holds Tryd.pinned (.plain (OpenSpec.ofChange titleFormatSpec)) titleFormatCard

/-- THE TIED CARD OF 'trclaw1.TitleRoundTrip'. -/
def titleRoundTripCard : Claim7 := { stood := { row := titleRoundTripRow, standIns := [], harness := (true, "1a09071b68ad35c75e66818934679a0b8e433f9218a0a7098496eebe86220d7e"), looks := false }, kinds := [], alts := [], laidByText := true, laidKinds := [.data, .data, .pinned], laidTests := true, laidLooks := .later }
def TitleRoundTripCardSaid : Prop := Claim7.holds Tryd.pinned (.plain (OpenSpec.ofChange titleRoundTripSpec)) titleRoundTripCard

/-- THE TIED CARD OF 'trclaw1.TitleBlanks'. -/
def titleBlanksCard : Claim7 := { stood := { row := titleBlanksRow, standIns := [], harness := (true, "1a09071b68ad35c75e66818934679a0b8e433f9218a0a7098496eebe86220d7e"), looks := false }, kinds := [], alts := [], laidByText := true, laidKinds := [.data, .data, .pinned], laidTests := true, laidLooks := .later }
def TitleBlanksCardSaid : Prop := Claim7.holds Tryd.pinned (.plain (OpenSpec.ofChange titleBlanksSpec)) titleBlanksCard

/-- THE TIED CARD OF 'trclaw1.TitleSpaces'. -/
def titleSpacesCard : Claim7 := { stood := { row := titleSpacesRow, standIns := [], harness := (true, "1a09071b68ad35c75e66818934679a0b8e433f9218a0a7098496eebe86220d7e"), looks := false }, kinds := [], alts := [], laidByText := true, laidKinds := [.data, .data, .pinned], laidTests := true, laidLooks := .later }
def TitleSpacesCardSaid : Prop := Claim7.holds Tryd.pinned (.plain (OpenSpec.ofChange titleSpacesSpec)) titleSpacesCard

/-- THE TIED CARD OF 'trclaw1.TitleCompare'. -/
def titleCompareCard : Claim7 := { stood := { row := titleCompareRow, standIns := [], harness := (true, "1a09071b68ad35c75e66818934679a0b8e433f9218a0a7098496eebe86220d7e"), looks := false }, kinds := [], alts := [], laidByText := true, laidKinds := [.data, .data, .pinned], laidTests := true, laidLooks := .later }
def TitleCompareCardSaid : Prop := Claim7.holds Tryd.pinned (.plain (OpenSpec.ofChange titleCompareSpec)) titleCompareCard

/-- THE TIED CARD OF 'trclaw1.TitleAncestors'. -/
def titleAncestorsCard : Claim7 := { stood := { row := titleAncestorsRow, standIns := [], harness := (true, "1a09071b68ad35c75e66818934679a0b8e433f9218a0a7098496eebe86220d7e"), looks := false }, kinds := [], alts := [], laidByText := true, laidKinds := [.data, .data, .pinned], laidTests := true, laidLooks := .later }
def TitleAncestorsCardSaid : Prop := Claim7.holds Tryd.pinned (.plain (OpenSpec.ofChange titleAncestorsSpec)) titleAncestorsCard

/-- THE TIED CARD OF 'trclaw1.TitleResolve'. -/
def titleResolveCard : Claim7 := { stood := { row := titleResolveRow, standIns := [], harness := (true, "1a09071b68ad35c75e66818934679a0b8e433f9218a0a7098496eebe86220d7e"), looks := false }, kinds := [], alts := [], laidByText := true, laidKinds := [.data, .data, .pinned], laidTests := true, laidLooks := .later }
def TitleResolveCardSaid : Prop := Claim7.holds Tryd.pinned (.plain (OpenSpec.ofChange titleResolveSpec)) titleResolveCard

/-- THE TIED CARD OF 'trclaw1.TitleBelow'. -/
def titleBelowCard : Claim7 := { stood := { row := titleBelowRow, standIns := [], harness := (true, "1a09071b68ad35c75e66818934679a0b8e433f9218a0a7098496eebe86220d7e"), looks := false }, kinds := [], alts := [], laidByText := true, laidKinds := [.data, .data, .pinned], laidTests := true, laidLooks := .later }
def TitleBelowCardSaid : Prop := Claim7.holds Tryd.pinned (.plain (OpenSpec.ofChange titleBelowSpec)) titleBelowCard

/-- THE SECOND FORM's CARD OF 'trclaw1.TitleParse'. -/
def titleParseUptoCard : Claim7 := { stood := { row := titleParseUptoRow, standIns := [], harness := (true, "1a09071b68ad35c75e66818934679a0b8e433f9218a0a7098496eebe86220d7e"), looks := false }, kinds := [], alts := [], laidByText := true, laidKinds := [.data, .data, .pinned], laidTests := true, laidLooks := .later }
def TitleParseUptoCardSaid : Prop := Claim7.holds Tryd.pinned (.plain (OpenSpec.upto titleParseSpec)) titleParseUptoCard

/-- THE SECOND FORM's CARD OF 'trclaw1.TitleFormat'. -/
def titleFormatUptoCard : Claim7 := { stood := { row := titleFormatUptoRow, standIns := [], harness := (true, "1a09071b68ad35c75e66818934679a0b8e433f9218a0a7098496eebe86220d7e"), looks := false }, kinds := [], alts := [], laidByText := true, laidKinds := [.data, .data, .pinned], laidTests := true, laidLooks := .later }
def TitleFormatUptoCardSaid : Prop := Claim7.holds Tryd.pinned (.plain (OpenSpec.upto titleFormatSpec)) titleFormatUptoCard

/-- THE SECOND FORM's CARD OF 'trclaw1.TitleRoundTrip'. -/
def titleRoundTripUptoCard : Claim7 := { stood := { row := titleRoundTripUptoRow, standIns := [], harness := (true, "1a09071b68ad35c75e66818934679a0b8e433f9218a0a7098496eebe86220d7e"), looks := false }, kinds := [], alts := [], laidByText := true, laidKinds := [.data, .data, .pinned], laidTests := true, laidLooks := .later }
def TitleRoundTripUptoCardSaid : Prop := Claim7.holds Tryd.pinned (.plain (OpenSpec.upto titleRoundTripSpec)) titleRoundTripUptoCard

/-- THE SECOND FORM's CARD OF 'trclaw1.TitleBlanks'. -/
def titleBlanksUptoCard : Claim7 := { stood := { row := titleBlanksUptoRow, standIns := [], harness := (true, "1a09071b68ad35c75e66818934679a0b8e433f9218a0a7098496eebe86220d7e"), looks := false }, kinds := [], alts := [], laidByText := true, laidKinds := [.data, .data, .pinned], laidTests := true, laidLooks := .later }
def TitleBlanksUptoCardSaid : Prop := Claim7.holds Tryd.pinned (.plain (OpenSpec.upto titleBlanksSpec)) titleBlanksUptoCard

/-- THE SECOND FORM's CARD OF 'trclaw1.TitleSpaces'. -/
def titleSpacesUptoCard : Claim7 := { stood := { row := titleSpacesUptoRow, standIns := [], harness := (true, "1a09071b68ad35c75e66818934679a0b8e433f9218a0a7098496eebe86220d7e"), looks := false }, kinds := [], alts := [], laidByText := true, laidKinds := [.data, .data, .pinned], laidTests := true, laidLooks := .later }
def TitleSpacesUptoCardSaid : Prop := Claim7.holds Tryd.pinned (.plain (OpenSpec.upto titleSpacesSpec)) titleSpacesUptoCard

/-- THE SECOND FORM's CARD OF 'trclaw1.TitleCompare'. -/
def titleCompareUptoCard : Claim7 := { stood := { row := titleCompareUptoRow, standIns := [], harness := (true, "1a09071b68ad35c75e66818934679a0b8e433f9218a0a7098496eebe86220d7e"), looks := false }, kinds := [], alts := [], laidByText := true, laidKinds := [.data, .data, .pinned], laidTests := true, laidLooks := .later }
def TitleCompareUptoCardSaid : Prop := Claim7.holds Tryd.pinned (.plain (OpenSpec.upto titleCompareSpec)) titleCompareUptoCard

/-- THE SECOND FORM's CARD OF 'trclaw1.TitleAncestors'. -/
def titleAncestorsUptoCard : Claim7 := { stood := { row := titleAncestorsUptoRow, standIns := [], harness := (true, "1a09071b68ad35c75e66818934679a0b8e433f9218a0a7098496eebe86220d7e"), looks := false }, kinds := [], alts := [], laidByText := true, laidKinds := [.data, .data, .pinned], laidTests := true, laidLooks := .later }
def TitleAncestorsUptoCardSaid : Prop := Claim7.holds Tryd.pinned (.plain (OpenSpec.upto titleAncestorsSpec)) titleAncestorsUptoCard

/-- THE SECOND FORM's CARD OF 'trclaw1.TitleResolve'. -/
def titleResolveUptoCard : Claim7 := { stood := { row := titleResolveUptoRow, standIns := [], harness := (true, "1a09071b68ad35c75e66818934679a0b8e433f9218a0a7098496eebe86220d7e"), looks := false }, kinds := [], alts := [], laidByText := true, laidKinds := [.data, .data, .pinned], laidTests := true, laidLooks := .later }
def TitleResolveUptoCardSaid : Prop := Claim7.holds Tryd.pinned (.plain (OpenSpec.upto titleResolveSpec)) titleResolveUptoCard

/-- THE SECOND FORM's CARD OF 'trclaw1.TitleBelow'. -/
def titleBelowUptoCard : Claim7 := { stood := { row := titleBelowUptoRow, standIns := [], harness := (true, "1a09071b68ad35c75e66818934679a0b8e433f9218a0a7098496eebe86220d7e"), looks := false }, kinds := [], alts := [], laidByText := true, laidKinds := [.data, .data, .pinned], laidTests := true, laidLooks := .later }
def TitleBelowUptoCardSaid : Prop := Claim7.holds Tryd.pinned (.plain (OpenSpec.upto titleBelowSpec)) titleBelowUptoCard
end Rows
end Go.Proofs.YtaapdhpfjiaeaaaDoor
