/-
  DERIVED. GIVEN WITH THE SEED: THE CARDS: each row of YtaallpfkgcndmaaDoorRows.lean that lists a variable, with what it lists TIED to the program's text (the seventh form; the later family's looks); each row that meets fmt, with fmt's text TOLD by the authors' own Lean function (tested against real Go, not proved from fmt's source: count such statements apart). THE CARD IS WHAT COUNTS. Prove the row's statement (the work); the ties are given (YtaallpfkgcndmaaDoorTie.lean); close each card by the builder's one call (the guide's Derived/Test/ToyasCard.lean, 'card_holds'). Laid BY PROGRAM, IN A SANDBOX (cutbox-door.mjs). By AI agents, Wed Nov 11 2026. No macro, syntax, notation, axiom, sorry.
-/
import Derived.Test.YtaallpfkgcndmaaDoorRows
import GoSem.ClaimSeven
namespace Go.Proofs.YtaallpfkgcndmaaDoor
namespace Rows

/-- THE TIED CARD OF 'trclaw10.ParameterBind'. -/
def parameterBindCard : Claim7 := { stood := { row := parameterBindRow, standIns := [], harness := (true, "b17ed0e30cfe44d544dfcba9526d8041cc32e1010146e7df52a2f03bc5831d04"), looks := false }, kinds := [], alts := [], laidByText := true, laidKinds := [.data, .data, .data, .data, .pinned], laidTests := true, laidLooks := .later }
def ParameterBindCardSaid : Prop := Claim7.holds Tryd.pinned (.plain (OpenSpec.ofChange parameterBindSpec)) parameterBindCard

/-- THE TIED CARD OF 'trclaw10.ParameterSorted'. -/
def parameterSortedCard : Claim7 := { stood := { row := parameterSortedRow, standIns := [], harness := (true, "b17ed0e30cfe44d544dfcba9526d8041cc32e1010146e7df52a2f03bc5831d04"), looks := false }, kinds := [], alts := [], laidByText := true, laidKinds := [.data, .data, .data, .data, .pinned], laidTests := true, laidLooks := .later }
def ParameterSortedCardSaid : Prop := Claim7.holds Tryd.pinned (.plain (OpenSpec.ofChange parameterSortedSpec)) parameterSortedCard

/-- THE TIED CARD OF 'trclaw10.ParameterGet'. -/
def parameterGetCard : Claim7 := { stood := { row := parameterGetRow, standIns := [], harness := (true, "b17ed0e30cfe44d544dfcba9526d8041cc32e1010146e7df52a2f03bc5831d04"), looks := false }, kinds := [], alts := [], laidByText := true, laidKinds := [.data, .data, .data, .data, .pinned], laidTests := true, laidLooks := .later }
def ParameterGetCardSaid : Prop := Claim7.holds Tryd.pinned (.plain (OpenSpec.ofChange parameterGetSpec)) parameterGetCard

/-- THE TIED CARD OF 'trclaw10.ParameterLast'. -/
def parameterLastCard : Claim7 := { stood := { row := parameterLastRow, standIns := [], harness := (true, "b17ed0e30cfe44d544dfcba9526d8041cc32e1010146e7df52a2f03bc5831d04"), looks := false }, kinds := [], alts := [], laidByText := true, laidKinds := [.data, .data, .data, .data, .pinned], laidTests := true, laidLooks := .later }
def ParameterLastCardSaid : Prop := Claim7.holds Tryd.pinned (.plain (OpenSpec.ofChange parameterLastSpec)) parameterLastCard

/-- THE TIED CARD OF 'trclaw10.ParameterPlaces'. -/
def parameterPlacesCard : Claim7 := { stood := { row := parameterPlacesRow, standIns := [], harness := (true, "b17ed0e30cfe44d544dfcba9526d8041cc32e1010146e7df52a2f03bc5831d04"), looks := false }, kinds := [], alts := [], laidByText := true, laidKinds := [.data, .data, .data, .data, .pinned], laidTests := true, laidLooks := .later }
def ParameterPlacesCardSaid : Prop := Claim7.holds Tryd.pinned (.plain (OpenSpec.ofChange parameterPlacesSpec)) parameterPlacesCard

/-- THE SECOND FORM's CARD OF 'trclaw10.ParameterBind'. -/
def parameterBindUptoCard : Claim7 := { stood := { row := parameterBindUptoRow, standIns := [], harness := (true, "b17ed0e30cfe44d544dfcba9526d8041cc32e1010146e7df52a2f03bc5831d04"), looks := false }, kinds := [], alts := [], laidByText := true, laidKinds := [.data, .data, .data, .data, .pinned], laidTests := true, laidLooks := .later }
def ParameterBindUptoCardSaid : Prop := Claim7.holds Tryd.pinned (.plain (OpenSpec.upto parameterBindSpec)) parameterBindUptoCard

/-- THE SECOND FORM's CARD OF 'trclaw10.ParameterSorted'. -/
def parameterSortedUptoCard : Claim7 := { stood := { row := parameterSortedUptoRow, standIns := [], harness := (true, "b17ed0e30cfe44d544dfcba9526d8041cc32e1010146e7df52a2f03bc5831d04"), looks := false }, kinds := [], alts := [], laidByText := true, laidKinds := [.data, .data, .data, .data, .pinned], laidTests := true, laidLooks := .later }
def ParameterSortedUptoCardSaid : Prop := Claim7.holds Tryd.pinned (.plain (OpenSpec.upto parameterSortedSpec)) parameterSortedUptoCard

/-- THE SECOND FORM's CARD OF 'trclaw10.ParameterGet'. -/
def parameterGetUptoCard : Claim7 := { stood := { row := parameterGetUptoRow, standIns := [], harness := (true, "b17ed0e30cfe44d544dfcba9526d8041cc32e1010146e7df52a2f03bc5831d04"), looks := false }, kinds := [], alts := [], laidByText := true, laidKinds := [.data, .data, .data, .data, .pinned], laidTests := true, laidLooks := .later }
def ParameterGetUptoCardSaid : Prop := Claim7.holds Tryd.pinned (.plain (OpenSpec.upto parameterGetSpec)) parameterGetUptoCard

/-- THE SECOND FORM's CARD OF 'trclaw10.ParameterLast'. -/
def parameterLastUptoCard : Claim7 := { stood := { row := parameterLastUptoRow, standIns := [], harness := (true, "b17ed0e30cfe44d544dfcba9526d8041cc32e1010146e7df52a2f03bc5831d04"), looks := false }, kinds := [], alts := [], laidByText := true, laidKinds := [.data, .data, .data, .data, .pinned], laidTests := true, laidLooks := .later }
def ParameterLastUptoCardSaid : Prop := Claim7.holds Tryd.pinned (.plain (OpenSpec.upto parameterLastSpec)) parameterLastUptoCard

/-- THE SECOND FORM's CARD OF 'trclaw10.ParameterPlaces'. -/
def parameterPlacesUptoCard : Claim7 := { stood := { row := parameterPlacesUptoRow, standIns := [], harness := (true, "b17ed0e30cfe44d544dfcba9526d8041cc32e1010146e7df52a2f03bc5831d04"), looks := false }, kinds := [], alts := [], laidByText := true, laidKinds := [.data, .data, .data, .data, .pinned], laidTests := true, laidLooks := .later }
def ParameterPlacesUptoCardSaid : Prop := Claim7.holds Tryd.pinned (.plain (OpenSpec.upto parameterPlacesSpec)) parameterPlacesUptoCard
end Rows
end Go.Proofs.YtaallpfkgcndmaaDoor
