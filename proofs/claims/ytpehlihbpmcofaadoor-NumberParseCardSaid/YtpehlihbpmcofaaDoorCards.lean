/-
  DERIVED. GIVEN WITH THE SEED: THE CARDS: each row of YtpehlihbpmcofaaDoorRows.lean that lists a variable, with what it lists TIED to the program's text (the seventh form; the later family's looks); each row that meets fmt, with fmt's text TOLD by the authors' own Lean function (tested against real Go, not proved from fmt's source: count such statements apart). THE CARD IS WHAT COUNTS. Prove the row's statement (the work); the ties are given (YtpehlihbpmcofaaDoorTie.lean); close each card by the builder's one call (the guide's Derived/Test/ToyasCard.lean, 'card_holds'). Laid BY PROGRAM, IN A SANDBOX (cutbox-door.mjs). By AI agents, Wed Nov 11 2026. No macro, syntax, notation, axiom, sorry.
-/
import Derived.Test.YtpehlihbpmcofaaDoorRows
import GoSem.ClaimSeven
namespace Go.Proofs.YtpehlihbpmcofaaDoor
namespace Rows

/-- THE TIED CARD OF 'trclaw6.NumberMake'. -/
def numberMakeCard : Claim7 := { stood := { row := numberMakeRow, standIns := [], harness := (true, "02966ba2168fa41d7e9f15a5243581d89d61e6d2ad3dbf577f925820fe8a747c"), looks := false }, kinds := [], alts := [], laidByText := true, laidKinds := [.data, .data, .data], laidTests := true, laidLooks := .later }
def NumberMakeCardSaid : Prop := Claim7.holds Tryd.pinned (.plain (OpenSpec.ofChange numberMakeSpec)) numberMakeCard

/-- THE TIED CARD OF 'trclaw6.NumberOperations'. -/
def numberOperationsCard : Claim7 := { stood := { row := numberOperationsRow, standIns := [], harness := (true, "02966ba2168fa41d7e9f15a5243581d89d61e6d2ad3dbf577f925820fe8a747c"), looks := false }, kinds := [], alts := [], laidByText := true, laidKinds := [.data, .data, .data], laidTests := true, laidLooks := .later }
def NumberOperationsCardSaid : Prop := Claim7.holds Tryd.pinned (.plain (OpenSpec.ofChange numberOperationsSpec)) numberOperationsCard

/-- THE TIED CARD OF 'trclaw6.NumberRounds'. -/
def numberRoundsCard : Claim7 := { stood := { row := numberRoundsRow, standIns := [], harness := (true, "02966ba2168fa41d7e9f15a5243581d89d61e6d2ad3dbf577f925820fe8a747c"), looks := false }, kinds := [], alts := [], laidByText := true, laidKinds := [.data, .data, .data], laidTests := true, laidLooks := .later }
def NumberRoundsCardSaid : Prop := Claim7.holds Tryd.pinned (.plain (OpenSpec.ofChange numberRoundsSpec)) numberRoundsCard

/-- THE TIED CARD OF 'trclaw6.NumberParse'. -/
def numberParseCard : Claim7 := { stood := { row := numberParseRow, standIns := [], harness := (true, "02966ba2168fa41d7e9f15a5243581d89d61e6d2ad3dbf577f925820fe8a747c"), looks := false }, kinds := [], alts := [], laidByText := true, laidKinds := [.data, .data, .data], laidTests := true, laidLooks := .later }
def NumberParseCardSaid : Prop := Claim7.holds Tryd.pinned (.plain (OpenSpec.ofChange numberParseSpec)) numberParseCard

/-- THE TIED CARD OF 'trclaw6.NumberFormat'. -/
def numberFormatCard : Claim7 := { stood := { row := numberFormatRow, standIns := [], harness := (true, "02966ba2168fa41d7e9f15a5243581d89d61e6d2ad3dbf577f925820fe8a747c"), looks := false }, kinds := [], alts := [], laidByText := true, laidKinds := [.data, .data, .data], laidTests := true, laidLooks := .later }
def NumberFormatCardSaid : Prop := Claim7.holds Tryd.pinned (.plain (OpenSpec.ofChange numberFormatSpec)) numberFormatCard

/-- THE TIED CARD OF 'trclaw6.NumberDigits'. -/
def numberDigitsCard : Claim7 := { stood := { row := numberDigitsRow, standIns := [], harness := (true, "02966ba2168fa41d7e9f15a5243581d89d61e6d2ad3dbf577f925820fe8a747c"), looks := false }, kinds := [], alts := [], laidByText := true, laidKinds := [.data, .data, .data], laidTests := true, laidLooks := .later }
def NumberDigitsCardSaid : Prop := Claim7.holds Tryd.pinned (.plain (OpenSpec.ofChange numberDigitsSpec)) numberDigitsCard

/-- THE TIED CARD OF 'trclaw6.NumberRing'. -/
def numberRingCard : Claim7 := { stood := { row := numberRingRow, standIns := [], harness := (true, "02966ba2168fa41d7e9f15a5243581d89d61e6d2ad3dbf577f925820fe8a747c"), looks := false }, kinds := [], alts := [], laidByText := true, laidKinds := [.data, .data, .data], laidTests := true, laidLooks := .later }
def NumberRingCardSaid : Prop := Claim7.holds Tryd.pinned (.plain (OpenSpec.ofChange numberRingSpec)) numberRingCard

/-- THE TIED CARD OF 'trclaw6.NumberInverse'. -/
def numberInverseCard : Claim7 := { stood := { row := numberInverseRow, standIns := [], harness := (true, "02966ba2168fa41d7e9f15a5243581d89d61e6d2ad3dbf577f925820fe8a747c"), looks := false }, kinds := [], alts := [], laidByText := true, laidKinds := [.data, .data, .data], laidTests := true, laidLooks := .later }
def NumberInverseCardSaid : Prop := Claim7.holds Tryd.pinned (.plain (OpenSpec.ofChange numberInverseSpec)) numberInverseCard

/-- THE TIED CARD OF 'trclaw6.NumberMod'. -/
def numberModCard : Claim7 := { stood := { row := numberModRow, standIns := [], harness := (true, "02966ba2168fa41d7e9f15a5243581d89d61e6d2ad3dbf577f925820fe8a747c"), looks := false }, kinds := [], alts := [], laidByText := true, laidKinds := [.data, .data, .data], laidTests := true, laidLooks := .later }
def NumberModCardSaid : Prop := Claim7.holds Tryd.pinned (.plain (OpenSpec.ofChange numberModSpec)) numberModCard

/-- THE TIED CARD OF 'trclaw6.NumberNearest'. -/
def numberNearestCard : Claim7 := { stood := { row := numberNearestRow, standIns := [], harness := (true, "02966ba2168fa41d7e9f15a5243581d89d61e6d2ad3dbf577f925820fe8a747c"), looks := false }, kinds := [], alts := [], laidByText := true, laidKinds := [.data, .data, .data], laidTests := true, laidLooks := .later }
def NumberNearestCardSaid : Prop := Claim7.holds Tryd.pinned (.plain (OpenSpec.ofChange numberNearestSpec)) numberNearestCard

/-- THE TIED CARD OF 'trclaw6.NumberOrder'. -/
def numberOrderCard : Claim7 := { stood := { row := numberOrderRow, standIns := [], harness := (true, "02966ba2168fa41d7e9f15a5243581d89d61e6d2ad3dbf577f925820fe8a747c"), looks := false }, kinds := [], alts := [], laidByText := true, laidKinds := [.data, .data, .data], laidTests := true, laidLooks := .later }
def NumberOrderCardSaid : Prop := Claim7.holds Tryd.pinned (.plain (OpenSpec.ofChange numberOrderSpec)) numberOrderCard

/-- THE SECOND FORM's CARD OF 'trclaw6.NumberMake'. -/
def numberMakeUptoCard : Claim7 := { stood := { row := numberMakeUptoRow, standIns := [], harness := (true, "02966ba2168fa41d7e9f15a5243581d89d61e6d2ad3dbf577f925820fe8a747c"), looks := false }, kinds := [], alts := [], laidByText := true, laidKinds := [.data, .data, .data], laidTests := true, laidLooks := .later }
def NumberMakeUptoCardSaid : Prop := Claim7.holds Tryd.pinned (.plain (OpenSpec.upto numberMakeSpec)) numberMakeUptoCard

/-- THE SECOND FORM's CARD OF 'trclaw6.NumberOperations'. -/
def numberOperationsUptoCard : Claim7 := { stood := { row := numberOperationsUptoRow, standIns := [], harness := (true, "02966ba2168fa41d7e9f15a5243581d89d61e6d2ad3dbf577f925820fe8a747c"), looks := false }, kinds := [], alts := [], laidByText := true, laidKinds := [.data, .data, .data], laidTests := true, laidLooks := .later }
def NumberOperationsUptoCardSaid : Prop := Claim7.holds Tryd.pinned (.plain (OpenSpec.upto numberOperationsSpec)) numberOperationsUptoCard

/-- THE SECOND FORM's CARD OF 'trclaw6.NumberRounds'. -/
def numberRoundsUptoCard : Claim7 := { stood := { row := numberRoundsUptoRow, standIns := [], harness := (true, "02966ba2168fa41d7e9f15a5243581d89d61e6d2ad3dbf577f925820fe8a747c"), looks := false }, kinds := [], alts := [], laidByText := true, laidKinds := [.data, .data, .data], laidTests := true, laidLooks := .later }
def NumberRoundsUptoCardSaid : Prop := Claim7.holds Tryd.pinned (.plain (OpenSpec.upto numberRoundsSpec)) numberRoundsUptoCard

/-- THE SECOND FORM's CARD OF 'trclaw6.NumberParse'. -/
def numberParseUptoCard : Claim7 := { stood := { row := numberParseUptoRow, standIns := [], harness := (true, "02966ba2168fa41d7e9f15a5243581d89d61e6d2ad3dbf577f925820fe8a747c"), looks := false }, kinds := [], alts := [], laidByText := true, laidKinds := [.data, .data, .data], laidTests := true, laidLooks := .later }
def NumberParseUptoCardSaid : Prop := Claim7.holds Tryd.pinned (.plain (OpenSpec.upto numberParseSpec)) numberParseUptoCard

/-- THE SECOND FORM's CARD OF 'trclaw6.NumberFormat'. -/
def numberFormatUptoCard : Claim7 := { stood := { row := numberFormatUptoRow, standIns := [], harness := (true, "02966ba2168fa41d7e9f15a5243581d89d61e6d2ad3dbf577f925820fe8a747c"), looks := false }, kinds := [], alts := [], laidByText := true, laidKinds := [.data, .data, .data], laidTests := true, laidLooks := .later }
def NumberFormatUptoCardSaid : Prop := Claim7.holds Tryd.pinned (.plain (OpenSpec.upto numberFormatSpec)) numberFormatUptoCard

/-- THE SECOND FORM's CARD OF 'trclaw6.NumberDigits'. -/
def numberDigitsUptoCard : Claim7 := { stood := { row := numberDigitsUptoRow, standIns := [], harness := (true, "02966ba2168fa41d7e9f15a5243581d89d61e6d2ad3dbf577f925820fe8a747c"), looks := false }, kinds := [], alts := [], laidByText := true, laidKinds := [.data, .data, .data], laidTests := true, laidLooks := .later }
def NumberDigitsUptoCardSaid : Prop := Claim7.holds Tryd.pinned (.plain (OpenSpec.upto numberDigitsSpec)) numberDigitsUptoCard

/-- THE SECOND FORM's CARD OF 'trclaw6.NumberRing'. -/
def numberRingUptoCard : Claim7 := { stood := { row := numberRingUptoRow, standIns := [], harness := (true, "02966ba2168fa41d7e9f15a5243581d89d61e6d2ad3dbf577f925820fe8a747c"), looks := false }, kinds := [], alts := [], laidByText := true, laidKinds := [.data, .data, .data], laidTests := true, laidLooks := .later }
def NumberRingUptoCardSaid : Prop := Claim7.holds Tryd.pinned (.plain (OpenSpec.upto numberRingSpec)) numberRingUptoCard

/-- THE SECOND FORM's CARD OF 'trclaw6.NumberInverse'. -/
def numberInverseUptoCard : Claim7 := { stood := { row := numberInverseUptoRow, standIns := [], harness := (true, "02966ba2168fa41d7e9f15a5243581d89d61e6d2ad3dbf577f925820fe8a747c"), looks := false }, kinds := [], alts := [], laidByText := true, laidKinds := [.data, .data, .data], laidTests := true, laidLooks := .later }
def NumberInverseUptoCardSaid : Prop := Claim7.holds Tryd.pinned (.plain (OpenSpec.upto numberInverseSpec)) numberInverseUptoCard

/-- THE SECOND FORM's CARD OF 'trclaw6.NumberMod'. -/
def numberModUptoCard : Claim7 := { stood := { row := numberModUptoRow, standIns := [], harness := (true, "02966ba2168fa41d7e9f15a5243581d89d61e6d2ad3dbf577f925820fe8a747c"), looks := false }, kinds := [], alts := [], laidByText := true, laidKinds := [.data, .data, .data], laidTests := true, laidLooks := .later }
def NumberModUptoCardSaid : Prop := Claim7.holds Tryd.pinned (.plain (OpenSpec.upto numberModSpec)) numberModUptoCard

/-- THE SECOND FORM's CARD OF 'trclaw6.NumberNearest'. -/
def numberNearestUptoCard : Claim7 := { stood := { row := numberNearestUptoRow, standIns := [], harness := (true, "02966ba2168fa41d7e9f15a5243581d89d61e6d2ad3dbf577f925820fe8a747c"), looks := false }, kinds := [], alts := [], laidByText := true, laidKinds := [.data, .data, .data], laidTests := true, laidLooks := .later }
def NumberNearestUptoCardSaid : Prop := Claim7.holds Tryd.pinned (.plain (OpenSpec.upto numberNearestSpec)) numberNearestUptoCard

/-- THE SECOND FORM's CARD OF 'trclaw6.NumberOrder'. -/
def numberOrderUptoCard : Claim7 := { stood := { row := numberOrderUptoRow, standIns := [], harness := (true, "02966ba2168fa41d7e9f15a5243581d89d61e6d2ad3dbf577f925820fe8a747c"), looks := false }, kinds := [], alts := [], laidByText := true, laidKinds := [.data, .data, .data], laidTests := true, laidLooks := .later }
def NumberOrderUptoCardSaid : Prop := Claim7.holds Tryd.pinned (.plain (OpenSpec.upto numberOrderSpec)) numberOrderUptoCard
end Rows
end Go.Proofs.YtpehlihbpmcofaaDoor
