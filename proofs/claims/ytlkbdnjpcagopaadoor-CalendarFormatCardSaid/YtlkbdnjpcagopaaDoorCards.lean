/-
  DERIVED. GIVEN WITH THE SEED: THE CARDS: each row of YtlkbdnjpcagopaaDoorRows.lean that lists a variable, with what it lists TIED to the program's text (the seventh form; the later family's looks); each row that meets fmt, with fmt's text TOLD by the authors' own Lean function (tested against real Go, not proved from fmt's source: count such statements apart). THE CARD IS WHAT COUNTS. Prove the row's statement (the work); the ties are given (YtlkbdnjpcagopaaDoorTie.lean); close each card by the builder's one call (the guide's Derived/Test/ToyasCard.lean, 'card_holds'). Laid BY PROGRAM, IN A SANDBOX (cutbox-door.mjs). By AI agents, Wed Nov 11 2026. No macro, syntax, notation, axiom, sorry.
-/
import Derived.Test.YtlkbdnjpcagopaaDoorRows
import GoSem.ClaimSeven
namespace Go.Proofs.YtlkbdnjpcagopaaDoor
namespace Rows

/-- THE TIED CARD OF 'trclaw7.CalendarDates'. -/
def calendarDatesCard : Claim7 := { stood := { row := calendarDatesRow, standIns := [], harness := (true, "a8755a6ec459f2df87b4bcc8480072df656a06777a44f3e4f6719212559d9121"), looks := false }, kinds := [], alts := [], laidByText := true, laidKinds := [.data, .data, .data, .data, .data, .data], laidTests := true, laidLooks := .later }
def CalendarDatesCardSaid : Prop := Claim7.holds Tryd.pinned (.plain (OpenSpec.ofChange calendarDatesSpec)) calendarDatesCard

/-- THE TIED CARD OF 'trclaw7.CalendarInverse'. -/
def calendarInverseCard : Claim7 := { stood := { row := calendarInverseRow, standIns := [], harness := (true, "a8755a6ec459f2df87b4bcc8480072df656a06777a44f3e4f6719212559d9121"), looks := false }, kinds := [], alts := [], laidByText := true, laidKinds := [.data, .data, .data, .data, .data, .data], laidTests := true, laidLooks := .later }
def CalendarInverseCardSaid : Prop := Claim7.holds Tryd.pinned (.plain (OpenSpec.ofChange calendarInverseSpec)) calendarInverseCard

/-- THE TIED CARD OF 'trclaw7.CalendarStart'. -/
def calendarStartCard : Claim7 := { stood := { row := calendarStartRow, standIns := [], harness := (true, "a8755a6ec459f2df87b4bcc8480072df656a06777a44f3e4f6719212559d9121"), looks := false }, kinds := [], alts := [], laidByText := true, laidKinds := [.data, .data, .data, .data, .data, .data], laidTests := true, laidLooks := .later }
def CalendarStartCardSaid : Prop := Claim7.holds Tryd.pinned (.plain (OpenSpec.ofChange calendarStartSpec)) calendarStartCard

/-- THE TIED CARD OF 'trclaw7.CalendarNests'. -/
def calendarNestsCard : Claim7 := { stood := { row := calendarNestsRow, standIns := [], harness := (true, "a8755a6ec459f2df87b4bcc8480072df656a06777a44f3e4f6719212559d9121"), looks := false }, kinds := [], alts := [], laidByText := true, laidKinds := [.data, .data, .data, .data, .data, .data], laidTests := true, laidLooks := .later }
def CalendarNestsCardSaid : Prop := Claim7.holds Tryd.pinned (.plain (OpenSpec.ofChange calendarNestsSpec)) calendarNestsCard

/-- THE TIED CARD OF 'trclaw7.CalendarAdd'. -/
def calendarAddCard : Claim7 := { stood := { row := calendarAddRow, standIns := [], harness := (true, "a8755a6ec459f2df87b4bcc8480072df656a06777a44f3e4f6719212559d9121"), looks := false }, kinds := [], alts := [], laidByText := true, laidKinds := [.data, .data, .data, .data, .data, .data], laidTests := true, laidLooks := .later }
def CalendarAddCardSaid : Prop := Claim7.holds Tryd.pinned (.plain (OpenSpec.ofChange calendarAddSpec)) calendarAddCard

/-- THE TIED CARD OF 'trclaw7.CalendarMonths'. -/
def calendarMonthsCard : Claim7 := { stood := { row := calendarMonthsRow, standIns := [], harness := (true, "a8755a6ec459f2df87b4bcc8480072df656a06777a44f3e4f6719212559d9121"), looks := false }, kinds := [], alts := [], laidByText := true, laidKinds := [.data, .data, .data, .data, .data, .data], laidTests := true, laidLooks := .later }
def CalendarMonthsCardSaid : Prop := Claim7.holds Tryd.pinned (.plain (OpenSpec.ofChange calendarMonthsSpec)) calendarMonthsCard

/-- THE TIED CARD OF 'trclaw7.CalendarParse'. -/
def calendarParseCard : Claim7 := { stood := { row := calendarParseRow, standIns := [], harness := (true, "a8755a6ec459f2df87b4bcc8480072df656a06777a44f3e4f6719212559d9121"), looks := false }, kinds := [], alts := [], laidByText := true, laidKinds := [.data, .data, .data, .data, .data, .data], laidTests := true, laidLooks := .later }
def CalendarParseCardSaid : Prop := Claim7.holds Tryd.pinned (.plain (OpenSpec.ofChange calendarParseSpec)) calendarParseCard

/-- THE TIED CARD OF 'trclaw7.CalendarFormat'. -/
def calendarFormatCard : Claim7 := { stood := { row := calendarFormatRow, standIns := [], harness := (true, "a8755a6ec459f2df87b4bcc8480072df656a06777a44f3e4f6719212559d9121"), looks := false }, kinds := [], alts := [], laidByText := true, laidKinds := [.data, .data, .data, .data, .data, .data], laidTests := true, laidLooks := .later }
def CalendarFormatCardSaid : Prop := Claim7.holds Tryd.pinned (.plain (OpenSpec.ofChange calendarFormatSpec)) calendarFormatCard

/-- THE TIED CARD OF 'trclaw7.CalendarUnit'. -/
def calendarUnitCard : Claim7 := { stood := { row := calendarUnitRow, standIns := [], harness := (true, "a8755a6ec459f2df87b4bcc8480072df656a06777a44f3e4f6719212559d9121"), looks := false }, kinds := [], alts := [], laidByText := true, laidKinds := [.data, .data, .data, .data, .data, .data], laidTests := true, laidLooks := .later }
def CalendarUnitCardSaid : Prop := Claim7.holds Tryd.pinned (.plain (OpenSpec.ofChange calendarUnitSpec)) calendarUnitCard

/-- THE TIED CARD OF 'trclaw7.CalendarReads'. -/
def calendarReadsCard : Claim7 := { stood := { row := calendarReadsRow, standIns := [], harness := (true, "a8755a6ec459f2df87b4bcc8480072df656a06777a44f3e4f6719212559d9121"), looks := false }, kinds := [], alts := [], laidByText := true, laidKinds := [.data, .data, .data, .data, .data, .data], laidTests := true, laidLooks := .later }
def CalendarReadsCardSaid : Prop := Claim7.holds Tryd.pinned (.plain (OpenSpec.ofChange calendarReadsSpec)) calendarReadsCard

/-- THE SECOND FORM's CARD OF 'trclaw7.CalendarDates'. -/
def calendarDatesUptoCard : Claim7 := { stood := { row := calendarDatesUptoRow, standIns := [], harness := (true, "a8755a6ec459f2df87b4bcc8480072df656a06777a44f3e4f6719212559d9121"), looks := false }, kinds := [], alts := [], laidByText := true, laidKinds := [.data, .data, .data, .data, .data, .data], laidTests := true, laidLooks := .later }
def CalendarDatesUptoCardSaid : Prop := Claim7.holds Tryd.pinned (.plain (OpenSpec.upto calendarDatesSpec)) calendarDatesUptoCard

/-- THE SECOND FORM's CARD OF 'trclaw7.CalendarInverse'. -/
def calendarInverseUptoCard : Claim7 := { stood := { row := calendarInverseUptoRow, standIns := [], harness := (true, "a8755a6ec459f2df87b4bcc8480072df656a06777a44f3e4f6719212559d9121"), looks := false }, kinds := [], alts := [], laidByText := true, laidKinds := [.data, .data, .data, .data, .data, .data], laidTests := true, laidLooks := .later }
def CalendarInverseUptoCardSaid : Prop := Claim7.holds Tryd.pinned (.plain (OpenSpec.upto calendarInverseSpec)) calendarInverseUptoCard

/-- THE SECOND FORM's CARD OF 'trclaw7.CalendarStart'. -/
def calendarStartUptoCard : Claim7 := { stood := { row := calendarStartUptoRow, standIns := [], harness := (true, "a8755a6ec459f2df87b4bcc8480072df656a06777a44f3e4f6719212559d9121"), looks := false }, kinds := [], alts := [], laidByText := true, laidKinds := [.data, .data, .data, .data, .data, .data], laidTests := true, laidLooks := .later }
def CalendarStartUptoCardSaid : Prop := Claim7.holds Tryd.pinned (.plain (OpenSpec.upto calendarStartSpec)) calendarStartUptoCard

/-- THE SECOND FORM's CARD OF 'trclaw7.CalendarNests'. -/
def calendarNestsUptoCard : Claim7 := { stood := { row := calendarNestsUptoRow, standIns := [], harness := (true, "a8755a6ec459f2df87b4bcc8480072df656a06777a44f3e4f6719212559d9121"), looks := false }, kinds := [], alts := [], laidByText := true, laidKinds := [.data, .data, .data, .data, .data, .data], laidTests := true, laidLooks := .later }
def CalendarNestsUptoCardSaid : Prop := Claim7.holds Tryd.pinned (.plain (OpenSpec.upto calendarNestsSpec)) calendarNestsUptoCard

/-- THE SECOND FORM's CARD OF 'trclaw7.CalendarAdd'. -/
def calendarAddUptoCard : Claim7 := { stood := { row := calendarAddUptoRow, standIns := [], harness := (true, "a8755a6ec459f2df87b4bcc8480072df656a06777a44f3e4f6719212559d9121"), looks := false }, kinds := [], alts := [], laidByText := true, laidKinds := [.data, .data, .data, .data, .data, .data], laidTests := true, laidLooks := .later }
def CalendarAddUptoCardSaid : Prop := Claim7.holds Tryd.pinned (.plain (OpenSpec.upto calendarAddSpec)) calendarAddUptoCard

/-- THE SECOND FORM's CARD OF 'trclaw7.CalendarMonths'. -/
def calendarMonthsUptoCard : Claim7 := { stood := { row := calendarMonthsUptoRow, standIns := [], harness := (true, "a8755a6ec459f2df87b4bcc8480072df656a06777a44f3e4f6719212559d9121"), looks := false }, kinds := [], alts := [], laidByText := true, laidKinds := [.data, .data, .data, .data, .data, .data], laidTests := true, laidLooks := .later }
def CalendarMonthsUptoCardSaid : Prop := Claim7.holds Tryd.pinned (.plain (OpenSpec.upto calendarMonthsSpec)) calendarMonthsUptoCard

/-- THE SECOND FORM's CARD OF 'trclaw7.CalendarParse'. -/
def calendarParseUptoCard : Claim7 := { stood := { row := calendarParseUptoRow, standIns := [], harness := (true, "a8755a6ec459f2df87b4bcc8480072df656a06777a44f3e4f6719212559d9121"), looks := false }, kinds := [], alts := [], laidByText := true, laidKinds := [.data, .data, .data, .data, .data, .data], laidTests := true, laidLooks := .later }
def CalendarParseUptoCardSaid : Prop := Claim7.holds Tryd.pinned (.plain (OpenSpec.upto calendarParseSpec)) calendarParseUptoCard

/-- THE SECOND FORM's CARD OF 'trclaw7.CalendarFormat'. -/
def calendarFormatUptoCard : Claim7 := { stood := { row := calendarFormatUptoRow, standIns := [], harness := (true, "a8755a6ec459f2df87b4bcc8480072df656a06777a44f3e4f6719212559d9121"), looks := false }, kinds := [], alts := [], laidByText := true, laidKinds := [.data, .data, .data, .data, .data, .data], laidTests := true, laidLooks := .later }
def CalendarFormatUptoCardSaid : Prop := Claim7.holds Tryd.pinned (.plain (OpenSpec.upto calendarFormatSpec)) calendarFormatUptoCard

/-- THE SECOND FORM's CARD OF 'trclaw7.CalendarUnit'. -/
def calendarUnitUptoCard : Claim7 := { stood := { row := calendarUnitUptoRow, standIns := [], harness := (true, "a8755a6ec459f2df87b4bcc8480072df656a06777a44f3e4f6719212559d9121"), looks := false }, kinds := [], alts := [], laidByText := true, laidKinds := [.data, .data, .data, .data, .data, .data], laidTests := true, laidLooks := .later }
def CalendarUnitUptoCardSaid : Prop := Claim7.holds Tryd.pinned (.plain (OpenSpec.upto calendarUnitSpec)) calendarUnitUptoCard

/-- THE SECOND FORM's CARD OF 'trclaw7.CalendarReads'. -/
def calendarReadsUptoCard : Claim7 := { stood := { row := calendarReadsUptoRow, standIns := [], harness := (true, "a8755a6ec459f2df87b4bcc8480072df656a06777a44f3e4f6719212559d9121"), looks := false }, kinds := [], alts := [], laidByText := true, laidKinds := [.data, .data, .data, .data, .data, .data], laidTests := true, laidLooks := .later }
def CalendarReadsUptoCardSaid : Prop := Claim7.holds Tryd.pinned (.plain (OpenSpec.upto calendarReadsSpec)) calendarReadsUptoCard
end Rows
end Go.Proofs.YtlkbdnjpcagopaaDoor
