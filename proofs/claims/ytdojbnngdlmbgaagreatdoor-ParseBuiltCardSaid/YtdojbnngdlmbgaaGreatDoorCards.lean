/-
  DERIVED. GIVEN WITH THE SEED: THE CARDS: each row of YtdojbnngdlmbgaaGreatDoorRows.lean that lists a variable, with what it lists TIED to the program's text (the seventh form; the later family's looks); each row that meets fmt, with fmt's text TOLD by the authors' own Lean function (tested against real Go, not proved from fmt's source: count such statements apart). THE CARD IS WHAT COUNTS. Prove the row's statement (the work); the ties are given (YtdojbnngdlmbgaaGreatDoorTie.lean); close each card by the builder's one call (the guide's Derived/Test/ToyasCard.lean, 'card_holds'). Laid BY PROGRAM, IN A SANDBOX (cutbox-door.mjs). By AI agents, Wed Nov 11 2026. No macro, syntax, notation, axiom, sorry.
-/
import Derived.Test.YtdojbnngdlmbgaaGreatDoorRows
import GoSem.ClaimSeven
namespace Go.Proofs.YtdojbnngdlmbgaaGreatDoor
namespace Rows

/-- THE TIED CARD OF 'trclaw4.ParseBuilt'. -/
def parseBuiltCard : Claim7 := { stood := { row := parseBuiltRow, standIns := [], harness := (true, "c2f6cb8f0e67138740672e9e3ed2e6f29c5046aa44a0bfe23f8a9033af4cbe41"), looks := false }, kinds := [], alts := [], laidByText := true, laidKinds := [.data, .data, .pinned], laidTests := true, laidLooks := .later }
def ParseBuiltCardSaid : Prop := Claim7.holds Tryz.pinned (.plain (OpenSpec.ofChange parseBuiltSpec)) parseBuiltCard

/-- THE TIED CARD OF 'trclaw5.SectionNests'. -/
def sectionNestsCard : Claim7 := { stood := { row := sectionNestsRow, standIns := [], harness := (true, "c2f6cb8f0e67138740672e9e3ed2e6f29c5046aa44a0bfe23f8a9033af4cbe41"), looks := false }, kinds := [], alts := [], laidByText := true, laidKinds := [.data, .data, .pinned], laidTests := true, laidLooks := .later }
def SectionNestsCardSaid : Prop := Claim7.holds Tryz.pinned (.plain (OpenSpec.ofChange sectionNestsSpec)) sectionNestsCard

/-- THE TIED CARD OF 'trclaw5.SectionFind'. -/
def sectionFindCard : Claim7 := { stood := { row := sectionFindRow, standIns := [], harness := (true, "c2f6cb8f0e67138740672e9e3ed2e6f29c5046aa44a0bfe23f8a9033af4cbe41"), looks := false }, kinds := [], alts := [], laidByText := true, laidKinds := [.data, .data, .pinned], laidTests := true, laidLooks := .later }
def SectionFindCardSaid : Prop := Claim7.holds Tryz.pinned (.plain (OpenSpec.ofChange sectionFindSpec)) sectionFindCard

/-- THE TIED CARD OF 'trclaw5.SectionSame'. -/
def sectionSameCard : Claim7 := { stood := { row := sectionSameRow, standIns := [], harness := (true, "c2f6cb8f0e67138740672e9e3ed2e6f29c5046aa44a0bfe23f8a9033af4cbe41"), looks := false }, kinds := [], alts := [], laidByText := true, laidKinds := [.data, .data, .pinned], laidTests := true, laidLooks := .later }
def SectionSameCardSaid : Prop := Claim7.holds Tryz.pinned (.plain (OpenSpec.ofChange sectionSameSpec)) sectionSameCard

/-- THE TIED CARD OF 'trclaw5.SectionHidden'. -/
def sectionHiddenCard : Claim7 := { stood := { row := sectionHiddenRow, standIns := [], harness := (true, "c2f6cb8f0e67138740672e9e3ed2e6f29c5046aa44a0bfe23f8a9033af4cbe41"), looks := false }, kinds := [], alts := [], laidByText := true, laidKinds := [.data, .data, .pinned], laidTests := true, laidLooks := .later }
def SectionHiddenCardSaid : Prop := Claim7.holds Tryz.pinned (.plain (OpenSpec.ofChange sectionHiddenSpec)) sectionHiddenCard

/-- THE TIED CARD OF 'trclaw5.SectionHeadings'. -/
def sectionHeadingsCard : Claim7 := { stood := { row := sectionHeadingsRow, standIns := [], harness := (true, "c2f6cb8f0e67138740672e9e3ed2e6f29c5046aa44a0bfe23f8a9033af4cbe41"), looks := false }, kinds := [], alts := [], laidByText := true, laidKinds := [.data, .data, .pinned], laidTests := true, laidLooks := .later }
def SectionHeadingsCardSaid : Prop := Claim7.holds Tryz.pinned (.plain (OpenSpec.ofChange sectionHeadingsSpec)) sectionHeadingsCard

/-- THE SECOND FORM's CARD OF 'trclaw4.ParseBuilt'. -/
def parseBuiltUptoCard : Claim7 := { stood := { row := parseBuiltUptoRow, standIns := [], harness := (true, "c2f6cb8f0e67138740672e9e3ed2e6f29c5046aa44a0bfe23f8a9033af4cbe41"), looks := false }, kinds := [], alts := [], laidByText := true, laidKinds := [.data, .data, .pinned], laidTests := true, laidLooks := .later }
def ParseBuiltUptoCardSaid : Prop := Claim7.holds Tryz.pinned (.plain (OpenSpec.upto parseBuiltSpec)) parseBuiltUptoCard

/-- THE SECOND FORM's CARD OF 'trclaw5.SectionNests'. -/
def sectionNestsUptoCard : Claim7 := { stood := { row := sectionNestsUptoRow, standIns := [], harness := (true, "c2f6cb8f0e67138740672e9e3ed2e6f29c5046aa44a0bfe23f8a9033af4cbe41"), looks := false }, kinds := [], alts := [], laidByText := true, laidKinds := [.data, .data, .pinned], laidTests := true, laidLooks := .later }
def SectionNestsUptoCardSaid : Prop := Claim7.holds Tryz.pinned (.plain (OpenSpec.upto sectionNestsSpec)) sectionNestsUptoCard

/-- THE SECOND FORM's CARD OF 'trclaw5.SectionFind'. -/
def sectionFindUptoCard : Claim7 := { stood := { row := sectionFindUptoRow, standIns := [], harness := (true, "c2f6cb8f0e67138740672e9e3ed2e6f29c5046aa44a0bfe23f8a9033af4cbe41"), looks := false }, kinds := [], alts := [], laidByText := true, laidKinds := [.data, .data, .pinned], laidTests := true, laidLooks := .later }
def SectionFindUptoCardSaid : Prop := Claim7.holds Tryz.pinned (.plain (OpenSpec.upto sectionFindSpec)) sectionFindUptoCard

/-- THE SECOND FORM's CARD OF 'trclaw5.SectionSame'. -/
def sectionSameUptoCard : Claim7 := { stood := { row := sectionSameUptoRow, standIns := [], harness := (true, "c2f6cb8f0e67138740672e9e3ed2e6f29c5046aa44a0bfe23f8a9033af4cbe41"), looks := false }, kinds := [], alts := [], laidByText := true, laidKinds := [.data, .data, .pinned], laidTests := true, laidLooks := .later }
def SectionSameUptoCardSaid : Prop := Claim7.holds Tryz.pinned (.plain (OpenSpec.upto sectionSameSpec)) sectionSameUptoCard

/-- THE SECOND FORM's CARD OF 'trclaw5.SectionHidden'. -/
def sectionHiddenUptoCard : Claim7 := { stood := { row := sectionHiddenUptoRow, standIns := [], harness := (true, "c2f6cb8f0e67138740672e9e3ed2e6f29c5046aa44a0bfe23f8a9033af4cbe41"), looks := false }, kinds := [], alts := [], laidByText := true, laidKinds := [.data, .data, .pinned], laidTests := true, laidLooks := .later }
def SectionHiddenUptoCardSaid : Prop := Claim7.holds Tryz.pinned (.plain (OpenSpec.upto sectionHiddenSpec)) sectionHiddenUptoCard

/-- THE SECOND FORM's CARD OF 'trclaw5.SectionHeadings'. -/
def sectionHeadingsUptoCard : Claim7 := { stood := { row := sectionHeadingsUptoRow, standIns := [], harness := (true, "c2f6cb8f0e67138740672e9e3ed2e6f29c5046aa44a0bfe23f8a9033af4cbe41"), looks := false }, kinds := [], alts := [], laidByText := true, laidKinds := [.data, .data, .pinned], laidTests := true, laidLooks := .later }
def SectionHeadingsUptoCardSaid : Prop := Claim7.holds Tryz.pinned (.plain (OpenSpec.upto sectionHeadingsSpec)) sectionHeadingsUptoCard
end Rows
end Go.Proofs.YtdojbnngdlmbgaaGreatDoor
