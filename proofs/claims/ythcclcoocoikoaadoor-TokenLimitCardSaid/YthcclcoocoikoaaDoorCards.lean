/-
  DERIVED. GIVEN WITH THE SEED: THE CARDS: each row of YthcclcoocoikoaaDoorRows.lean that lists a variable, with what it lists TIED to the program's text (the seventh form; the later family's looks); each row that meets fmt, with fmt's text TOLD by the authors' own Lean function (tested against real Go, not proved from fmt's source: count such statements apart). THE CARD IS WHAT COUNTS. Prove the row's statement (the work); the ties are given (YthcclcoocoikoaaDoorTie.lean); close each card by the builder's one call (the guide's Derived/Test/ToyasCard.lean, 'card_holds'). Laid BY PROGRAM, IN A SANDBOX (cutbox-door.mjs). By AI agents, Wed Nov 11 2026. No macro, syntax, notation, axiom, sorry.
-/
import Derived.Test.YthcclcoocoikoaaDoorRows
import GoSem.ClaimSeven
namespace Go.Proofs.YthcclcoocoikoaaDoor
namespace Rows

/-- THE TIED CARD OF 'trclaw2.TokenScan'. -/
def tokenScanCard : Claim7 := { stood := { row := tokenScanRow, standIns := [], harness := (true, "d7d41905c8f62e0259cb563014ccefe26b15171e53ed5ddfed2f4c4c12370856"), looks := false }, kinds := [], alts := [], laidByText := true, laidKinds := [.data, .data, .pinned], laidTests := true, laidLooks := .later }
def TokenScanCardSaid : Prop := Claim7.holds Tryd.pinned (.plain (OpenSpec.ofChange tokenScanSpec)) tokenScanCard

/-- THE TIED CARD OF 'trclaw2.TokenCovers'. -/
def tokenCoversCard : Claim7 := { stood := { row := tokenCoversRow, standIns := [], harness := (true, "d7d41905c8f62e0259cb563014ccefe26b15171e53ed5ddfed2f4c4c12370856"), looks := false }, kinds := [], alts := [], laidByText := true, laidKinds := [.data, .data, .pinned], laidTests := true, laidLooks := .later }
def TokenCoversCardSaid : Prop := Claim7.holds Tryd.pinned (.plain (OpenSpec.ofChange tokenCoversSpec)) tokenCoversCard

/-- THE TIED CARD OF 'trclaw2.TokenAlone'. -/
def tokenAloneCard : Claim7 := { stood := { row := tokenAloneRow, standIns := [], harness := (true, "d7d41905c8f62e0259cb563014ccefe26b15171e53ed5ddfed2f4c4c12370856"), looks := false }, kinds := [], alts := [], laidByText := true, laidKinds := [.data, .data, .pinned], laidTests := true, laidLooks := .later }
def TokenAloneCardSaid : Prop := Claim7.holds Tryd.pinned (.plain (OpenSpec.ofChange tokenAloneSpec)) tokenAloneCard

/-- THE TIED CARD OF 'trclaw2.TokenText'. -/
def tokenTextCard : Claim7 := { stood := { row := tokenTextRow, standIns := [], harness := (true, "d7d41905c8f62e0259cb563014ccefe26b15171e53ed5ddfed2f4c4c12370856"), looks := false }, kinds := [], alts := [], laidByText := true, laidKinds := [.data, .data, .pinned], laidTests := true, laidLooks := .later }
def TokenTextCardSaid : Prop := Claim7.holds Tryd.pinned (.plain (OpenSpec.ofChange tokenTextSpec)) tokenTextCard

/-- THE TIED CARD OF 'trclaw2.TokenLines'. -/
def tokenLinesCard : Claim7 := { stood := { row := tokenLinesRow, standIns := [], harness := (true, "d7d41905c8f62e0259cb563014ccefe26b15171e53ed5ddfed2f4c4c12370856"), looks := false }, kinds := [], alts := [], laidByText := true, laidKinds := [.data, .data, .pinned], laidTests := true, laidLooks := .later }
def TokenLinesCardSaid : Prop := Claim7.holds Tryd.pinned (.plain (OpenSpec.ofChange tokenLinesSpec)) tokenLinesCard

/-- THE TIED CARD OF 'trclaw2.TokenLimit'. -/
def tokenLimitCard : Claim7 := { stood := { row := tokenLimitRow, standIns := [], harness := (true, "d7d41905c8f62e0259cb563014ccefe26b15171e53ed5ddfed2f4c4c12370856"), looks := false }, kinds := [], alts := [], laidByText := true, laidKinds := [.data, .data, .pinned], laidTests := true, laidLooks := .later }
def TokenLimitCardSaid : Prop := Claim7.holds Tryd.pinned (.plain (OpenSpec.ofChange tokenLimitSpec)) tokenLimitCard

/-- THE SECOND FORM's CARD OF 'trclaw2.TokenScan'. -/
def tokenScanUptoCard : Claim7 := { stood := { row := tokenScanUptoRow, standIns := [], harness := (true, "d7d41905c8f62e0259cb563014ccefe26b15171e53ed5ddfed2f4c4c12370856"), looks := false }, kinds := [], alts := [], laidByText := true, laidKinds := [.data, .data, .pinned], laidTests := true, laidLooks := .later }
def TokenScanUptoCardSaid : Prop := Claim7.holds Tryd.pinned (.plain (OpenSpec.upto tokenScanSpec)) tokenScanUptoCard

/-- THE SECOND FORM's CARD OF 'trclaw2.TokenCovers'. -/
def tokenCoversUptoCard : Claim7 := { stood := { row := tokenCoversUptoRow, standIns := [], harness := (true, "d7d41905c8f62e0259cb563014ccefe26b15171e53ed5ddfed2f4c4c12370856"), looks := false }, kinds := [], alts := [], laidByText := true, laidKinds := [.data, .data, .pinned], laidTests := true, laidLooks := .later }
def TokenCoversUptoCardSaid : Prop := Claim7.holds Tryd.pinned (.plain (OpenSpec.upto tokenCoversSpec)) tokenCoversUptoCard

/-- THE SECOND FORM's CARD OF 'trclaw2.TokenAlone'. -/
def tokenAloneUptoCard : Claim7 := { stood := { row := tokenAloneUptoRow, standIns := [], harness := (true, "d7d41905c8f62e0259cb563014ccefe26b15171e53ed5ddfed2f4c4c12370856"), looks := false }, kinds := [], alts := [], laidByText := true, laidKinds := [.data, .data, .pinned], laidTests := true, laidLooks := .later }
def TokenAloneUptoCardSaid : Prop := Claim7.holds Tryd.pinned (.plain (OpenSpec.upto tokenAloneSpec)) tokenAloneUptoCard

/-- THE SECOND FORM's CARD OF 'trclaw2.TokenText'. -/
def tokenTextUptoCard : Claim7 := { stood := { row := tokenTextUptoRow, standIns := [], harness := (true, "d7d41905c8f62e0259cb563014ccefe26b15171e53ed5ddfed2f4c4c12370856"), looks := false }, kinds := [], alts := [], laidByText := true, laidKinds := [.data, .data, .pinned], laidTests := true, laidLooks := .later }
def TokenTextUptoCardSaid : Prop := Claim7.holds Tryd.pinned (.plain (OpenSpec.upto tokenTextSpec)) tokenTextUptoCard

/-- THE SECOND FORM's CARD OF 'trclaw2.TokenLines'. -/
def tokenLinesUptoCard : Claim7 := { stood := { row := tokenLinesUptoRow, standIns := [], harness := (true, "d7d41905c8f62e0259cb563014ccefe26b15171e53ed5ddfed2f4c4c12370856"), looks := false }, kinds := [], alts := [], laidByText := true, laidKinds := [.data, .data, .pinned], laidTests := true, laidLooks := .later }
def TokenLinesUptoCardSaid : Prop := Claim7.holds Tryd.pinned (.plain (OpenSpec.upto tokenLinesSpec)) tokenLinesUptoCard

/-- THE SECOND FORM's CARD OF 'trclaw2.TokenLimit'. -/
def tokenLimitUptoCard : Claim7 := { stood := { row := tokenLimitUptoRow, standIns := [], harness := (true, "d7d41905c8f62e0259cb563014ccefe26b15171e53ed5ddfed2f4c4c12370856"), looks := false }, kinds := [], alts := [], laidByText := true, laidKinds := [.data, .data, .pinned], laidTests := true, laidLooks := .later }
def TokenLimitUptoCardSaid : Prop := Claim7.holds Tryd.pinned (.plain (OpenSpec.upto tokenLimitSpec)) tokenLimitUptoCard
end Rows
end Go.Proofs.YthcclcoocoikoaaDoor
