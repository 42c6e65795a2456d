/-
  DERIVED. GIVEN WITH THE SEED: THE CARDS: each row of YtfocokjihbenmaaDoorRows.lean that lists a variable, with what it lists TIED to the program's text (the seventh form; the later family's looks); each row that meets fmt, with fmt's text TOLD by the authors' own Lean function (tested against real Go, not proved from fmt's source: count such statements apart). THE CARD IS WHAT COUNTS. Prove the row's statement (the work); the ties are given (YtfocokjihbenmaaDoorTie.lean); close each card by the builder's one call (the guide's Derived/Test/ToyasCard.lean, 'card_holds'). Laid BY PROGRAM, IN A SANDBOX (cutbox-door.mjs). By AI agents, Wed Nov 11 2026. No macro, syntax, notation, axiom, sorry.
-/
import Derived.Test.YtfocokjihbenmaaDoorRows
import GoSem.ClaimSeven
namespace Go.Proofs.YtfocokjihbenmaaDoor
namespace Rows

/-- THE TIED CARD OF 'trclaw8.FormulaLevels'. -/
def formulaLevelsCard : Claim7 := { stood := { row := formulaLevelsRow, standIns := [], harness := (true, "a2641f66488118329ef25e76b783b2d72d14f4c6a4e0940ca25770a80e1902f6"), looks := false }, kinds := [], alts := [], laidByText := true, laidKinds := [.data, .pinned], laidTests := true, laidLooks := .later }
def FormulaLevelsCardSaid : Prop := Claim7.holds Tryd.pinned (.plain (OpenSpec.ofChange formulaLevelsSpec)) formulaLevelsCard

/-- THE TIED CARD OF 'trclaw8.FormulaBlanks'. -/
def formulaBlanksCard : Claim7 := { stood := { row := formulaBlanksRow, standIns := [], harness := (true, "a2641f66488118329ef25e76b783b2d72d14f4c6a4e0940ca25770a80e1902f6"), looks := false }, kinds := [], alts := [], laidByText := true, laidKinds := [.data, .pinned], laidTests := true, laidLooks := .later }
def FormulaBlanksCardSaid : Prop := Claim7.holds Tryd.pinned (.plain (OpenSpec.ofChange formulaBlanksSpec)) formulaBlanksCard

/-- THE TIED CARD OF 'trclaw8.FormulaPrecedence'. -/
def formulaPrecedenceCard : Claim7 := { stood := { row := formulaPrecedenceRow, standIns := [], harness := (true, "a2641f66488118329ef25e76b783b2d72d14f4c6a4e0940ca25770a80e1902f6"), looks := false }, kinds := [], alts := [], laidByText := true, laidKinds := [.data, .pinned], laidTests := true, laidLooks := .later }
def FormulaPrecedenceCardSaid : Prop := Claim7.holds Tryd.pinned (.plain (OpenSpec.ofChange formulaPrecedenceSpec)) formulaPrecedenceCard

/-- THE TIED CARD OF 'trclaw8.FormulaLogic'. -/
def formulaLogicCard : Claim7 := { stood := { row := formulaLogicRow, standIns := [], harness := (true, "a2641f66488118329ef25e76b783b2d72d14f4c6a4e0940ca25770a80e1902f6"), looks := false }, kinds := [], alts := [], laidByText := true, laidKinds := [.data, .pinned], laidTests := true, laidLooks := .later }
def FormulaLogicCardSaid : Prop := Claim7.holds Tryd.pinned (.plain (OpenSpec.ofChange formulaLogicSpec)) formulaLogicCard

/-- THE TIED CARD OF 'trclaw8.FormulaPowers'. -/
def formulaPowersCard : Claim7 := { stood := { row := formulaPowersRow, standIns := [], harness := (true, "a2641f66488118329ef25e76b783b2d72d14f4c6a4e0940ca25770a80e1902f6"), looks := false }, kinds := [], alts := [], laidByText := true, laidKinds := [.data, .pinned], laidTests := true, laidLooks := .later }
def FormulaPowersCardSaid : Prop := Claim7.holds Tryd.pinned (.plain (OpenSpec.ofChange formulaPowersSpec)) formulaPowersCard

/-- THE SECOND FORM's CARD OF 'trclaw8.FormulaLevels'. -/
def formulaLevelsUptoCard : Claim7 := { stood := { row := formulaLevelsUptoRow, standIns := [], harness := (true, "a2641f66488118329ef25e76b783b2d72d14f4c6a4e0940ca25770a80e1902f6"), looks := false }, kinds := [], alts := [], laidByText := true, laidKinds := [.data, .pinned], laidTests := true, laidLooks := .later }
def FormulaLevelsUptoCardSaid : Prop := Claim7.holds Tryd.pinned (.plain (OpenSpec.upto formulaLevelsSpec)) formulaLevelsUptoCard

/-- THE SECOND FORM's CARD OF 'trclaw8.FormulaBlanks'. -/
def formulaBlanksUptoCard : Claim7 := { stood := { row := formulaBlanksUptoRow, standIns := [], harness := (true, "a2641f66488118329ef25e76b783b2d72d14f4c6a4e0940ca25770a80e1902f6"), looks := false }, kinds := [], alts := [], laidByText := true, laidKinds := [.data, .pinned], laidTests := true, laidLooks := .later }
def FormulaBlanksUptoCardSaid : Prop := Claim7.holds Tryd.pinned (.plain (OpenSpec.upto formulaBlanksSpec)) formulaBlanksUptoCard

/-- THE SECOND FORM's CARD OF 'trclaw8.FormulaPrecedence'. -/
def formulaPrecedenceUptoCard : Claim7 := { stood := { row := formulaPrecedenceUptoRow, standIns := [], harness := (true, "a2641f66488118329ef25e76b783b2d72d14f4c6a4e0940ca25770a80e1902f6"), looks := false }, kinds := [], alts := [], laidByText := true, laidKinds := [.data, .pinned], laidTests := true, laidLooks := .later }
def FormulaPrecedenceUptoCardSaid : Prop := Claim7.holds Tryd.pinned (.plain (OpenSpec.upto formulaPrecedenceSpec)) formulaPrecedenceUptoCard

/-- THE SECOND FORM's CARD OF 'trclaw8.FormulaLogic'. -/
def formulaLogicUptoCard : Claim7 := { stood := { row := formulaLogicUptoRow, standIns := [], harness := (true, "a2641f66488118329ef25e76b783b2d72d14f4c6a4e0940ca25770a80e1902f6"), looks := false }, kinds := [], alts := [], laidByText := true, laidKinds := [.data, .pinned], laidTests := true, laidLooks := .later }
def FormulaLogicUptoCardSaid : Prop := Claim7.holds Tryd.pinned (.plain (OpenSpec.upto formulaLogicSpec)) formulaLogicUptoCard

/-- THE SECOND FORM's CARD OF 'trclaw8.FormulaPowers'. -/
def formulaPowersUptoCard : Claim7 := { stood := { row := formulaPowersUptoRow, standIns := [], harness := (true, "a2641f66488118329ef25e76b783b2d72d14f4c6a4e0940ca25770a80e1902f6"), looks := false }, kinds := [], alts := [], laidByText := true, laidKinds := [.data, .pinned], laidTests := true, laidLooks := .later }
def FormulaPowersUptoCardSaid : Prop := Claim7.holds Tryd.pinned (.plain (OpenSpec.upto formulaPowersSpec)) formulaPowersUptoCard
end Rows
end Go.Proofs.YtfocokjihbenmaaDoor
