/-
  DERIVED. GIVEN WITH THE SEED: THE CARDS: each row of YtbibekojbjonoaaDoorRows.lean that lists a variable, with what it lists TIED to the program's text (the seventh form; the later family's looks); each row that meets fmt, with fmt's text TOLD by the authors' own Lean function (tested against real Go, not proved from fmt's source: count such statements apart). THE CARD IS WHAT COUNTS. Prove the row's statement (the work); the ties are given (YtbibekojbjonoaaDoorTie.lean); close each card by the builder's one call (the guide's Derived/Test/ToyasCard.lean, 'card_holds'). Laid BY PROGRAM, IN A SANDBOX (cutbox-door.mjs). By AI agents, Wed Nov 11 2026. No macro, syntax, notation, axiom, sorry.
-/
import Derived.Test.YtbibekojbjonoaaDoorRows
import GoSem.ClaimSeven
namespace Go.Proofs.YtbibekojbjonoaaDoor
namespace Rows

/-- THE TIED CARD OF 'trclaw12.PolicyNames'. -/
def policyNamesCard : Claim7 := { stood := { row := policyNamesRow, standIns := [], harness := (true, "29ac7dced2931cdd94104709dfd6bc2b14aa09c1a71c7c026ed647e01d1b1d1b"), looks := false }, kinds := [], alts := [], laidByText := true, laidKinds := [.data, .data, .data, .data, .pinned], laidTests := true, laidLooks := .later }
def PolicyNamesCardSaid : Prop := Claim7.holds Tryd.pinned (.plain (OpenSpec.ofChange policyNamesSpec)) policyNamesCard

/-- THE SECOND FORM's CARD OF 'trclaw12.PolicyNames'. -/
def policyNamesUptoCard : Claim7 := { stood := { row := policyNamesUptoRow, standIns := [], harness := (true, "29ac7dced2931cdd94104709dfd6bc2b14aa09c1a71c7c026ed647e01d1b1d1b"), looks := false }, kinds := [], alts := [], laidByText := true, laidKinds := [.data, .data, .data, .data, .pinned], laidTests := true, laidLooks := .later }
def PolicyNamesUptoCardSaid : Prop := Claim7.holds Tryd.pinned (.plain (OpenSpec.upto policyNamesSpec)) policyNamesUptoCard
end Rows
end Go.Proofs.YtbibekojbjonoaaDoor
