/-
  NARROWER THAN 'FOR EVERY INPUT', by the rows' own cells (each row's printed sentence says how): TreeSource: loops · TreeEqual: loops · TreeChanged: loops · TreeJoin: loops · TreeLists: loops · TreePlain: loops · TreeWraps: loops.
  DERIVED. THE GIVEN ROWS OF THIS SEAT. 7 by the template 'for every input the law returns true; each argument reads behind the call as it read before'; 0 by the template 'total and deterministic' (their statements: YtfljcockbnpadaaTotals.lean).
  GIVEN WITH THE SEED: the statements are not yours to turn. If you find one false, say at which input.
  Laid BY PROGRAM, IN A SANDBOX (cutbox-rows.mjs): the forced cells as the released guide's own fill.sh prints them over the translation 08435efdb638d127… (all of the seat's roots in one cut). By AI agents, Wed Nov 11 2026. No macro, syntax, notation, axiom, sorry.
-/
import Derived.Test.YtfljcockbnpadaaChecked
import GoSem.Claim
import GoSem.ClaimJoined
import GoSem.ClaimMapViews
import Derived.JoinedTies
import Derived.KernelRfl
namespace Go.Proofs.Ytfljcockbnpadaa
/- THE CELL 'sum', in the pinned program and in every row, IS THE sha256 OF THE DUMP (.gsa) THAT YtfljcockbnpadaaProg.lean LOADS. Nothing in Lean hashes anything: it is a label: what it is worth is what the hold of that sum in a sandbox is worth. -/
noncomputable def Try.pinned : Pinned := { name := "ytfljcockbnpadaa", sum := "08435efdb638d1276c44089f430bf877ae990a14943999fbb411c1b795686db2", checked := Try.checked }
namespace Rows
def none {H : Type} : Left H := { results := [], args := [] }

/-- 'trclaw3.TreeSource': WHATEVER THE INPUT: true; the input reads as it did. -/
def treeSourceSpec : ChangeSpec := { name := "treeSource", fn := fun _ => fun
  | [d] => { results := [.lit (.bool true)], args := [d] }
  | _ => none }
def treeSourceRow : OpenClaim := { program := "ytfljcockbnpadaa", sum := "08435efdb638d1276c44089f430bf877ae990a14943999fbb411c1b795686db2", func := "transclude/trclaw3.TreeSource", spec := "treeSource", inPlace := ["internal/abi.NoEscape"], unfollowed := true, recurses := true, loops := true, apart := false }
def TreeSourceSaid : Prop := treeSourceRow.holds Try.pinned (OpenSpec.ofChange treeSourceSpec)

/-- ITS FALSE NEIGHBOUR: 'it returns false'. Refute it at one input. -/
def treeSourceWrong : ChangeSpec := { name := "treeSource", fn := fun _ => fun
  | [d] => { results := [.lit (.bool false)], args := [d] }
  | _ => none }
def TreeSourceWrongFalsely : Prop := treeSourceRow.holds Try.pinned (OpenSpec.ofChange treeSourceWrong)

/-- 'trclaw3.TreeEqual': WHATEVER THE INPUT: true; the input reads as it did. -/
def treeEqualSpec : ChangeSpec := { name := "treeEqual", fn := fun _ => fun
  | [d1, d2] => { results := [.lit (.bool true)], args := [d1, d2] }
  | _ => none }
def treeEqualRow : OpenClaim := { program := "ytfljcockbnpadaa", sum := "08435efdb638d1276c44089f430bf877ae990a14943999fbb411c1b795686db2", func := "transclude/trclaw3.TreeEqual", spec := "treeEqual", inPlace := ["internal/abi.NoEscape"], unfollowed := true, recurses := true, loops := true, apart := false }
def TreeEqualSaid : Prop := treeEqualRow.holds Try.pinned (OpenSpec.ofChange treeEqualSpec)

/-- ITS FALSE NEIGHBOUR: 'it returns false'. Refute it at one input. -/
def treeEqualWrong : ChangeSpec := { name := "treeEqual", fn := fun _ => fun
  | [d1, d2] => { results := [.lit (.bool false)], args := [d1, d2] }
  | _ => none }
def TreeEqualWrongFalsely : Prop := treeEqualRow.holds Try.pinned (OpenSpec.ofChange treeEqualWrong)

/-- 'trclaw3.TreeChanged': WHATEVER THE INPUT: true; the input reads as it did. -/
def treeChangedSpec : ChangeSpec := { name := "treeChanged", fn := fun _ => fun
  | [d1, d2, d3] => { results := [.lit (.bool true)], args := [d1, d2, d3] }
  | _ => none }
def treeChangedRow : OpenClaim := { program := "ytfljcockbnpadaa", sum := "08435efdb638d1276c44089f430bf877ae990a14943999fbb411c1b795686db2", func := "transclude/trclaw3.TreeChanged", spec := "treeChanged", inPlace := ["internal/abi.NoEscape"], unfollowed := true, recurses := true, loops := true, apart := false }
def TreeChangedSaid : Prop := treeChangedRow.holds Try.pinned (OpenSpec.ofChange treeChangedSpec)

/-- ITS FALSE NEIGHBOUR: 'it returns false'. Refute it at one input. -/
def treeChangedWrong : ChangeSpec := { name := "treeChanged", fn := fun _ => fun
  | [d1, d2, d3] => { results := [.lit (.bool false)], args := [d1, d2, d3] }
  | _ => none }
def TreeChangedWrongFalsely : Prop := treeChangedRow.holds Try.pinned (OpenSpec.ofChange treeChangedWrong)

/-- 'trclaw3.TreeJoin': WHATEVER THE INPUT: true; the input reads as it did. -/
def treeJoinSpec : ChangeSpec := { name := "treeJoin", fn := fun _ => fun
  | [d] => { results := [.lit (.bool true)], args := [d] }
  | _ => none }
def treeJoinRow : OpenClaim := { program := "ytfljcockbnpadaa", sum := "08435efdb638d1276c44089f430bf877ae990a14943999fbb411c1b795686db2", func := "transclude/trclaw3.TreeJoin", spec := "treeJoin", inPlace := ["internal/abi.NoEscape"], unfollowed := true, recurses := true, loops := true, apart := false }
def TreeJoinSaid : Prop := treeJoinRow.holds Try.pinned (OpenSpec.ofChange treeJoinSpec)

/-- ITS FALSE NEIGHBOUR: 'it returns false'. Refute it at one input. -/
def treeJoinWrong : ChangeSpec := { name := "treeJoin", fn := fun _ => fun
  | [d] => { results := [.lit (.bool false)], args := [d] }
  | _ => none }
def TreeJoinWrongFalsely : Prop := treeJoinRow.holds Try.pinned (OpenSpec.ofChange treeJoinWrong)

/-- 'trclaw3.TreeLists': WHATEVER THE INPUT: true; the input reads as it did. -/
def treeListsSpec : ChangeSpec := { name := "treeLists", fn := fun _ => fun
  | [d1, d2] => { results := [.lit (.bool true)], args := [d1, d2] }
  | _ => none }
def treeListsRow : OpenClaim := { program := "ytfljcockbnpadaa", sum := "08435efdb638d1276c44089f430bf877ae990a14943999fbb411c1b795686db2", func := "transclude/trclaw3.TreeLists", spec := "treeLists", inPlace := ["internal/abi.NoEscape"], unfollowed := true, recurses := true, loops := true, apart := false }
def TreeListsSaid : Prop := treeListsRow.holds Try.pinned (OpenSpec.ofChange treeListsSpec)

/-- ITS FALSE NEIGHBOUR: 'it returns false'. Refute it at one input. -/
def treeListsWrong : ChangeSpec := { name := "treeLists", fn := fun _ => fun
  | [d1, d2] => { results := [.lit (.bool false)], args := [d1, d2] }
  | _ => none }
def TreeListsWrongFalsely : Prop := treeListsRow.holds Try.pinned (OpenSpec.ofChange treeListsWrong)

/-- 'trclaw3.TreePlain': WHATEVER THE INPUT: true; the input reads as it did. -/
def treePlainSpec : ChangeSpec := { name := "treePlain", fn := fun _ => fun
  | [d] => { results := [.lit (.bool true)], args := [d] }
  | _ => none }
def treePlainRow : OpenClaim := { program := "ytfljcockbnpadaa", sum := "08435efdb638d1276c44089f430bf877ae990a14943999fbb411c1b795686db2", func := "transclude/trclaw3.TreePlain", spec := "treePlain", inPlace := ["internal/abi.NoEscape"], unfollowed := true, recurses := true, loops := true, apart := false }
def TreePlainSaid : Prop := treePlainRow.holds Try.pinned (OpenSpec.ofChange treePlainSpec)

/-- ITS FALSE NEIGHBOUR: 'it returns false'. Refute it at one input. -/
def treePlainWrong : ChangeSpec := { name := "treePlain", fn := fun _ => fun
  | [d] => { results := [.lit (.bool false)], args := [d] }
  | _ => none }
def TreePlainWrongFalsely : Prop := treePlainRow.holds Try.pinned (OpenSpec.ofChange treePlainWrong)

/-- 'trclaw3.TreeWraps': WHATEVER THE INPUT: true; the input reads as it did. -/
def treeWrapsSpec : ChangeSpec := { name := "treeWraps", fn := fun _ => fun
  | [d1, d2, d3] => { results := [.lit (.bool true)], args := [d1, d2, d3] }
  | _ => none }
def treeWrapsRow : OpenClaim := { program := "ytfljcockbnpadaa", sum := "08435efdb638d1276c44089f430bf877ae990a14943999fbb411c1b795686db2", func := "transclude/trclaw3.TreeWraps", spec := "treeWraps", inPlace := ["internal/abi.NoEscape"], unfollowed := true, recurses := true, loops := true, apart := false }
def TreeWrapsSaid : Prop := treeWrapsRow.holds Try.pinned (OpenSpec.ofChange treeWrapsSpec)

/-- ITS FALSE NEIGHBOUR: 'it returns false'. Refute it at one input. -/
def treeWrapsWrong : ChangeSpec := { name := "treeWraps", fn := fun _ => fun
  | [d1, d2, d3] => { results := [.lit (.bool false)], args := [d1, d2, d3] }
  | _ => none }
def TreeWrapsWrongFalsely : Prop := treeWrapsRow.holds Try.pinned (OpenSpec.ofChange treeWrapsWrong)

/- THE SECOND FORM. 'bulk': how many values and letters a reading holds, each counted each time it is reached (what is shared counts as often as it is met; a slice's spare places count too). A statement '..UptoSaid' is the law's where the arguments, and the package variables that the reading takes, are together of bulk at most 1048576: NARROWER than '..Said'. Prove '..Said' where nothing that the law and all that it calls make is longer than what came in: it says more and counts as full. Else prove '..UptoSaid'. A law counts once. -/
mutual
def uptoBulk {H : Type} : DataW H → Nat
  | .lit (.string bytes) => bytes.length + 1
  | .lit _ => 1
  | .nil => 1
  | .ptr d => uptoBulk d + 1
  | .slice elems spare => uptoBulkAll elems + uptoBulkAll spare + 1
  | .agg parts => uptoBulkAll parts + 1
  | .iface _ d => uptoBulk d + 1
  | .map entries => uptoBulkEntries entries + 1
  | .held _ => 1
def uptoBulkAll {H : Type} : List (DataW H) → Nat
  | [] => 0
  | d :: r => uptoBulk d + uptoBulkAll r
def uptoBulkEntries {H : Type} : List (Lit × DataW H) → Nat
  | [] => 0
  | x :: r => uptoBulkEntry x + uptoBulkEntries r
def uptoBulkEntry {H : Type} : Lit × DataW H → Nat
  | (.string bytes, d) => bytes.length + uptoBulk d + 1
  | (_, d) => uptoBulk d + 1
 end
def uptoSmall : (H : Type) → List (DataW H) → Bool := fun _ ds => decide (uptoBulkAll ds ≤ 1048576)
def OpenSpec.upto (s : _root_.Go.ChangeSpec) : _root_.Go.OpenSpec := { _root_.Go.OpenSpec.ofChange s with cond := some uptoSmall }

/-- 'trclaw3.TreeSource', WHERE WHAT IT READS IS OF BULK AT MOST 1048576: true; the input reads as it did. -/
def treeSourceUptoRow : OpenClaim := { program := "ytfljcockbnpadaa", sum := "08435efdb638d1276c44089f430bf877ae990a14943999fbb411c1b795686db2", func := "transclude/trclaw3.TreeSource", spec := "treeSource", inPlace := ["internal/abi.NoEscape"], unfollowed := true, recurses := true, loops := true, apart := false, narrowed := true }
def TreeSourceUptoSaid : Prop := treeSourceUptoRow.holds Try.pinned (OpenSpec.upto treeSourceSpec)

/-- 'trclaw3.TreeEqual', WHERE WHAT IT READS IS OF BULK AT MOST 1048576: true; the input reads as it did. -/
def treeEqualUptoRow : OpenClaim := { program := "ytfljcockbnpadaa", sum := "08435efdb638d1276c44089f430bf877ae990a14943999fbb411c1b795686db2", func := "transclude/trclaw3.TreeEqual", spec := "treeEqual", inPlace := ["internal/abi.NoEscape"], unfollowed := true, recurses := true, loops := true, apart := false, narrowed := true }
def TreeEqualUptoSaid : Prop := treeEqualUptoRow.holds Try.pinned (OpenSpec.upto treeEqualSpec)

/-- 'trclaw3.TreeChanged', WHERE WHAT IT READS IS OF BULK AT MOST 1048576: true; the input reads as it did. -/
def treeChangedUptoRow : OpenClaim := { program := "ytfljcockbnpadaa", sum := "08435efdb638d1276c44089f430bf877ae990a14943999fbb411c1b795686db2", func := "transclude/trclaw3.TreeChanged", spec := "treeChanged", inPlace := ["internal/abi.NoEscape"], unfollowed := true, recurses := true, loops := true, apart := false, narrowed := true }
def TreeChangedUptoSaid : Prop := treeChangedUptoRow.holds Try.pinned (OpenSpec.upto treeChangedSpec)

/-- 'trclaw3.TreeJoin', WHERE WHAT IT READS IS OF BULK AT MOST 1048576: true; the input reads as it did. -/
def treeJoinUptoRow : OpenClaim := { program := "ytfljcockbnpadaa", sum := "08435efdb638d1276c44089f430bf877ae990a14943999fbb411c1b795686db2", func := "transclude/trclaw3.TreeJoin", spec := "treeJoin", inPlace := ["internal/abi.NoEscape"], unfollowed := true, recurses := true, loops := true, apart := false, narrowed := true }
def TreeJoinUptoSaid : Prop := treeJoinUptoRow.holds Try.pinned (OpenSpec.upto treeJoinSpec)

/-- 'trclaw3.TreeLists', WHERE WHAT IT READS IS OF BULK AT MOST 1048576: true; the input reads as it did. -/
def treeListsUptoRow : OpenClaim := { program := "ytfljcockbnpadaa", sum := "08435efdb638d1276c44089f430bf877ae990a14943999fbb411c1b795686db2", func := "transclude/trclaw3.TreeLists", spec := "treeLists", inPlace := ["internal/abi.NoEscape"], unfollowed := true, recurses := true, loops := true, apart := false, narrowed := true }
def TreeListsUptoSaid : Prop := treeListsUptoRow.holds Try.pinned (OpenSpec.upto treeListsSpec)

/-- 'trclaw3.TreePlain', WHERE WHAT IT READS IS OF BULK AT MOST 1048576: true; the input reads as it did. -/
def treePlainUptoRow : OpenClaim := { program := "ytfljcockbnpadaa", sum := "08435efdb638d1276c44089f430bf877ae990a14943999fbb411c1b795686db2", func := "transclude/trclaw3.TreePlain", spec := "treePlain", inPlace := ["internal/abi.NoEscape"], unfollowed := true, recurses := true, loops := true, apart := false, narrowed := true }
def TreePlainUptoSaid : Prop := treePlainUptoRow.holds Try.pinned (OpenSpec.upto treePlainSpec)

/-- 'trclaw3.TreeWraps', WHERE WHAT IT READS IS OF BULK AT MOST 1048576: true; the input reads as it did. -/
def treeWrapsUptoRow : OpenClaim := { program := "ytfljcockbnpadaa", sum := "08435efdb638d1276c44089f430bf877ae990a14943999fbb411c1b795686db2", func := "transclude/trclaw3.TreeWraps", spec := "treeWraps", inPlace := ["internal/abi.NoEscape"], unfollowed := true, recurses := true, loops := true, apart := false, narrowed := true }
def TreeWrapsUptoSaid : Prop := treeWrapsUptoRow.holds Try.pinned (OpenSpec.upto treeWrapsSpec)

end Rows
end Go.Proofs.Ytfljcockbnpadaa
