/-
  No cell of these rows narrows 'for every input' (looked for: loops, veiled, ifaces, maps, wideKeys, modest, calm, conditions, laid).
  DERIVED. THE GIVEN ROWS OF THIS SEAT. 6 by the template 'for every input the law returns true; each argument reads behind the call as it read before'; 0 by the template 'total and deterministic' (their statements: YtjpgkocffceeoaaTotals.lean).
  GIVEN WITH THE SEED: the statements are not yours to turn. If you find one false, say at which input.
  Laid BY PROGRAM, IN A SANDBOX (cutbox-rows.mjs): the forced cells as the released guide's own fill.sh prints them over the translation 292b4ea0aeed224b… (all of the seat's roots in one cut). By AI agents, Wed Nov 11 2026. No macro, syntax, notation, axiom, sorry.
-/
import Derived.Test.YtjpgkocffceeoaaChecked
import GoSem.Claim
import GoSem.ClaimJoined
import GoSem.ClaimMapViews
import Derived.JoinedTies
import Derived.KernelRfl
namespace Go.Proofs.Ytjpgkocffceeoaa
/- THE CELL 'sum', in the pinned program and in every row, IS THE sha256 OF THE DUMP (.gsa) THAT YtjpgkocffceeoaaProg.lean LOADS. Nothing in Lean hashes anything: it is a label: what it is worth is what the hold of that sum in a sandbox is worth. -/
noncomputable def Try.pinned : Pinned := { name := "ytjpgkocffceeoaa", sum := "292b4ea0aeed224b058b7ed931a53c2c077ea503bf99b1fe57c619230996b248", checked := Try.checked }
namespace Rows
def none {H : Type} : Left H := { results := [], args := [] }

/-- 'sandtablelaw09.CutParts': WHATEVER THE INPUT: true; the input reads as it did. -/
def cutPartsSpec : ChangeSpec := { name := "cutParts", fn := fun _ => fun
  | [d1, d2, d3, d4, d5, d6, d7] => { results := [.lit (.bool true)], args := [d1, d2, d3, d4, d5, d6, d7] }
  | _ => none }
def cutPartsRow : OpenClaim := { program := "ytjpgkocffceeoaa", sum := "292b4ea0aeed224b058b7ed931a53c2c077ea503bf99b1fe57c619230996b248", func := "sandtable/sandtablelaw09.CutParts", spec := "cutParts", unfollowed := true, recurses := true, apart := false }
def CutPartsSaid : Prop := cutPartsRow.holds Try.pinned (OpenSpec.ofChange cutPartsSpec)

/-- ITS FALSE NEIGHBOUR: 'it returns false'. Refute it at one input. -/
def cutPartsWrong : ChangeSpec := { name := "cutParts", fn := fun _ => fun
  | [d1, d2, d3, d4, d5, d6, d7] => { results := [.lit (.bool false)], args := [d1, d2, d3, d4, d5, d6, d7] }
  | _ => none }
def CutPartsWrongFalsely : Prop := cutPartsRow.holds Try.pinned (OpenSpec.ofChange cutPartsWrong)

/-- 'sandtablelaw13.RefineMoves': WHATEVER THE INPUT: true; the input reads as it did. -/
def refineMovesSpec : ChangeSpec := { name := "refineMoves", fn := fun _ => fun
  | [d1, d2, d3, d4, d5] => { results := [.lit (.bool true)], args := [d1, d2, d3, d4, d5] }
  | _ => none }
def refineMovesRow : OpenClaim := { program := "ytjpgkocffceeoaa", sum := "292b4ea0aeed224b058b7ed931a53c2c077ea503bf99b1fe57c619230996b248", func := "sandtable/sandtablelaw13.RefineMoves", spec := "refineMoves", unfollowed := true, recurses := true, apart := false }
def RefineMovesSaid : Prop := refineMovesRow.holds Try.pinned (OpenSpec.ofChange refineMovesSpec)

/-- ITS FALSE NEIGHBOUR: 'it returns false'. Refute it at one input. -/
def refineMovesWrong : ChangeSpec := { name := "refineMoves", fn := fun _ => fun
  | [d1, d2, d3, d4, d5] => { results := [.lit (.bool false)], args := [d1, d2, d3, d4, d5] }
  | _ => none }
def RefineMovesWrongFalsely : Prop := refineMovesRow.holds Try.pinned (OpenSpec.ofChange refineMovesWrong)

/-- 'sandtablelaw13.RefineEnds': WHATEVER THE INPUT: true; the input reads as it did. -/
def refineEndsSpec : ChangeSpec := { name := "refineEnds", fn := fun _ => fun
  | [d1, d2, d3, d4] => { results := [.lit (.bool true)], args := [d1, d2, d3, d4] }
  | _ => none }
def refineEndsRow : OpenClaim := { program := "ytjpgkocffceeoaa", sum := "292b4ea0aeed224b058b7ed931a53c2c077ea503bf99b1fe57c619230996b248", func := "sandtable/sandtablelaw13.RefineEnds", spec := "refineEnds", unfollowed := true, recurses := true, apart := false }
def RefineEndsSaid : Prop := refineEndsRow.holds Try.pinned (OpenSpec.ofChange refineEndsSpec)

/-- ITS FALSE NEIGHBOUR: 'it returns false'. Refute it at one input. -/
def refineEndsWrong : ChangeSpec := { name := "refineEnds", fn := fun _ => fun
  | [d1, d2, d3, d4] => { results := [.lit (.bool false)], args := [d1, d2, d3, d4] }
  | _ => none }
def RefineEndsWrongFalsely : Prop := refineEndsRow.holds Try.pinned (OpenSpec.ofChange refineEndsWrong)

/-- 'sandtablelaw13.RefineFalls': WHATEVER THE INPUT: true; the input reads as it did. -/
def refineFallsSpec : ChangeSpec := { name := "refineFalls", fn := fun _ => fun
  | [d1, d2, d3, d4] => { results := [.lit (.bool true)], args := [d1, d2, d3, d4] }
  | _ => none }
def refineFallsRow : OpenClaim := { program := "ytjpgkocffceeoaa", sum := "292b4ea0aeed224b058b7ed931a53c2c077ea503bf99b1fe57c619230996b248", func := "sandtable/sandtablelaw13.RefineFalls", spec := "refineFalls", unfollowed := true, recurses := true, apart := false }
def RefineFallsSaid : Prop := refineFallsRow.holds Try.pinned (OpenSpec.ofChange refineFallsSpec)

/-- ITS FALSE NEIGHBOUR: 'it returns false'. Refute it at one input. -/
def refineFallsWrong : ChangeSpec := { name := "refineFalls", fn := fun _ => fun
  | [d1, d2, d3, d4] => { results := [.lit (.bool false)], args := [d1, d2, d3, d4] }
  | _ => none }
def RefineFallsWrongFalsely : Prop := refineFallsRow.holds Try.pinned (OpenSpec.ofChange refineFallsWrong)

/-- 'sandtablelaw13.RefineBounds': WHATEVER THE INPUT: true; the input reads as it did. -/
def refineBoundsSpec : ChangeSpec := { name := "refineBounds", fn := fun _ => fun
  | [d1, d2, d3, d4] => { results := [.lit (.bool true)], args := [d1, d2, d3, d4] }
  | _ => none }
def refineBoundsRow : OpenClaim := { program := "ytjpgkocffceeoaa", sum := "292b4ea0aeed224b058b7ed931a53c2c077ea503bf99b1fe57c619230996b248", func := "sandtable/sandtablelaw13.RefineBounds", spec := "refineBounds", unfollowed := true, recurses := true, apart := false }
def RefineBoundsSaid : Prop := refineBoundsRow.holds Try.pinned (OpenSpec.ofChange refineBoundsSpec)

/-- ITS FALSE NEIGHBOUR: 'it returns false'. Refute it at one input. -/
def refineBoundsWrong : ChangeSpec := { name := "refineBounds", fn := fun _ => fun
  | [d1, d2, d3, d4] => { results := [.lit (.bool false)], args := [d1, d2, d3, d4] }
  | _ => none }
def RefineBoundsWrongFalsely : Prop := refineBoundsRow.holds Try.pinned (OpenSpec.ofChange refineBoundsWrong)

/-- 'sandtablelaw13.RefineTwice': WHATEVER THE INPUT: true; the input reads as it did. -/
def refineTwiceSpec : ChangeSpec := { name := "refineTwice", fn := fun _ => fun
  | [d1, d2, d3, d4, d5] => { results := [.lit (.bool true)], args := [d1, d2, d3, d4, d5] }
  | _ => none }
def refineTwiceRow : OpenClaim := { program := "ytjpgkocffceeoaa", sum := "292b4ea0aeed224b058b7ed931a53c2c077ea503bf99b1fe57c619230996b248", func := "sandtable/sandtablelaw13.RefineTwice", spec := "refineTwice", unfollowed := true, recurses := true, apart := false }
def RefineTwiceSaid : Prop := refineTwiceRow.holds Try.pinned (OpenSpec.ofChange refineTwiceSpec)

/-- ITS FALSE NEIGHBOUR: 'it returns false'. Refute it at one input. -/
def refineTwiceWrong : ChangeSpec := { name := "refineTwice", fn := fun _ => fun
  | [d1, d2, d3, d4, d5] => { results := [.lit (.bool false)], args := [d1, d2, d3, d4, d5] }
  | _ => none }
def RefineTwiceWrongFalsely : Prop := refineTwiceRow.holds Try.pinned (OpenSpec.ofChange refineTwiceWrong)

/- THE SECOND FORM. 'bulk': how many values and letters a reading holds, each counted each time it is reached (what is shared counts as often as it is met; a slice's spare places count too). A statement '..UptoSaid' is the law's where the arguments, and the package variables that the reading takes, are together of bulk at most 1048576: NARROWER than '..Said'. Prove '..Said' where nothing that the law and all that it calls make is longer than what came in: it says more and counts as full. Else prove '..UptoSaid'. A law counts once. -/
mutual
def uptoBulk {H : Type} : DataW H → Nat
  | .lit (.string bytes) => bytes.length + 1
  | .lit _ => 1
  | .nil => 1
  | .ptr d => uptoBulk d + 1
  | .slice elems spare => uptoBulkAll elems + uptoBulkAll spare + 1
  | .agg parts => uptoBulkAll parts + 1
  | .iface _ d => uptoBulk d + 1
  | .map entries => uptoBulkEntries entries + 1
  | .held _ => 1
def uptoBulkAll {H : Type} : List (DataW H) → Nat
  | [] => 0
  | d :: r => uptoBulk d + uptoBulkAll r
def uptoBulkEntries {H : Type} : List (Lit × DataW H) → Nat
  | [] => 0
  | x :: r => uptoBulkEntry x + uptoBulkEntries r
def uptoBulkEntry {H : Type} : Lit × DataW H → Nat
  | (.string bytes, d) => bytes.length + uptoBulk d + 1
  | (_, d) => uptoBulk d + 1
 end
def uptoSmall : (H : Type) → List (DataW H) → Bool := fun _ ds => decide (uptoBulkAll ds ≤ 1048576)
def OpenSpec.upto (s : _root_.Go.ChangeSpec) : _root_.Go.OpenSpec := { _root_.Go.OpenSpec.ofChange s with cond := some uptoSmall }

/-- 'sandtablelaw09.CutParts', WHERE WHAT IT READS IS OF BULK AT MOST 1048576: true; the input reads as it did. -/
def cutPartsUptoRow : OpenClaim := { program := "ytjpgkocffceeoaa", sum := "292b4ea0aeed224b058b7ed931a53c2c077ea503bf99b1fe57c619230996b248", func := "sandtable/sandtablelaw09.CutParts", spec := "cutParts", unfollowed := true, recurses := true, apart := false, narrowed := true }
def CutPartsUptoSaid : Prop := cutPartsUptoRow.holds Try.pinned (OpenSpec.upto cutPartsSpec)

/-- 'sandtablelaw13.RefineMoves', WHERE WHAT IT READS IS OF BULK AT MOST 1048576: true; the input reads as it did. -/
def refineMovesUptoRow : OpenClaim := { program := "ytjpgkocffceeoaa", sum := "292b4ea0aeed224b058b7ed931a53c2c077ea503bf99b1fe57c619230996b248", func := "sandtable/sandtablelaw13.RefineMoves", spec := "refineMoves", unfollowed := true, recurses := true, apart := false, narrowed := true }
def RefineMovesUptoSaid : Prop := refineMovesUptoRow.holds Try.pinned (OpenSpec.upto refineMovesSpec)

/-- 'sandtablelaw13.RefineEnds', WHERE WHAT IT READS IS OF BULK AT MOST 1048576: true; the input reads as it did. -/
def refineEndsUptoRow : OpenClaim := { program := "ytjpgkocffceeoaa", sum := "292b4ea0aeed224b058b7ed931a53c2c077ea503bf99b1fe57c619230996b248", func := "sandtable/sandtablelaw13.RefineEnds", spec := "refineEnds", unfollowed := true, recurses := true, apart := false, narrowed := true }
def RefineEndsUptoSaid : Prop := refineEndsUptoRow.holds Try.pinned (OpenSpec.upto refineEndsSpec)

/-- 'sandtablelaw13.RefineFalls', WHERE WHAT IT READS IS OF BULK AT MOST 1048576: true; the input reads as it did. -/
def refineFallsUptoRow : OpenClaim := { program := "ytjpgkocffceeoaa", sum := "292b4ea0aeed224b058b7ed931a53c2c077ea503bf99b1fe57c619230996b248", func := "sandtable/sandtablelaw13.RefineFalls", spec := "refineFalls", unfollowed := true, recurses := true, apart := false, narrowed := true }
def RefineFallsUptoSaid : Prop := refineFallsUptoRow.holds Try.pinned (OpenSpec.upto refineFallsSpec)

/-- 'sandtablelaw13.RefineBounds', WHERE WHAT IT READS IS OF BULK AT MOST 1048576: true; the input reads as it did. -/
def refineBoundsUptoRow : OpenClaim := { program := "ytjpgkocffceeoaa", sum := "292b4ea0aeed224b058b7ed931a53c2c077ea503bf99b1fe57c619230996b248", func := "sandtable/sandtablelaw13.RefineBounds", spec := "refineBounds", unfollowed := true, recurses := true, apart := false, narrowed := true }
def RefineBoundsUptoSaid : Prop := refineBoundsUptoRow.holds Try.pinned (OpenSpec.upto refineBoundsSpec)

/-- 'sandtablelaw13.RefineTwice', WHERE WHAT IT READS IS OF BULK AT MOST 1048576: true; the input reads as it did. -/
def refineTwiceUptoRow : OpenClaim := { program := "ytjpgkocffceeoaa", sum := "292b4ea0aeed224b058b7ed931a53c2c077ea503bf99b1fe57c619230996b248", func := "sandtable/sandtablelaw13.RefineTwice", spec := "refineTwice", unfollowed := true, recurses := true, apart := false, narrowed := true }
def RefineTwiceUptoSaid : Prop := refineTwiceUptoRow.holds Try.pinned (OpenSpec.upto refineTwiceSpec)

end Rows
end Go.Proofs.Ytjpgkocffceeoaa
