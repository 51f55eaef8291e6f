/-
  No cell of these rows narrows 'for every input' (looked for: loops, veiled, ifaces, maps, wideKeys, modest, calm, conditions, laid).
  DERIVED. THE GIVEN ROWS OF THIS SEAT. 10 by the template 'for every input the law returns true; each argument reads behind the call as it read before'; 0 by the template 'total and deterministic' (their statements: YtepmgjohjeiopaaTotals.lean).
  GIVEN WITH THE SEED: the statements are not yours to turn. If you find one false, say at which input.
  Laid BY PROGRAM, IN A SANDBOX (cutbox-rows.mjs): the forced cells as the released guide's own fill.sh prints them over the translation 555dfb7ead89d67d… (all of the seat's roots in one cut). By AI agents, Wed Nov 11 2026. No macro, syntax, notation, axiom, sorry.
-/
import Derived.Test.YtepmgjohjeiopaaChecked
import GoSem.Claim
import GoSem.ClaimJoined
import GoSem.ClaimMapViews
import Derived.JoinedTies
import Derived.KernelRfl
namespace Go.Proofs.Ytepmgjohjeiopaa
/- THE CELL 'sum', in the pinned program and in every row, IS THE sha256 OF THE DUMP (.gsa) THAT YtepmgjohjeiopaaProg.lean LOADS. Nothing in Lean hashes anything: it is a label: what it is worth is what the hold of that sum in a sandbox is worth. -/
noncomputable def Try.pinned : Pinned := { name := "ytepmgjohjeiopaa", sum := "555dfb7ead89d67d633b67add0f3ff60463add21874994c219e85f474147ba34", checked := Try.checked }
namespace Rows
def none {H : Type} : Left H := { results := [], args := [] }

/-- 'sandtablelaw09.CutParts': WHATEVER THE INPUT: true; the input reads as it did. -/
def cutPartsSpec : ChangeSpec := { name := "cutParts", fn := fun _ => fun
  | [d1, d2, d3, d4, d5, d6, d7] => { results := [.lit (.bool true)], args := [d1, d2, d3, d4, d5, d6, d7] }
  | _ => none }
def cutPartsRow : OpenClaim := { program := "ytepmgjohjeiopaa", sum := "555dfb7ead89d67d633b67add0f3ff60463add21874994c219e85f474147ba34", func := "sandtable/sandtablelaw09.CutParts", spec := "cutParts", unfollowed := true, recurses := true, apart := false }
def CutPartsSaid : Prop := cutPartsRow.holds Try.pinned (OpenSpec.ofChange cutPartsSpec)

/-- ITS FALSE NEIGHBOUR: 'it returns false'. Refute it at one input. -/
def cutPartsWrong : ChangeSpec := { name := "cutParts", fn := fun _ => fun
  | [d1, d2, d3, d4, d5, d6, d7] => { results := [.lit (.bool false)], args := [d1, d2, d3, d4, d5, d6, d7] }
  | _ => none }
def CutPartsWrongFalsely : Prop := cutPartsRow.holds Try.pinned (OpenSpec.ofChange cutPartsWrong)

/-- 'sandtablelaw12.GrowHalves': WHATEVER THE INPUT: true; the input reads as it did. -/
def growHalvesSpec : ChangeSpec := { name := "growHalves", fn := fun _ => fun
  | [d1, d2, d3, d4, d5, d6, d7] => { results := [.lit (.bool true)], args := [d1, d2, d3, d4, d5, d6, d7] }
  | _ => none }
def growHalvesRow : OpenClaim := { program := "ytepmgjohjeiopaa", sum := "555dfb7ead89d67d633b67add0f3ff60463add21874994c219e85f474147ba34", func := "sandtable/sandtablelaw12.GrowHalves", spec := "growHalves", unfollowed := true, recurses := true, apart := false }
def GrowHalvesSaid : Prop := growHalvesRow.holds Try.pinned (OpenSpec.ofChange growHalvesSpec)

/-- ITS FALSE NEIGHBOUR: 'it returns false'. Refute it at one input. -/
def growHalvesWrong : ChangeSpec := { name := "growHalves", fn := fun _ => fun
  | [d1, d2, d3, d4, d5, d6, d7] => { results := [.lit (.bool false)], args := [d1, d2, d3, d4, d5, d6, d7] }
  | _ => none }
def GrowHalvesWrongFalsely : Prop := growHalvesRow.holds Try.pinned (OpenSpec.ofChange growHalvesWrong)

/-- 'sandtablelaw12.GrowFills': WHATEVER THE INPUT: true; the input reads as it did. -/
def growFillsSpec : ChangeSpec := { name := "growFills", fn := fun _ => fun
  | [d1, d2, d3] => { results := [.lit (.bool true)], args := [d1, d2, d3] }
  | _ => none }
def growFillsRow : OpenClaim := { program := "ytepmgjohjeiopaa", sum := "555dfb7ead89d67d633b67add0f3ff60463add21874994c219e85f474147ba34", func := "sandtable/sandtablelaw12.GrowFills", spec := "growFills", unfollowed := true, recurses := true, apart := false }
def GrowFillsSaid : Prop := growFillsRow.holds Try.pinned (OpenSpec.ofChange growFillsSpec)

/-- ITS FALSE NEIGHBOUR: 'it returns false'. Refute it at one input. -/
def growFillsWrong : ChangeSpec := { name := "growFills", fn := fun _ => fun
  | [d1, d2, d3] => { results := [.lit (.bool false)], args := [d1, d2, d3] }
  | _ => none }
def GrowFillsWrongFalsely : Prop := growFillsRow.holds Try.pinned (OpenSpec.ofChange growFillsWrong)

/-- 'sandtablelaw12.GrowPulls': WHATEVER THE INPUT: true; the input reads as it did. -/
def growPullsSpec : ChangeSpec := { name := "growPulls", fn := fun _ => fun
  | [d1, d2, d3] => { results := [.lit (.bool true)], args := [d1, d2, d3] }
  | _ => none }
def growPullsRow : OpenClaim := { program := "ytepmgjohjeiopaa", sum := "555dfb7ead89d67d633b67add0f3ff60463add21874994c219e85f474147ba34", func := "sandtable/sandtablelaw12.GrowPulls", spec := "growPulls", unfollowed := true, recurses := true, apart := false }
def GrowPullsSaid : Prop := growPullsRow.holds Try.pinned (OpenSpec.ofChange growPullsSpec)

/-- ITS FALSE NEIGHBOUR: 'it returns false'. Refute it at one input. -/
def growPullsWrong : ChangeSpec := { name := "growPulls", fn := fun _ => fun
  | [d1, d2, d3] => { results := [.lit (.bool false)], args := [d1, d2, d3] }
  | _ => none }
def GrowPullsWrongFalsely : Prop := growPullsRow.holds Try.pinned (OpenSpec.ofChange growPullsWrong)

/-- 'sandtablelaw12.GrowFirst': WHATEVER THE INPUT: true; the input reads as it did. -/
def growFirstSpec : ChangeSpec := { name := "growFirst", fn := fun _ => fun
  | [d1, d2] => { results := [.lit (.bool true)], args := [d1, d2] }
  | _ => none }
def growFirstRow : OpenClaim := { program := "ytepmgjohjeiopaa", sum := "555dfb7ead89d67d633b67add0f3ff60463add21874994c219e85f474147ba34", func := "sandtable/sandtablelaw12.GrowFirst", spec := "growFirst", unfollowed := true, recurses := true, apart := false }
def GrowFirstSaid : Prop := growFirstRow.holds Try.pinned (OpenSpec.ofChange growFirstSpec)

/-- ITS FALSE NEIGHBOUR: 'it returns false'. Refute it at one input. -/
def growFirstWrong : ChangeSpec := { name := "growFirst", fn := fun _ => fun
  | [d1, d2] => { results := [.lit (.bool false)], args := [d1, d2] }
  | _ => none }
def GrowFirstWrongFalsely : Prop := growFirstRow.holds Try.pinned (OpenSpec.ofChange growFirstWrong)

/-- 'sandtablelaw13.RefineMoves': WHATEVER THE INPUT: true; the input reads as it did. -/
def refineMovesSpec : ChangeSpec := { name := "refineMoves", fn := fun _ => fun
  | [d1, d2, d3, d4, d5] => { results := [.lit (.bool true)], args := [d1, d2, d3, d4, d5] }
  | _ => none }
def refineMovesRow : OpenClaim := { program := "ytepmgjohjeiopaa", sum := "555dfb7ead89d67d633b67add0f3ff60463add21874994c219e85f474147ba34", func := "sandtable/sandtablelaw13.RefineMoves", spec := "refineMoves", unfollowed := true, recurses := true, apart := false }
def RefineMovesSaid : Prop := refineMovesRow.holds Try.pinned (OpenSpec.ofChange refineMovesSpec)

/-- ITS FALSE NEIGHBOUR: 'it returns false'. Refute it at one input. -/
def refineMovesWrong : ChangeSpec := { name := "refineMoves", fn := fun _ => fun
  | [d1, d2, d3, d4, d5] => { results := [.lit (.bool false)], args := [d1, d2, d3, d4, d5] }
  | _ => none }
def RefineMovesWrongFalsely : Prop := refineMovesRow.holds Try.pinned (OpenSpec.ofChange refineMovesWrong)

/-- 'sandtablelaw13.RefineEnds': WHATEVER THE INPUT: true; the input reads as it did. -/
def refineEndsSpec : ChangeSpec := { name := "refineEnds", fn := fun _ => fun
  | [d1, d2, d3, d4] => { results := [.lit (.bool true)], args := [d1, d2, d3, d4] }
  | _ => none }
def refineEndsRow : OpenClaim := { program := "ytepmgjohjeiopaa", sum := "555dfb7ead89d67d633b67add0f3ff60463add21874994c219e85f474147ba34", func := "sandtable/sandtablelaw13.RefineEnds", spec := "refineEnds", unfollowed := true, recurses := true, apart := false }
def RefineEndsSaid : Prop := refineEndsRow.holds Try.pinned (OpenSpec.ofChange refineEndsSpec)

/-- ITS FALSE NEIGHBOUR: 'it returns false'. Refute it at one input. -/
def refineEndsWrong : ChangeSpec := { name := "refineEnds", fn := fun _ => fun
  | [d1, d2, d3, d4] => { results := [.lit (.bool false)], args := [d1, d2, d3, d4] }
  | _ => none }
def RefineEndsWrongFalsely : Prop := refineEndsRow.holds Try.pinned (OpenSpec.ofChange refineEndsWrong)

/-- 'sandtablelaw13.RefineFalls': WHATEVER THE INPUT: true; the input reads as it did. -/
def refineFallsSpec : ChangeSpec := { name := "refineFalls", fn := fun _ => fun
  | [d1, d2, d3, d4] => { results := [.lit (.bool true)], args := [d1, d2, d3, d4] }
  | _ => none }
def refineFallsRow : OpenClaim := { program := "ytepmgjohjeiopaa", sum := "555dfb7ead89d67d633b67add0f3ff60463add21874994c219e85f474147ba34", func := "sandtable/sandtablelaw13.RefineFalls", spec := "refineFalls", unfollowed := true, recurses := true, apart := false }
def RefineFallsSaid : Prop := refineFallsRow.holds Try.pinned (OpenSpec.ofChange refineFallsSpec)

/-- ITS FALSE NEIGHBOUR: 'it returns false'. Refute it at one input. -/
def refineFallsWrong : ChangeSpec := { name := "refineFalls", fn := fun _ => fun
  | [d1, d2, d3, d4] => { results := [.lit (.bool false)], args := [d1, d2, d3, d4] }
  | _ => none }
def RefineFallsWrongFalsely : Prop := refineFallsRow.holds Try.pinned (OpenSpec.ofChange refineFallsWrong)

/-- 'sandtablelaw13.RefineBounds': WHATEVER THE INPUT: true; the input reads as it did. -/
def refineBoundsSpec : ChangeSpec := { name := "refineBounds", fn := fun _ => fun
  | [d1, d2, d3, d4] => { results := [.lit (.bool true)], args := [d1, d2, d3, d4] }
  | _ => none }
def refineBoundsRow : OpenClaim := { program := "ytepmgjohjeiopaa", sum := "555dfb7ead89d67d633b67add0f3ff60463add21874994c219e85f474147ba34", func := "sandtable/sandtablelaw13.RefineBounds", spec := "refineBounds", unfollowed := true, recurses := true, apart := false }
def RefineBoundsSaid : Prop := refineBoundsRow.holds Try.pinned (OpenSpec.ofChange refineBoundsSpec)

/-- ITS FALSE NEIGHBOUR: 'it returns false'. Refute it at one input. -/
def refineBoundsWrong : ChangeSpec := { name := "refineBounds", fn := fun _ => fun
  | [d1, d2, d3, d4] => { results := [.lit (.bool false)], args := [d1, d2, d3, d4] }
  | _ => none }
def RefineBoundsWrongFalsely : Prop := refineBoundsRow.holds Try.pinned (OpenSpec.ofChange refineBoundsWrong)

/-- 'sandtablelaw13.RefineTwice': WHATEVER THE INPUT: true; the input reads as it did. -/
def refineTwiceSpec : ChangeSpec := { name := "refineTwice", fn := fun _ => fun
  | [d1, d2, d3, d4, d5] => { results := [.lit (.bool true)], args := [d1, d2, d3, d4, d5] }
  | _ => none }
def refineTwiceRow : OpenClaim := { program := "ytepmgjohjeiopaa", sum := "555dfb7ead89d67d633b67add0f3ff60463add21874994c219e85f474147ba34", func := "sandtable/sandtablelaw13.RefineTwice", spec := "refineTwice", unfollowed := true, recurses := true, apart := false }
def RefineTwiceSaid : Prop := refineTwiceRow.holds Try.pinned (OpenSpec.ofChange refineTwiceSpec)

/-- ITS FALSE NEIGHBOUR: 'it returns false'. Refute it at one input. -/
def refineTwiceWrong : ChangeSpec := { name := "refineTwice", fn := fun _ => fun
  | [d1, d2, d3, d4, d5] => { results := [.lit (.bool false)], args := [d1, d2, d3, d4, d5] }
  | _ => none }
def RefineTwiceWrongFalsely : Prop := refineTwiceRow.holds Try.pinned (OpenSpec.ofChange refineTwiceWrong)

/- THE SECOND FORM. 'bulk': how many values and letters a reading holds, each counted each time it is reached (what is shared counts as often as it is met; a slice's spare places count too). A statement '..UptoSaid' is the law's where the arguments, and the package variables that the reading takes, are together of bulk at most 1048576: NARROWER than '..Said'. Prove '..Said' where nothing that the law and all that it calls make is longer than what came in: it says more and counts as full. Else prove '..UptoSaid'. A law counts once. -/
mutual
def uptoBulk {H : Type} : DataW H → Nat
  | .lit (.string bytes) => bytes.length + 1
  | .lit _ => 1
  | .nil => 1
  | .ptr d => uptoBulk d + 1
  | .slice elems spare => uptoBulkAll elems + uptoBulkAll spare + 1
  | .agg parts => uptoBulkAll parts + 1
  | .iface _ d => uptoBulk d + 1
  | .map entries => uptoBulkEntries entries + 1
  | .held _ => 1
def uptoBulkAll {H : Type} : List (DataW H) → Nat
  | [] => 0
  | d :: r => uptoBulk d + uptoBulkAll r
def uptoBulkEntries {H : Type} : List (Lit × DataW H) → Nat
  | [] => 0
  | x :: r => uptoBulkEntry x + uptoBulkEntries r
def uptoBulkEntry {H : Type} : Lit × DataW H → Nat
  | (.string bytes, d) => bytes.length + uptoBulk d + 1
  | (_, d) => uptoBulk d + 1
 end
def uptoSmall : (H : Type) → List (DataW H) → Bool := fun _ ds => decide (uptoBulkAll ds ≤ 1048576)
def OpenSpec.upto (s : _root_.Go.ChangeSpec) : _root_.Go.OpenSpec := { _root_.Go.OpenSpec.ofChange s with cond := some uptoSmall }

/-- 'sandtablelaw09.CutParts', WHERE WHAT IT READS IS OF BULK AT MOST 1048576: true; the input reads as it did. -/
def cutPartsUptoRow : OpenClaim := { program := "ytepmgjohjeiopaa", sum := "555dfb7ead89d67d633b67add0f3ff60463add21874994c219e85f474147ba34", func := "sandtable/sandtablelaw09.CutParts", spec := "cutParts", unfollowed := true, recurses := true, apart := false, narrowed := true }
def CutPartsUptoSaid : Prop := cutPartsUptoRow.holds Try.pinned (OpenSpec.upto cutPartsSpec)

/-- 'sandtablelaw12.GrowHalves', WHERE WHAT IT READS IS OF BULK AT MOST 1048576: true; the input reads as it did. -/
def growHalvesUptoRow : OpenClaim := { program := "ytepmgjohjeiopaa", sum := "555dfb7ead89d67d633b67add0f3ff60463add21874994c219e85f474147ba34", func := "sandtable/sandtablelaw12.GrowHalves", spec := "growHalves", unfollowed := true, recurses := true, apart := false, narrowed := true }
def GrowHalvesUptoSaid : Prop := growHalvesUptoRow.holds Try.pinned (OpenSpec.upto growHalvesSpec)

/-- 'sandtablelaw12.GrowFills', WHERE WHAT IT READS IS OF BULK AT MOST 1048576: true; the input reads as it did. -/
def growFillsUptoRow : OpenClaim := { program := "ytepmgjohjeiopaa", sum := "555dfb7ead89d67d633b67add0f3ff60463add21874994c219e85f474147ba34", func := "sandtable/sandtablelaw12.GrowFills", spec := "growFills", unfollowed := true, recurses := true, apart := false, narrowed := true }
def GrowFillsUptoSaid : Prop := growFillsUptoRow.holds Try.pinned (OpenSpec.upto growFillsSpec)

/-- 'sandtablelaw12.GrowPulls', WHERE WHAT IT READS IS OF BULK AT MOST 1048576: true; the input reads as it did. -/
def growPullsUptoRow : OpenClaim := { program := "ytepmgjohjeiopaa", sum := "555dfb7ead89d67d633b67add0f3ff60463add21874994c219e85f474147ba34", func := "sandtable/sandtablelaw12.GrowPulls", spec := "growPulls", unfollowed := true, recurses := true, apart := false, narrowed := true }
def GrowPullsUptoSaid : Prop := growPullsUptoRow.holds Try.pinned (OpenSpec.upto growPullsSpec)

/-- 'sandtablelaw12.GrowFirst', WHERE WHAT IT READS IS OF BULK AT MOST 1048576: true; the input reads as it did. -/
def growFirstUptoRow : OpenClaim := { program := "ytepmgjohjeiopaa", sum := "555dfb7ead89d67d633b67add0f3ff60463add21874994c219e85f474147ba34", func := "sandtable/sandtablelaw12.GrowFirst", spec := "growFirst", unfollowed := true, recurses := true, apart := false, narrowed := true }
def GrowFirstUptoSaid : Prop := growFirstUptoRow.holds Try.pinned (OpenSpec.upto growFirstSpec)

/-- 'sandtablelaw13.RefineMoves', WHERE WHAT IT READS IS OF BULK AT MOST 1048576: true; the input reads as it did. -/
def refineMovesUptoRow : OpenClaim := { program := "ytepmgjohjeiopaa", sum := "555dfb7ead89d67d633b67add0f3ff60463add21874994c219e85f474147ba34", func := "sandtable/sandtablelaw13.RefineMoves", spec := "refineMoves", unfollowed := true, recurses := true, apart := false, narrowed := true }
def RefineMovesUptoSaid : Prop := refineMovesUptoRow.holds Try.pinned (OpenSpec.upto refineMovesSpec)

/-- 'sandtablelaw13.RefineEnds', WHERE WHAT IT READS IS OF BULK AT MOST 1048576: true; the input reads as it did. -/
def refineEndsUptoRow : OpenClaim := { program := "ytepmgjohjeiopaa", sum := "555dfb7ead89d67d633b67add0f3ff60463add21874994c219e85f474147ba34", func := "sandtable/sandtablelaw13.RefineEnds", spec := "refineEnds", unfollowed := true, recurses := true, apart := false, narrowed := true }
def RefineEndsUptoSaid : Prop := refineEndsUptoRow.holds Try.pinned (OpenSpec.upto refineEndsSpec)

/-- 'sandtablelaw13.RefineFalls', WHERE WHAT IT READS IS OF BULK AT MOST 1048576: true; the input reads as it did. -/
def refineFallsUptoRow : OpenClaim := { program := "ytepmgjohjeiopaa", sum := "555dfb7ead89d67d633b67add0f3ff60463add21874994c219e85f474147ba34", func := "sandtable/sandtablelaw13.RefineFalls", spec := "refineFalls", unfollowed := true, recurses := true, apart := false, narrowed := true }
def RefineFallsUptoSaid : Prop := refineFallsUptoRow.holds Try.pinned (OpenSpec.upto refineFallsSpec)

/-- 'sandtablelaw13.RefineBounds', WHERE WHAT IT READS IS OF BULK AT MOST 1048576: true; the input reads as it did. -/
def refineBoundsUptoRow : OpenClaim := { program := "ytepmgjohjeiopaa", sum := "555dfb7ead89d67d633b67add0f3ff60463add21874994c219e85f474147ba34", func := "sandtable/sandtablelaw13.RefineBounds", spec := "refineBounds", unfollowed := true, recurses := true, apart := false, narrowed := true }
def RefineBoundsUptoSaid : Prop := refineBoundsUptoRow.holds Try.pinned (OpenSpec.upto refineBoundsSpec)

/-- 'sandtablelaw13.RefineTwice', WHERE WHAT IT READS IS OF BULK AT MOST 1048576: true; the input reads as it did. -/
def refineTwiceUptoRow : OpenClaim := { program := "ytepmgjohjeiopaa", sum := "555dfb7ead89d67d633b67add0f3ff60463add21874994c219e85f474147ba34", func := "sandtable/sandtablelaw13.RefineTwice", spec := "refineTwice", unfollowed := true, recurses := true, apart := false, narrowed := true }
def RefineTwiceUptoSaid : Prop := refineTwiceUptoRow.holds Try.pinned (OpenSpec.upto refineTwiceSpec)

end Rows
end Go.Proofs.Ytepmgjohjeiopaa
