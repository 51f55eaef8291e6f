/-
  No cell of these rows narrows 'for every input' (looked for: loops, veiled, ifaces, maps, wideKeys, modest, calm, conditions, laid).
  DERIVED. THE GIVEN ROWS OF THIS SEAT. 8 by the template 'for every input the law returns true; each argument reads behind the call as it read before'; 0 by the template 'total and deterministic' (their statements: YtbjgfkiaoffhlaaTotals.lean).
  GIVEN WITH THE SEED: the statements are not yours to turn. If you find one false, say at which input.
  Laid BY PROGRAM, IN A SANDBOX (cutbox-rows.mjs): the forced cells as the released guide's own fill.sh prints them over the translation 9284ac7462854720… (all of the seat's roots in one cut). By AI agents, Wed Nov 11 2026. No macro, syntax, notation, axiom, sorry.
-/
import Derived.Test.YtbjgfkiaoffhlaaChecked
import GoSem.Claim
import GoSem.ClaimJoined
import GoSem.ClaimMapViews
import Derived.JoinedTies
import Derived.KernelRfl
namespace Go.Proofs.Ytbjgfkiaoffhlaa
/- THE CELL 'sum', in the pinned program and in every row, IS THE sha256 OF THE DUMP (.gsa) THAT YtbjgfkiaoffhlaaProg.lean LOADS. Nothing in Lean hashes anything: it is a label: what it is worth is what the hold of that sum in a sandbox is worth. -/
noncomputable def Try.pinned : Pinned := { name := "ytbjgfkiaoffhlaa", sum := "9284ac7462854720af39485cc6074dcfeff9b465deccf056f5fb9e7425b55e6b", checked := Try.checked }
namespace Rows
def none {H : Type} : Left H := { results := [], args := [] }

/-- 'sandtablelaw10.PairingLists': WHATEVER THE INPUT: true; the input reads as it did. -/
def pairingListsSpec : ChangeSpec := { name := "pairingLists", fn := fun _ => fun
  | [d1, d2, d3, d4] => { results := [.lit (.bool true)], args := [d1, d2, d3, d4] }
  | _ => none }
def pairingListsRow : OpenClaim := { program := "ytbjgfkiaoffhlaa", sum := "9284ac7462854720af39485cc6074dcfeff9b465deccf056f5fb9e7425b55e6b", func := "sandtable/sandtablelaw10.PairingLists", spec := "pairingLists", unfollowed := true, recurses := true, apart := false }
def PairingListsSaid : Prop := pairingListsRow.holds Try.pinned (OpenSpec.ofChange pairingListsSpec)

/-- ITS FALSE NEIGHBOUR: 'it returns false'. Refute it at one input. -/
def pairingListsWrong : ChangeSpec := { name := "pairingLists", fn := fun _ => fun
  | [d1, d2, d3, d4] => { results := [.lit (.bool false)], args := [d1, d2, d3, d4] }
  | _ => none }
def PairingListsWrongFalsely : Prop := pairingListsRow.holds Try.pinned (OpenSpec.ofChange pairingListsWrong)

/-- 'sandtablelaw10.PairingWhole': WHATEVER THE INPUT: true; the input reads as it did. -/
def pairingWholeSpec : ChangeSpec := { name := "pairingWhole", fn := fun _ => fun
  | [d1, d2] => { results := [.lit (.bool true)], args := [d1, d2] }
  | _ => none }
def pairingWholeRow : OpenClaim := { program := "ytbjgfkiaoffhlaa", sum := "9284ac7462854720af39485cc6074dcfeff9b465deccf056f5fb9e7425b55e6b", func := "sandtable/sandtablelaw10.PairingWhole", spec := "pairingWhole", unfollowed := true, recurses := true, apart := false }
def PairingWholeSaid : Prop := pairingWholeRow.holds Try.pinned (OpenSpec.ofChange pairingWholeSpec)

/-- ITS FALSE NEIGHBOUR: 'it returns false'. Refute it at one input. -/
def pairingWholeWrong : ChangeSpec := { name := "pairingWhole", fn := fun _ => fun
  | [d1, d2] => { results := [.lit (.bool false)], args := [d1, d2] }
  | _ => none }
def PairingWholeWrongFalsely : Prop := pairingWholeRow.holds Try.pinned (OpenSpec.ofChange pairingWholeWrong)

/-- 'sandtablelaw10.PairingCounts': WHATEVER THE INPUT: true; the input reads as it did. -/
def pairingCountsSpec : ChangeSpec := { name := "pairingCounts", fn := fun _ => fun
  | [d] => { results := [.lit (.bool true)], args := [d] }
  | _ => none }
def pairingCountsRow : OpenClaim := { program := "ytbjgfkiaoffhlaa", sum := "9284ac7462854720af39485cc6074dcfeff9b465deccf056f5fb9e7425b55e6b", func := "sandtable/sandtablelaw10.PairingCounts", spec := "pairingCounts", unfollowed := true, recurses := true, apart := false }
def PairingCountsSaid : Prop := pairingCountsRow.holds Try.pinned (OpenSpec.ofChange pairingCountsSpec)

/-- ITS FALSE NEIGHBOUR: 'it returns false'. Refute it at one input. -/
def pairingCountsWrong : ChangeSpec := { name := "pairingCounts", fn := fun _ => fun
  | [d] => { results := [.lit (.bool false)], args := [d] }
  | _ => none }
def PairingCountsWrongFalsely : Prop := pairingCountsRow.holds Try.pinned (OpenSpec.ofChange pairingCountsWrong)

/-- 'sandtablelaw10.PairingFirst': WHATEVER THE INPUT: true; the input reads as it did. -/
def pairingFirstSpec : ChangeSpec := { name := "pairingFirst", fn := fun _ => fun
  | [d1, d2] => { results := [.lit (.bool true)], args := [d1, d2] }
  | _ => none }
def pairingFirstRow : OpenClaim := { program := "ytbjgfkiaoffhlaa", sum := "9284ac7462854720af39485cc6074dcfeff9b465deccf056f5fb9e7425b55e6b", func := "sandtable/sandtablelaw10.PairingFirst", spec := "pairingFirst", unfollowed := true, recurses := true, apart := false }
def PairingFirstSaid : Prop := pairingFirstRow.holds Try.pinned (OpenSpec.ofChange pairingFirstSpec)

/-- ITS FALSE NEIGHBOUR: 'it returns false'. Refute it at one input. -/
def pairingFirstWrong : ChangeSpec := { name := "pairingFirst", fn := fun _ => fun
  | [d1, d2] => { results := [.lit (.bool false)], args := [d1, d2] }
  | _ => none }
def PairingFirstWrongFalsely : Prop := pairingFirstRow.holds Try.pinned (OpenSpec.ofChange pairingFirstWrong)

/-- 'sandtablelaw11.CoarseShrinks': WHATEVER THE INPUT: true; the input reads as it did. -/
def coarseShrinksSpec : ChangeSpec := { name := "coarseShrinks", fn := fun _ => fun
  | [d1, d2, d3, d4, d5] => { results := [.lit (.bool true)], args := [d1, d2, d3, d4, d5] }
  | _ => none }
def coarseShrinksRow : OpenClaim := { program := "ytbjgfkiaoffhlaa", sum := "9284ac7462854720af39485cc6074dcfeff9b465deccf056f5fb9e7425b55e6b", func := "sandtable/sandtablelaw11.CoarseShrinks", spec := "coarseShrinks", unfollowed := true, recurses := true, apart := false }
def CoarseShrinksSaid : Prop := coarseShrinksRow.holds Try.pinned (OpenSpec.ofChange coarseShrinksSpec)

/-- ITS FALSE NEIGHBOUR: 'it returns false'. Refute it at one input. -/
def coarseShrinksWrong : ChangeSpec := { name := "coarseShrinks", fn := fun _ => fun
  | [d1, d2, d3, d4, d5] => { results := [.lit (.bool false)], args := [d1, d2, d3, d4, d5] }
  | _ => none }
def CoarseShrinksWrongFalsely : Prop := coarseShrinksRow.holds Try.pinned (OpenSpec.ofChange coarseShrinksWrong)

/-- 'sandtablelaw11.CoarseLevels': WHATEVER THE INPUT: true; the input reads as it did. -/
def coarseLevelsSpec : ChangeSpec := { name := "coarseLevels", fn := fun _ => fun
  | [d1, d2, d3, d4] => { results := [.lit (.bool true)], args := [d1, d2, d3, d4] }
  | _ => none }
def coarseLevelsRow : OpenClaim := { program := "ytbjgfkiaoffhlaa", sum := "9284ac7462854720af39485cc6074dcfeff9b465deccf056f5fb9e7425b55e6b", func := "sandtable/sandtablelaw11.CoarseLevels", spec := "coarseLevels", unfollowed := true, recurses := true, apart := false }
def CoarseLevelsSaid : Prop := coarseLevelsRow.holds Try.pinned (OpenSpec.ofChange coarseLevelsSpec)

/-- ITS FALSE NEIGHBOUR: 'it returns false'. Refute it at one input. -/
def coarseLevelsWrong : ChangeSpec := { name := "coarseLevels", fn := fun _ => fun
  | [d1, d2, d3, d4] => { results := [.lit (.bool false)], args := [d1, d2, d3, d4] }
  | _ => none }
def CoarseLevelsWrongFalsely : Prop := coarseLevelsRow.holds Try.pinned (OpenSpec.ofChange coarseLevelsWrong)

/-- 'sandtablelaw11.CoarseCuts': WHATEVER THE INPUT: true; the input reads as it did. -/
def coarseCutsSpec : ChangeSpec := { name := "coarseCuts", fn := fun _ => fun
  | [d1, d2, d3, d4] => { results := [.lit (.bool true)], args := [d1, d2, d3, d4] }
  | _ => none }
def coarseCutsRow : OpenClaim := { program := "ytbjgfkiaoffhlaa", sum := "9284ac7462854720af39485cc6074dcfeff9b465deccf056f5fb9e7425b55e6b", func := "sandtable/sandtablelaw11.CoarseCuts", spec := "coarseCuts", unfollowed := true, recurses := true, apart := false }
def CoarseCutsSaid : Prop := coarseCutsRow.holds Try.pinned (OpenSpec.ofChange coarseCutsSpec)

/-- ITS FALSE NEIGHBOUR: 'it returns false'. Refute it at one input. -/
def coarseCutsWrong : ChangeSpec := { name := "coarseCuts", fn := fun _ => fun
  | [d1, d2, d3, d4] => { results := [.lit (.bool false)], args := [d1, d2, d3, d4] }
  | _ => none }
def CoarseCutsWrongFalsely : Prop := coarseCutsRow.holds Try.pinned (OpenSpec.ofChange coarseCutsWrong)

/-- 'sandtablelaw11.CoarseAlone': WHATEVER THE INPUT: true; the input reads as it did. -/
def coarseAloneSpec : ChangeSpec := { name := "coarseAlone", fn := fun _ => fun
  | [d1, d2, d3] => { results := [.lit (.bool true)], args := [d1, d2, d3] }
  | _ => none }
def coarseAloneRow : OpenClaim := { program := "ytbjgfkiaoffhlaa", sum := "9284ac7462854720af39485cc6074dcfeff9b465deccf056f5fb9e7425b55e6b", func := "sandtable/sandtablelaw11.CoarseAlone", spec := "coarseAlone", unfollowed := true, recurses := true, apart := false }
def CoarseAloneSaid : Prop := coarseAloneRow.holds Try.pinned (OpenSpec.ofChange coarseAloneSpec)

/-- ITS FALSE NEIGHBOUR: 'it returns false'. Refute it at one input. -/
def coarseAloneWrong : ChangeSpec := { name := "coarseAlone", fn := fun _ => fun
  | [d1, d2, d3] => { results := [.lit (.bool false)], args := [d1, d2, d3] }
  | _ => none }
def CoarseAloneWrongFalsely : Prop := coarseAloneRow.holds Try.pinned (OpenSpec.ofChange coarseAloneWrong)

/- THE SECOND FORM. 'bulk': how many values and letters a reading holds, each counted each time it is reached (what is shared counts as often as it is met; a slice's spare places count too). A statement '..UptoSaid' is the law's where the arguments, and the package variables that the reading takes, are together of bulk at most 1048576: NARROWER than '..Said'. Prove '..Said' where nothing that the law and all that it calls make is longer than what came in: it says more and counts as full. Else prove '..UptoSaid'. A law counts once. -/
mutual
def uptoBulk {H : Type} : DataW H → Nat
  | .lit (.string bytes) => bytes.length + 1
  | .lit _ => 1
  | .nil => 1
  | .ptr d => uptoBulk d + 1
  | .slice elems spare => uptoBulkAll elems + uptoBulkAll spare + 1
  | .agg parts => uptoBulkAll parts + 1
  | .iface _ d => uptoBulk d + 1
  | .map entries => uptoBulkEntries entries + 1
  | .held _ => 1
def uptoBulkAll {H : Type} : List (DataW H) → Nat
  | [] => 0
  | d :: r => uptoBulk d + uptoBulkAll r
def uptoBulkEntries {H : Type} : List (Lit × DataW H) → Nat
  | [] => 0
  | x :: r => uptoBulkEntry x + uptoBulkEntries r
def uptoBulkEntry {H : Type} : Lit × DataW H → Nat
  | (.string bytes, d) => bytes.length + uptoBulk d + 1
  | (_, d) => uptoBulk d + 1
 end
def uptoSmall : (H : Type) → List (DataW H) → Bool := fun _ ds => decide (uptoBulkAll ds ≤ 1048576)
def OpenSpec.upto (s : _root_.Go.ChangeSpec) : _root_.Go.OpenSpec := { _root_.Go.OpenSpec.ofChange s with cond := some uptoSmall }

/-- 'sandtablelaw10.PairingLists', WHERE WHAT IT READS IS OF BULK AT MOST 1048576: true; the input reads as it did. -/
def pairingListsUptoRow : OpenClaim := { program := "ytbjgfkiaoffhlaa", sum := "9284ac7462854720af39485cc6074dcfeff9b465deccf056f5fb9e7425b55e6b", func := "sandtable/sandtablelaw10.PairingLists", spec := "pairingLists", unfollowed := true, recurses := true, apart := false, narrowed := true }
def PairingListsUptoSaid : Prop := pairingListsUptoRow.holds Try.pinned (OpenSpec.upto pairingListsSpec)

/-- 'sandtablelaw10.PairingWhole', WHERE WHAT IT READS IS OF BULK AT MOST 1048576: true; the input reads as it did. -/
def pairingWholeUptoRow : OpenClaim := { program := "ytbjgfkiaoffhlaa", sum := "9284ac7462854720af39485cc6074dcfeff9b465deccf056f5fb9e7425b55e6b", func := "sandtable/sandtablelaw10.PairingWhole", spec := "pairingWhole", unfollowed := true, recurses := true, apart := false, narrowed := true }
def PairingWholeUptoSaid : Prop := pairingWholeUptoRow.holds Try.pinned (OpenSpec.upto pairingWholeSpec)

/-- 'sandtablelaw10.PairingCounts', WHERE WHAT IT READS IS OF BULK AT MOST 1048576: true; the input reads as it did. -/
def pairingCountsUptoRow : OpenClaim := { program := "ytbjgfkiaoffhlaa", sum := "9284ac7462854720af39485cc6074dcfeff9b465deccf056f5fb9e7425b55e6b", func := "sandtable/sandtablelaw10.PairingCounts", spec := "pairingCounts", unfollowed := true, recurses := true, apart := false, narrowed := true }
def PairingCountsUptoSaid : Prop := pairingCountsUptoRow.holds Try.pinned (OpenSpec.upto pairingCountsSpec)

/-- 'sandtablelaw10.PairingFirst', WHERE WHAT IT READS IS OF BULK AT MOST 1048576: true; the input reads as it did. -/
def pairingFirstUptoRow : OpenClaim := { program := "ytbjgfkiaoffhlaa", sum := "9284ac7462854720af39485cc6074dcfeff9b465deccf056f5fb9e7425b55e6b", func := "sandtable/sandtablelaw10.PairingFirst", spec := "pairingFirst", unfollowed := true, recurses := true, apart := false, narrowed := true }
def PairingFirstUptoSaid : Prop := pairingFirstUptoRow.holds Try.pinned (OpenSpec.upto pairingFirstSpec)

/-- 'sandtablelaw11.CoarseShrinks', WHERE WHAT IT READS IS OF BULK AT MOST 1048576: true; the input reads as it did. -/
def coarseShrinksUptoRow : OpenClaim := { program := "ytbjgfkiaoffhlaa", sum := "9284ac7462854720af39485cc6074dcfeff9b465deccf056f5fb9e7425b55e6b", func := "sandtable/sandtablelaw11.CoarseShrinks", spec := "coarseShrinks", unfollowed := true, recurses := true, apart := false, narrowed := true }
def CoarseShrinksUptoSaid : Prop := coarseShrinksUptoRow.holds Try.pinned (OpenSpec.upto coarseShrinksSpec)

/-- 'sandtablelaw11.CoarseLevels', WHERE WHAT IT READS IS OF BULK AT MOST 1048576: true; the input reads as it did. -/
def coarseLevelsUptoRow : OpenClaim := { program := "ytbjgfkiaoffhlaa", sum := "9284ac7462854720af39485cc6074dcfeff9b465deccf056f5fb9e7425b55e6b", func := "sandtable/sandtablelaw11.CoarseLevels", spec := "coarseLevels", unfollowed := true, recurses := true, apart := false, narrowed := true }
def CoarseLevelsUptoSaid : Prop := coarseLevelsUptoRow.holds Try.pinned (OpenSpec.upto coarseLevelsSpec)

/-- 'sandtablelaw11.CoarseCuts', WHERE WHAT IT READS IS OF BULK AT MOST 1048576: true; the input reads as it did. -/
def coarseCutsUptoRow : OpenClaim := { program := "ytbjgfkiaoffhlaa", sum := "9284ac7462854720af39485cc6074dcfeff9b465deccf056f5fb9e7425b55e6b", func := "sandtable/sandtablelaw11.CoarseCuts", spec := "coarseCuts", unfollowed := true, recurses := true, apart := false, narrowed := true }
def CoarseCutsUptoSaid : Prop := coarseCutsUptoRow.holds Try.pinned (OpenSpec.upto coarseCutsSpec)

/-- 'sandtablelaw11.CoarseAlone', WHERE WHAT IT READS IS OF BULK AT MOST 1048576: true; the input reads as it did. -/
def coarseAloneUptoRow : OpenClaim := { program := "ytbjgfkiaoffhlaa", sum := "9284ac7462854720af39485cc6074dcfeff9b465deccf056f5fb9e7425b55e6b", func := "sandtable/sandtablelaw11.CoarseAlone", spec := "coarseAlone", unfollowed := true, recurses := true, apart := false, narrowed := true }
def CoarseAloneUptoSaid : Prop := coarseAloneUptoRow.holds Try.pinned (OpenSpec.upto coarseAloneSpec)

end Rows
end Go.Proofs.Ytbjgfkiaoffhlaa
