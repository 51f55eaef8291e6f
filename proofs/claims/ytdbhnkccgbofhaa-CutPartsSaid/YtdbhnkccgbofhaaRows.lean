/-
  No cell of these rows narrows 'for every input' (looked for: loops, veiled, ifaces, maps, wideKeys, modest, calm, conditions, laid).
  DERIVED. THE GIVEN ROWS OF THIS SEAT. 12 by the template 'for every input the law returns true; each argument reads behind the call as it read before'; 0 by the template 'total and deterministic' (their statements: YtdbhnkccgbofhaaTotals.lean).
  GIVEN WITH THE SEED: the statements are not yours to turn. If you find one false, say at which input.
  Laid BY PROGRAM, IN A SANDBOX (cutbox-rows.mjs): the forced cells as the released guide's own fill.sh prints them over the translation adc674eb7abd029b… (all of the seat's roots in one cut). By AI agents, Wed Nov 11 2026. No macro, syntax, notation, axiom, sorry.
-/
import Derived.Test.YtdbhnkccgbofhaaChecked
import GoSem.Claim
import GoSem.ClaimJoined
import GoSem.ClaimMapViews
import Derived.JoinedTies
import Derived.KernelRfl
namespace Go.Proofs.Ytdbhnkccgbofhaa
/- THE CELL 'sum', in the pinned program and in every row, IS THE sha256 OF THE DUMP (.gsa) THAT YtdbhnkccgbofhaaProg.lean LOADS. Nothing in Lean hashes anything: it is a label: what it is worth is what the hold of that sum in a sandbox is worth. -/
noncomputable def Try.pinned : Pinned := { name := "ytdbhnkccgbofhaa", sum := "adc674eb7abd029b46c65e5c6966768a7deec30fcbcf73a69d7e9516f44fc819", checked := Try.checked }
namespace Rows
def none {H : Type} : Left H := { results := [], args := [] }

/-- 'sandtablelaw09.CutParts': WHATEVER THE INPUT: true; the input reads as it did. -/
def cutPartsSpec : ChangeSpec := { name := "cutParts", fn := fun _ => fun
  | [d1, d2, d3, d4, d5, d6, d7] => { results := [.lit (.bool true)], args := [d1, d2, d3, d4, d5, d6, d7] }
  | _ => none }
def cutPartsRow : OpenClaim := { program := "ytdbhnkccgbofhaa", sum := "adc674eb7abd029b46c65e5c6966768a7deec30fcbcf73a69d7e9516f44fc819", func := "sandtable/sandtablelaw09.CutParts", spec := "cutParts", unfollowed := true, recurses := true, apart := false }
def CutPartsSaid : Prop := cutPartsRow.holds Try.pinned (OpenSpec.ofChange cutPartsSpec)

/-- ITS FALSE NEIGHBOUR: 'it returns false'. Refute it at one input. -/
def cutPartsWrong : ChangeSpec := { name := "cutParts", fn := fun _ => fun
  | [d1, d2, d3, d4, d5, d6, d7] => { results := [.lit (.bool false)], args := [d1, d2, d3, d4, d5, d6, d7] }
  | _ => none }
def CutPartsWrongFalsely : Prop := cutPartsRow.holds Try.pinned (OpenSpec.ofChange cutPartsWrong)

/-- 'sandtablelaw09.CutGains': WHATEVER THE INPUT: true; the input reads as it did. -/
def cutGainsSpec : ChangeSpec := { name := "cutGains", fn := fun _ => fun
  | [d1, d2, d3, d4, d5, d6] => { results := [.lit (.bool true)], args := [d1, d2, d3, d4, d5, d6] }
  | _ => none }
def cutGainsRow : OpenClaim := { program := "ytdbhnkccgbofhaa", sum := "adc674eb7abd029b46c65e5c6966768a7deec30fcbcf73a69d7e9516f44fc819", func := "sandtable/sandtablelaw09.CutGains", spec := "cutGains", unfollowed := true, recurses := true, apart := false }
def CutGainsSaid : Prop := cutGainsRow.holds Try.pinned (OpenSpec.ofChange cutGainsSpec)

/-- ITS FALSE NEIGHBOUR: 'it returns false'. Refute it at one input. -/
def cutGainsWrong : ChangeSpec := { name := "cutGains", fn := fun _ => fun
  | [d1, d2, d3, d4, d5, d6] => { results := [.lit (.bool false)], args := [d1, d2, d3, d4, d5, d6] }
  | _ => none }
def CutGainsWrongFalsely : Prop := cutGainsRow.holds Try.pinned (OpenSpec.ofChange cutGainsWrong)

/-- 'sandtablelaw09.CutNames': WHATEVER THE INPUT: true; the input reads as it did. -/
def cutNamesSpec : ChangeSpec := { name := "cutNames", fn := fun _ => fun
  | [d1, d2, d3, d4] => { results := [.lit (.bool true)], args := [d1, d2, d3, d4] }
  | _ => none }
def cutNamesRow : OpenClaim := { program := "ytdbhnkccgbofhaa", sum := "adc674eb7abd029b46c65e5c6966768a7deec30fcbcf73a69d7e9516f44fc819", func := "sandtable/sandtablelaw09.CutNames", spec := "cutNames", unfollowed := true, recurses := true, apart := false }
def CutNamesSaid : Prop := cutNamesRow.holds Try.pinned (OpenSpec.ofChange cutNamesSpec)

/-- ITS FALSE NEIGHBOUR: 'it returns false'. Refute it at one input. -/
def cutNamesWrong : ChangeSpec := { name := "cutNames", fn := fun _ => fun
  | [d1, d2, d3, d4] => { results := [.lit (.bool false)], args := [d1, d2, d3, d4] }
  | _ => none }
def CutNamesWrongFalsely : Prop := cutNamesRow.holds Try.pinned (OpenSpec.ofChange cutNamesWrong)

/-- 'sandtablelaw09.CutBounds': WHATEVER THE INPUT: true; the input reads as it did. -/
def cutBoundsSpec : ChangeSpec := { name := "cutBounds", fn := fun _ => fun
  | [d1, d2, d3, d4] => { results := [.lit (.bool true)], args := [d1, d2, d3, d4] }
  | _ => none }
def cutBoundsRow : OpenClaim := { program := "ytdbhnkccgbofhaa", sum := "adc674eb7abd029b46c65e5c6966768a7deec30fcbcf73a69d7e9516f44fc819", func := "sandtable/sandtablelaw09.CutBounds", spec := "cutBounds", unfollowed := true, recurses := true, apart := false }
def CutBoundsSaid : Prop := cutBoundsRow.holds Try.pinned (OpenSpec.ofChange cutBoundsSpec)

/-- ITS FALSE NEIGHBOUR: 'it returns false'. Refute it at one input. -/
def cutBoundsWrong : ChangeSpec := { name := "cutBounds", fn := fun _ => fun
  | [d1, d2, d3, d4] => { results := [.lit (.bool false)], args := [d1, d2, d3, d4] }
  | _ => none }
def CutBoundsWrongFalsely : Prop := cutBoundsRow.holds Try.pinned (OpenSpec.ofChange cutBoundsWrong)

/-- 'sandtablelaw10.PairingLists': WHATEVER THE INPUT: true; the input reads as it did. -/
def pairingListsSpec : ChangeSpec := { name := "pairingLists", fn := fun _ => fun
  | [d1, d2, d3, d4] => { results := [.lit (.bool true)], args := [d1, d2, d3, d4] }
  | _ => none }
def pairingListsRow : OpenClaim := { program := "ytdbhnkccgbofhaa", sum := "adc674eb7abd029b46c65e5c6966768a7deec30fcbcf73a69d7e9516f44fc819", func := "sandtable/sandtablelaw10.PairingLists", spec := "pairingLists", unfollowed := true, recurses := true, apart := false }
def PairingListsSaid : Prop := pairingListsRow.holds Try.pinned (OpenSpec.ofChange pairingListsSpec)

/-- ITS FALSE NEIGHBOUR: 'it returns false'. Refute it at one input. -/
def pairingListsWrong : ChangeSpec := { name := "pairingLists", fn := fun _ => fun
  | [d1, d2, d3, d4] => { results := [.lit (.bool false)], args := [d1, d2, d3, d4] }
  | _ => none }
def PairingListsWrongFalsely : Prop := pairingListsRow.holds Try.pinned (OpenSpec.ofChange pairingListsWrong)

/-- 'sandtablelaw10.PairingWhole': WHATEVER THE INPUT: true; the input reads as it did. -/
def pairingWholeSpec : ChangeSpec := { name := "pairingWhole", fn := fun _ => fun
  | [d1, d2] => { results := [.lit (.bool true)], args := [d1, d2] }
  | _ => none }
def pairingWholeRow : OpenClaim := { program := "ytdbhnkccgbofhaa", sum := "adc674eb7abd029b46c65e5c6966768a7deec30fcbcf73a69d7e9516f44fc819", func := "sandtable/sandtablelaw10.PairingWhole", spec := "pairingWhole", unfollowed := true, recurses := true, apart := false }
def PairingWholeSaid : Prop := pairingWholeRow.holds Try.pinned (OpenSpec.ofChange pairingWholeSpec)

/-- ITS FALSE NEIGHBOUR: 'it returns false'. Refute it at one input. -/
def pairingWholeWrong : ChangeSpec := { name := "pairingWhole", fn := fun _ => fun
  | [d1, d2] => { results := [.lit (.bool false)], args := [d1, d2] }
  | _ => none }
def PairingWholeWrongFalsely : Prop := pairingWholeRow.holds Try.pinned (OpenSpec.ofChange pairingWholeWrong)

/-- 'sandtablelaw10.PairingCounts': WHATEVER THE INPUT: true; the input reads as it did. -/
def pairingCountsSpec : ChangeSpec := { name := "pairingCounts", fn := fun _ => fun
  | [d] => { results := [.lit (.bool true)], args := [d] }
  | _ => none }
def pairingCountsRow : OpenClaim := { program := "ytdbhnkccgbofhaa", sum := "adc674eb7abd029b46c65e5c6966768a7deec30fcbcf73a69d7e9516f44fc819", func := "sandtable/sandtablelaw10.PairingCounts", spec := "pairingCounts", unfollowed := true, recurses := true, apart := false }
def PairingCountsSaid : Prop := pairingCountsRow.holds Try.pinned (OpenSpec.ofChange pairingCountsSpec)

/-- ITS FALSE NEIGHBOUR: 'it returns false'. Refute it at one input. -/
def pairingCountsWrong : ChangeSpec := { name := "pairingCounts", fn := fun _ => fun
  | [d] => { results := [.lit (.bool false)], args := [d] }
  | _ => none }
def PairingCountsWrongFalsely : Prop := pairingCountsRow.holds Try.pinned (OpenSpec.ofChange pairingCountsWrong)

/-- 'sandtablelaw10.PairingFirst': WHATEVER THE INPUT: true; the input reads as it did. -/
def pairingFirstSpec : ChangeSpec := { name := "pairingFirst", fn := fun _ => fun
  | [d1, d2] => { results := [.lit (.bool true)], args := [d1, d2] }
  | _ => none }
def pairingFirstRow : OpenClaim := { program := "ytdbhnkccgbofhaa", sum := "adc674eb7abd029b46c65e5c6966768a7deec30fcbcf73a69d7e9516f44fc819", func := "sandtable/sandtablelaw10.PairingFirst", spec := "pairingFirst", unfollowed := true, recurses := true, apart := false }
def PairingFirstSaid : Prop := pairingFirstRow.holds Try.pinned (OpenSpec.ofChange pairingFirstSpec)

/-- ITS FALSE NEIGHBOUR: 'it returns false'. Refute it at one input. -/
def pairingFirstWrong : ChangeSpec := { name := "pairingFirst", fn := fun _ => fun
  | [d1, d2] => { results := [.lit (.bool false)], args := [d1, d2] }
  | _ => none }
def PairingFirstWrongFalsely : Prop := pairingFirstRow.holds Try.pinned (OpenSpec.ofChange pairingFirstWrong)

/-- 'sandtablelaw12.GrowHalves': WHATEVER THE INPUT: true; the input reads as it did. -/
def growHalvesSpec : ChangeSpec := { name := "growHalves", fn := fun _ => fun
  | [d1, d2, d3, d4, d5, d6, d7] => { results := [.lit (.bool true)], args := [d1, d2, d3, d4, d5, d6, d7] }
  | _ => none }
def growHalvesRow : OpenClaim := { program := "ytdbhnkccgbofhaa", sum := "adc674eb7abd029b46c65e5c6966768a7deec30fcbcf73a69d7e9516f44fc819", func := "sandtable/sandtablelaw12.GrowHalves", spec := "growHalves", unfollowed := true, recurses := true, apart := false }
def GrowHalvesSaid : Prop := growHalvesRow.holds Try.pinned (OpenSpec.ofChange growHalvesSpec)

/-- ITS FALSE NEIGHBOUR: 'it returns false'. Refute it at one input. -/
def growHalvesWrong : ChangeSpec := { name := "growHalves", fn := fun _ => fun
  | [d1, d2, d3, d4, d5, d6, d7] => { results := [.lit (.bool false)], args := [d1, d2, d3, d4, d5, d6, d7] }
  | _ => none }
def GrowHalvesWrongFalsely : Prop := growHalvesRow.holds Try.pinned (OpenSpec.ofChange growHalvesWrong)

/-- 'sandtablelaw12.GrowFills': WHATEVER THE INPUT: true; the input reads as it did. -/
def growFillsSpec : ChangeSpec := { name := "growFills", fn := fun _ => fun
  | [d1, d2, d3] => { results := [.lit (.bool true)], args := [d1, d2, d3] }
  | _ => none }
def growFillsRow : OpenClaim := { program := "ytdbhnkccgbofhaa", sum := "adc674eb7abd029b46c65e5c6966768a7deec30fcbcf73a69d7e9516f44fc819", func := "sandtable/sandtablelaw12.GrowFills", spec := "growFills", unfollowed := true, recurses := true, apart := false }
def GrowFillsSaid : Prop := growFillsRow.holds Try.pinned (OpenSpec.ofChange growFillsSpec)

/-- ITS FALSE NEIGHBOUR: 'it returns false'. Refute it at one input. -/
def growFillsWrong : ChangeSpec := { name := "growFills", fn := fun _ => fun
  | [d1, d2, d3] => { results := [.lit (.bool false)], args := [d1, d2, d3] }
  | _ => none }
def GrowFillsWrongFalsely : Prop := growFillsRow.holds Try.pinned (OpenSpec.ofChange growFillsWrong)

/-- 'sandtablelaw12.GrowPulls': WHATEVER THE INPUT: true; the input reads as it did. -/
def growPullsSpec : ChangeSpec := { name := "growPulls", fn := fun _ => fun
  | [d1, d2, d3] => { results := [.lit (.bool true)], args := [d1, d2, d3] }
  | _ => none }
def growPullsRow : OpenClaim := { program := "ytdbhnkccgbofhaa", sum := "adc674eb7abd029b46c65e5c6966768a7deec30fcbcf73a69d7e9516f44fc819", func := "sandtable/sandtablelaw12.GrowPulls", spec := "growPulls", unfollowed := true, recurses := true, apart := false }
def GrowPullsSaid : Prop := growPullsRow.holds Try.pinned (OpenSpec.ofChange growPullsSpec)

/-- ITS FALSE NEIGHBOUR: 'it returns false'. Refute it at one input. -/
def growPullsWrong : ChangeSpec := { name := "growPulls", fn := fun _ => fun
  | [d1, d2, d3] => { results := [.lit (.bool false)], args := [d1, d2, d3] }
  | _ => none }
def GrowPullsWrongFalsely : Prop := growPullsRow.holds Try.pinned (OpenSpec.ofChange growPullsWrong)

/-- 'sandtablelaw12.GrowFirst': WHATEVER THE INPUT: true; the input reads as it did. -/
def growFirstSpec : ChangeSpec := { name := "growFirst", fn := fun _ => fun
  | [d1, d2] => { results := [.lit (.bool true)], args := [d1, d2] }
  | _ => none }
def growFirstRow : OpenClaim := { program := "ytdbhnkccgbofhaa", sum := "adc674eb7abd029b46c65e5c6966768a7deec30fcbcf73a69d7e9516f44fc819", func := "sandtable/sandtablelaw12.GrowFirst", spec := "growFirst", unfollowed := true, recurses := true, apart := false }
def GrowFirstSaid : Prop := growFirstRow.holds Try.pinned (OpenSpec.ofChange growFirstSpec)

/-- ITS FALSE NEIGHBOUR: 'it returns false'. Refute it at one input. -/
def growFirstWrong : ChangeSpec := { name := "growFirst", fn := fun _ => fun
  | [d1, d2] => { results := [.lit (.bool false)], args := [d1, d2] }
  | _ => none }
def GrowFirstWrongFalsely : Prop := growFirstRow.holds Try.pinned (OpenSpec.ofChange growFirstWrong)

/- THE SECOND FORM. 'bulk': how many values and letters a reading holds, each counted each time it is reached (what is shared counts as often as it is met; a slice's spare places count too). A statement '..UptoSaid' is the law's where the arguments, and the package variables that the reading takes, are together of bulk at most 1048576: NARROWER than '..Said'. Prove '..Said' where nothing that the law and all that it calls make is longer than what came in: it says more and counts as full. Else prove '..UptoSaid'. A law counts once. -/
mutual
def uptoBulk {H : Type} : DataW H → Nat
  | .lit (.string bytes) => bytes.length + 1
  | .lit _ => 1
  | .nil => 1
  | .ptr d => uptoBulk d + 1
  | .slice elems spare => uptoBulkAll elems + uptoBulkAll spare + 1
  | .agg parts => uptoBulkAll parts + 1
  | .iface _ d => uptoBulk d + 1
  | .map entries => uptoBulkEntries entries + 1
  | .held _ => 1
def uptoBulkAll {H : Type} : List (DataW H) → Nat
  | [] => 0
  | d :: r => uptoBulk d + uptoBulkAll r
def uptoBulkEntries {H : Type} : List (Lit × DataW H) → Nat
  | [] => 0
  | x :: r => uptoBulkEntry x + uptoBulkEntries r
def uptoBulkEntry {H : Type} : Lit × DataW H → Nat
  | (.string bytes, d) => bytes.length + uptoBulk d + 1
  | (_, d) => uptoBulk d + 1
 end
def uptoSmall : (H : Type) → List (DataW H) → Bool := fun _ ds => decide (uptoBulkAll ds ≤ 1048576)
def OpenSpec.upto (s : _root_.Go.ChangeSpec) : _root_.Go.OpenSpec := { _root_.Go.OpenSpec.ofChange s with cond := some uptoSmall }

/-- 'sandtablelaw09.CutParts', WHERE WHAT IT READS IS OF BULK AT MOST 1048576: true; the input reads as it did. -/
def cutPartsUptoRow : OpenClaim := { program := "ytdbhnkccgbofhaa", sum := "adc674eb7abd029b46c65e5c6966768a7deec30fcbcf73a69d7e9516f44fc819", func := "sandtable/sandtablelaw09.CutParts", spec := "cutParts", unfollowed := true, recurses := true, apart := false, narrowed := true }
def CutPartsUptoSaid : Prop := cutPartsUptoRow.holds Try.pinned (OpenSpec.upto cutPartsSpec)

/-- 'sandtablelaw09.CutGains', WHERE WHAT IT READS IS OF BULK AT MOST 1048576: true; the input reads as it did. -/
def cutGainsUptoRow : OpenClaim := { program := "ytdbhnkccgbofhaa", sum := "adc674eb7abd029b46c65e5c6966768a7deec30fcbcf73a69d7e9516f44fc819", func := "sandtable/sandtablelaw09.CutGains", spec := "cutGains", unfollowed := true, recurses := true, apart := false, narrowed := true }
def CutGainsUptoSaid : Prop := cutGainsUptoRow.holds Try.pinned (OpenSpec.upto cutGainsSpec)

/-- 'sandtablelaw09.CutNames', WHERE WHAT IT READS IS OF BULK AT MOST 1048576: true; the input reads as it did. -/
def cutNamesUptoRow : OpenClaim := { program := "ytdbhnkccgbofhaa", sum := "adc674eb7abd029b46c65e5c6966768a7deec30fcbcf73a69d7e9516f44fc819", func := "sandtable/sandtablelaw09.CutNames", spec := "cutNames", unfollowed := true, recurses := true, apart := false, narrowed := true }
def CutNamesUptoSaid : Prop := cutNamesUptoRow.holds Try.pinned (OpenSpec.upto cutNamesSpec)

/-- 'sandtablelaw09.CutBounds', WHERE WHAT IT READS IS OF BULK AT MOST 1048576: true; the input reads as it did. -/
def cutBoundsUptoRow : OpenClaim := { program := "ytdbhnkccgbofhaa", sum := "adc674eb7abd029b46c65e5c6966768a7deec30fcbcf73a69d7e9516f44fc819", func := "sandtable/sandtablelaw09.CutBounds", spec := "cutBounds", unfollowed := true, recurses := true, apart := false, narrowed := true }
def CutBoundsUptoSaid : Prop := cutBoundsUptoRow.holds Try.pinned (OpenSpec.upto cutBoundsSpec)

/-- 'sandtablelaw10.PairingLists', WHERE WHAT IT READS IS OF BULK AT MOST 1048576: true; the input reads as it did. -/
def pairingListsUptoRow : OpenClaim := { program := "ytdbhnkccgbofhaa", sum := "adc674eb7abd029b46c65e5c6966768a7deec30fcbcf73a69d7e9516f44fc819", func := "sandtable/sandtablelaw10.PairingLists", spec := "pairingLists", unfollowed := true, recurses := true, apart := false, narrowed := true }
def PairingListsUptoSaid : Prop := pairingListsUptoRow.holds Try.pinned (OpenSpec.upto pairingListsSpec)

/-- 'sandtablelaw10.PairingWhole', WHERE WHAT IT READS IS OF BULK AT MOST 1048576: true; the input reads as it did. -/
def pairingWholeUptoRow : OpenClaim := { program := "ytdbhnkccgbofhaa", sum := "adc674eb7abd029b46c65e5c6966768a7deec30fcbcf73a69d7e9516f44fc819", func := "sandtable/sandtablelaw10.PairingWhole", spec := "pairingWhole", unfollowed := true, recurses := true, apart := false, narrowed := true }
def PairingWholeUptoSaid : Prop := pairingWholeUptoRow.holds Try.pinned (OpenSpec.upto pairingWholeSpec)

/-- 'sandtablelaw10.PairingCounts', WHERE WHAT IT READS IS OF BULK AT MOST 1048576: true; the input reads as it did. -/
def pairingCountsUptoRow : OpenClaim := { program := "ytdbhnkccgbofhaa", sum := "adc674eb7abd029b46c65e5c6966768a7deec30fcbcf73a69d7e9516f44fc819", func := "sandtable/sandtablelaw10.PairingCounts", spec := "pairingCounts", unfollowed := true, recurses := true, apart := false, narrowed := true }
def PairingCountsUptoSaid : Prop := pairingCountsUptoRow.holds Try.pinned (OpenSpec.upto pairingCountsSpec)

/-- 'sandtablelaw10.PairingFirst', WHERE WHAT IT READS IS OF BULK AT MOST 1048576: true; the input reads as it did. -/
def pairingFirstUptoRow : OpenClaim := { program := "ytdbhnkccgbofhaa", sum := "adc674eb7abd029b46c65e5c6966768a7deec30fcbcf73a69d7e9516f44fc819", func := "sandtable/sandtablelaw10.PairingFirst", spec := "pairingFirst", unfollowed := true, recurses := true, apart := false, narrowed := true }
def PairingFirstUptoSaid : Prop := pairingFirstUptoRow.holds Try.pinned (OpenSpec.upto pairingFirstSpec)

/-- 'sandtablelaw12.GrowHalves', WHERE WHAT IT READS IS OF BULK AT MOST 1048576: true; the input reads as it did. -/
def growHalvesUptoRow : OpenClaim := { program := "ytdbhnkccgbofhaa", sum := "adc674eb7abd029b46c65e5c6966768a7deec30fcbcf73a69d7e9516f44fc819", func := "sandtable/sandtablelaw12.GrowHalves", spec := "growHalves", unfollowed := true, recurses := true, apart := false, narrowed := true }
def GrowHalvesUptoSaid : Prop := growHalvesUptoRow.holds Try.pinned (OpenSpec.upto growHalvesSpec)

/-- 'sandtablelaw12.GrowFills', WHERE WHAT IT READS IS OF BULK AT MOST 1048576: true; the input reads as it did. -/
def growFillsUptoRow : OpenClaim := { program := "ytdbhnkccgbofhaa", sum := "adc674eb7abd029b46c65e5c6966768a7deec30fcbcf73a69d7e9516f44fc819", func := "sandtable/sandtablelaw12.GrowFills", spec := "growFills", unfollowed := true, recurses := true, apart := false, narrowed := true }
def GrowFillsUptoSaid : Prop := growFillsUptoRow.holds Try.pinned (OpenSpec.upto growFillsSpec)

/-- 'sandtablelaw12.GrowPulls', WHERE WHAT IT READS IS OF BULK AT MOST 1048576: true; the input reads as it did. -/
def growPullsUptoRow : OpenClaim := { program := "ytdbhnkccgbofhaa", sum := "adc674eb7abd029b46c65e5c6966768a7deec30fcbcf73a69d7e9516f44fc819", func := "sandtable/sandtablelaw12.GrowPulls", spec := "growPulls", unfollowed := true, recurses := true, apart := false, narrowed := true }
def GrowPullsUptoSaid : Prop := growPullsUptoRow.holds Try.pinned (OpenSpec.upto growPullsSpec)

/-- 'sandtablelaw12.GrowFirst', WHERE WHAT IT READS IS OF BULK AT MOST 1048576: true; the input reads as it did. -/
def growFirstUptoRow : OpenClaim := { program := "ytdbhnkccgbofhaa", sum := "adc674eb7abd029b46c65e5c6966768a7deec30fcbcf73a69d7e9516f44fc819", func := "sandtable/sandtablelaw12.GrowFirst", spec := "growFirst", unfollowed := true, recurses := true, apart := false, narrowed := true }
def GrowFirstUptoSaid : Prop := growFirstUptoRow.holds Try.pinned (OpenSpec.upto growFirstSpec)

end Rows
end Go.Proofs.Ytdbhnkccgbofhaa
