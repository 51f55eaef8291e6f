/-
  No cell of these rows narrows 'for every input' (looked for: loops, veiled, ifaces, maps, wideKeys, modest, calm, conditions, laid).
  DERIVED. THE GIVEN ROWS OF THIS SEAT. 9 by the template 'for every input the law returns true; each argument reads behind the call as it read before'; 0 by the template 'total and deterministic' (their statements: YtnkhpmpoemodiaaTotals.lean).
  GIVEN WITH THE SEED: the statements are not yours to turn. If you find one false, say at which input.
  Laid BY PROGRAM, IN A SANDBOX (cutbox-rows.mjs): the forced cells as the released guide's own fill.sh prints them over the translation d7dc1758853f1a25… (all of the seat's roots in one cut). By AI agents, Wed Nov 11 2026. No macro, syntax, notation, axiom, sorry.
-/
import Derived.Test.YtnkhpmpoemodiaaChecked
import GoSem.Claim
import GoSem.ClaimJoined
import GoSem.ClaimMapViews
import Derived.JoinedTies
import Derived.KernelRfl
namespace Go.Proofs.Ytnkhpmpoemodiaa
/- THE CELL 'sum', in the pinned program and in every row, IS THE sha256 OF THE DUMP (.gsa) THAT YtnkhpmpoemodiaaProg.lean LOADS. Nothing in Lean hashes anything: it is a label: what it is worth is what the hold of that sum in a sandbox is worth. -/
noncomputable def Try.pinned : Pinned := { name := "ytnkhpmpoemodiaa", sum := "d7dc1758853f1a25b1e02a85244df6c26437f108cde397d287f342e6fc996746", checked := Try.checked }
namespace Rows
def none {H : Type} : Left H := { results := [], args := [] }

/-- 'sandtablelaw21.PoolNames': WHATEVER THE INPUT: true; the input reads as it did. -/
def poolNamesSpec : ChangeSpec := { name := "poolNames", fn := fun _ => fun
  | [d1, d2, d3, d4] => { results := [.lit (.bool true)], args := [d1, d2, d3, d4] }
  | _ => none }
def poolNamesRow : OpenClaim := { program := "ytnkhpmpoemodiaa", sum := "d7dc1758853f1a25b1e02a85244df6c26437f108cde397d287f342e6fc996746", func := "sandtable/sandtablelaw21.PoolNames", spec := "poolNames", unfollowed := true, recurses := true, apart := false }
def PoolNamesSaid : Prop := poolNamesRow.holds Try.pinned (OpenSpec.ofChange poolNamesSpec)

/-- ITS FALSE NEIGHBOUR: 'it returns false'. Refute it at one input. -/
def poolNamesWrong : ChangeSpec := { name := "poolNames", fn := fun _ => fun
  | [d1, d2, d3, d4] => { results := [.lit (.bool false)], args := [d1, d2, d3, d4] }
  | _ => none }
def PoolNamesWrongFalsely : Prop := poolNamesRow.holds Try.pinned (OpenSpec.ofChange poolNamesWrong)

/-- 'sandtablelaw21.PoolBack': WHATEVER THE INPUT: true; the input reads as it did. -/
def poolBackSpec : ChangeSpec := { name := "poolBack", fn := fun _ => fun
  | [d1, d2] => { results := [.lit (.bool true)], args := [d1, d2] }
  | _ => none }
def poolBackRow : OpenClaim := { program := "ytnkhpmpoemodiaa", sum := "d7dc1758853f1a25b1e02a85244df6c26437f108cde397d287f342e6fc996746", func := "sandtable/sandtablelaw21.PoolBack", spec := "poolBack", unfollowed := true, recurses := true, apart := false }
def PoolBackSaid : Prop := poolBackRow.holds Try.pinned (OpenSpec.ofChange poolBackSpec)

/-- ITS FALSE NEIGHBOUR: 'it returns false'. Refute it at one input. -/
def poolBackWrong : ChangeSpec := { name := "poolBack", fn := fun _ => fun
  | [d1, d2] => { results := [.lit (.bool false)], args := [d1, d2] }
  | _ => none }
def PoolBackWrongFalsely : Prop := poolBackRow.holds Try.pinned (OpenSpec.ofChange poolBackWrong)

/-- 'sandtablelaw21.PoolRanks': WHATEVER THE INPUT: true; the input reads as it did. -/
def poolRanksSpec : ChangeSpec := { name := "poolRanks", fn := fun _ => fun
  | [d1, d2] => { results := [.lit (.bool true)], args := [d1, d2] }
  | _ => none }
def poolRanksRow : OpenClaim := { program := "ytnkhpmpoemodiaa", sum := "d7dc1758853f1a25b1e02a85244df6c26437f108cde397d287f342e6fc996746", func := "sandtable/sandtablelaw21.PoolRanks", spec := "poolRanks", unfollowed := true, recurses := true, apart := false }
def PoolRanksSaid : Prop := poolRanksRow.holds Try.pinned (OpenSpec.ofChange poolRanksSpec)

/-- ITS FALSE NEIGHBOUR: 'it returns false'. Refute it at one input. -/
def poolRanksWrong : ChangeSpec := { name := "poolRanks", fn := fun _ => fun
  | [d1, d2] => { results := [.lit (.bool false)], args := [d1, d2] }
  | _ => none }
def PoolRanksWrongFalsely : Prop := poolRanksRow.holds Try.pinned (OpenSpec.ofChange poolRanksWrong)

/-- 'sandtablelaw21.PoolCuts': WHATEVER THE INPUT: true; the input reads as it did. -/
def poolCutsSpec : ChangeSpec := { name := "poolCuts", fn := fun _ => fun
  | [d1, d2] => { results := [.lit (.bool true)], args := [d1, d2] }
  | _ => none }
def poolCutsRow : OpenClaim := { program := "ytnkhpmpoemodiaa", sum := "d7dc1758853f1a25b1e02a85244df6c26437f108cde397d287f342e6fc996746", func := "sandtable/sandtablelaw21.PoolCuts", spec := "poolCuts", unfollowed := true, recurses := true, apart := false }
def PoolCutsSaid : Prop := poolCutsRow.holds Try.pinned (OpenSpec.ofChange poolCutsSpec)

/-- ITS FALSE NEIGHBOUR: 'it returns false'. Refute it at one input. -/
def poolCutsWrong : ChangeSpec := { name := "poolCuts", fn := fun _ => fun
  | [d1, d2] => { results := [.lit (.bool false)], args := [d1, d2] }
  | _ => none }
def PoolCutsWrongFalsely : Prop := poolCutsRow.holds Try.pinned (OpenSpec.ofChange poolCutsWrong)

/-- 'sandtablelaw22.SectionPacks': WHATEVER THE INPUT: true; the input reads as it did. -/
def sectionPacksSpec : ChangeSpec := { name := "sectionPacks", fn := fun _ => fun
  | [d1, d2, d3] => { results := [.lit (.bool true)], args := [d1, d2, d3] }
  | _ => none }
def sectionPacksRow : OpenClaim := { program := "ytnkhpmpoemodiaa", sum := "d7dc1758853f1a25b1e02a85244df6c26437f108cde397d287f342e6fc996746", func := "sandtable/sandtablelaw22.SectionPacks", spec := "sectionPacks", unfollowed := true, recurses := true, apart := false }
def SectionPacksSaid : Prop := sectionPacksRow.holds Try.pinned (OpenSpec.ofChange sectionPacksSpec)

/-- ITS FALSE NEIGHBOUR: 'it returns false'. Refute it at one input. -/
def sectionPacksWrong : ChangeSpec := { name := "sectionPacks", fn := fun _ => fun
  | [d1, d2, d3] => { results := [.lit (.bool false)], args := [d1, d2, d3] }
  | _ => none }
def SectionPacksWrongFalsely : Prop := sectionPacksRow.holds Try.pinned (OpenSpec.ofChange sectionPacksWrong)

/-- 'sandtablelaw22.SectionUnpacks': WHATEVER THE INPUT: true; the input reads as it did. -/
def sectionUnpacksSpec : ChangeSpec := { name := "sectionUnpacks", fn := fun _ => fun
  | [d] => { results := [.lit (.bool true)], args := [d] }
  | _ => none }
def sectionUnpacksRow : OpenClaim := { program := "ytnkhpmpoemodiaa", sum := "d7dc1758853f1a25b1e02a85244df6c26437f108cde397d287f342e6fc996746", func := "sandtable/sandtablelaw22.SectionUnpacks", spec := "sectionUnpacks", unfollowed := true, recurses := true, apart := false }
def SectionUnpacksSaid : Prop := sectionUnpacksRow.holds Try.pinned (OpenSpec.ofChange sectionUnpacksSpec)

/-- ITS FALSE NEIGHBOUR: 'it returns false'. Refute it at one input. -/
def sectionUnpacksWrong : ChangeSpec := { name := "sectionUnpacks", fn := fun _ => fun
  | [d] => { results := [.lit (.bool false)], args := [d] }
  | _ => none }
def SectionUnpacksWrongFalsely : Prop := sectionUnpacksRow.holds Try.pinned (OpenSpec.ofChange sectionUnpacksWrong)

/-- 'sandtablelaw22.SectionBack': WHATEVER THE INPUT: true; the input reads as it did. -/
def sectionBackSpec : ChangeSpec := { name := "sectionBack", fn := fun _ => fun
  | [d1, d2, d3, d4] => { results := [.lit (.bool true)], args := [d1, d2, d3, d4] }
  | _ => none }
def sectionBackRow : OpenClaim := { program := "ytnkhpmpoemodiaa", sum := "d7dc1758853f1a25b1e02a85244df6c26437f108cde397d287f342e6fc996746", func := "sandtable/sandtablelaw22.SectionBack", spec := "sectionBack", unfollowed := true, recurses := true, apart := false }
def SectionBackSaid : Prop := sectionBackRow.holds Try.pinned (OpenSpec.ofChange sectionBackSpec)

/-- ITS FALSE NEIGHBOUR: 'it returns false'. Refute it at one input. -/
def sectionBackWrong : ChangeSpec := { name := "sectionBack", fn := fun _ => fun
  | [d1, d2, d3, d4] => { results := [.lit (.bool false)], args := [d1, d2, d3, d4] }
  | _ => none }
def SectionBackWrongFalsely : Prop := sectionBackRow.holds Try.pinned (OpenSpec.ofChange sectionBackWrong)

/-- 'sandtablelaw22.SectionSizes': WHATEVER THE INPUT: true; the input reads as it did. -/
def sectionSizesSpec : ChangeSpec := { name := "sectionSizes", fn := fun _ => fun
  | [d] => { results := [.lit (.bool true)], args := [d] }
  | _ => none }
def sectionSizesRow : OpenClaim := { program := "ytnkhpmpoemodiaa", sum := "d7dc1758853f1a25b1e02a85244df6c26437f108cde397d287f342e6fc996746", func := "sandtable/sandtablelaw22.SectionSizes", spec := "sectionSizes", unfollowed := true, recurses := true, apart := false }
def SectionSizesSaid : Prop := sectionSizesRow.holds Try.pinned (OpenSpec.ofChange sectionSizesSpec)

/-- ITS FALSE NEIGHBOUR: 'it returns false'. Refute it at one input. -/
def sectionSizesWrong : ChangeSpec := { name := "sectionSizes", fn := fun _ => fun
  | [d] => { results := [.lit (.bool false)], args := [d] }
  | _ => none }
def SectionSizesWrongFalsely : Prop := sectionSizesRow.holds Try.pinned (OpenSpec.ofChange sectionSizesWrong)

/-- 'sandtablelaw22.SectionTurns': WHATEVER THE INPUT: true; the input reads as it did. -/
def sectionTurnsSpec : ChangeSpec := { name := "sectionTurns", fn := fun _ => fun
  | [d1, d2, d3] => { results := [.lit (.bool true)], args := [d1, d2, d3] }
  | _ => none }
def sectionTurnsRow : OpenClaim := { program := "ytnkhpmpoemodiaa", sum := "d7dc1758853f1a25b1e02a85244df6c26437f108cde397d287f342e6fc996746", func := "sandtable/sandtablelaw22.SectionTurns", spec := "sectionTurns", unfollowed := true, recurses := true, apart := false }
def SectionTurnsSaid : Prop := sectionTurnsRow.holds Try.pinned (OpenSpec.ofChange sectionTurnsSpec)

/-- ITS FALSE NEIGHBOUR: 'it returns false'. Refute it at one input. -/
def sectionTurnsWrong : ChangeSpec := { name := "sectionTurns", fn := fun _ => fun
  | [d1, d2, d3] => { results := [.lit (.bool false)], args := [d1, d2, d3] }
  | _ => none }
def SectionTurnsWrongFalsely : Prop := sectionTurnsRow.holds Try.pinned (OpenSpec.ofChange sectionTurnsWrong)

/- THE SECOND FORM. 'bulk': how many values and letters a reading holds, each counted each time it is reached (what is shared counts as often as it is met; a slice's spare places count too). A statement '..UptoSaid' is the law's where the arguments, and the package variables that the reading takes, are together of bulk at most 1048576: NARROWER than '..Said'. Prove '..Said' where nothing that the law and all that it calls make is longer than what came in: it says more and counts as full. Else prove '..UptoSaid'. A law counts once. -/
mutual
def uptoBulk {H : Type} : DataW H → Nat
  | .lit (.string bytes) => bytes.length + 1
  | .lit _ => 1
  | .nil => 1
  | .ptr d => uptoBulk d + 1
  | .slice elems spare => uptoBulkAll elems + uptoBulkAll spare + 1
  | .agg parts => uptoBulkAll parts + 1
  | .iface _ d => uptoBulk d + 1
  | .map entries => uptoBulkEntries entries + 1
  | .held _ => 1
def uptoBulkAll {H : Type} : List (DataW H) → Nat
  | [] => 0
  | d :: r => uptoBulk d + uptoBulkAll r
def uptoBulkEntries {H : Type} : List (Lit × DataW H) → Nat
  | [] => 0
  | x :: r => uptoBulkEntry x + uptoBulkEntries r
def uptoBulkEntry {H : Type} : Lit × DataW H → Nat
  | (.string bytes, d) => bytes.length + uptoBulk d + 1
  | (_, d) => uptoBulk d + 1
 end
def uptoSmall : (H : Type) → List (DataW H) → Bool := fun _ ds => decide (uptoBulkAll ds ≤ 1048576)
def OpenSpec.upto (s : _root_.Go.ChangeSpec) : _root_.Go.OpenSpec := { _root_.Go.OpenSpec.ofChange s with cond := some uptoSmall }

/-- 'sandtablelaw21.PoolNames', WHERE WHAT IT READS IS OF BULK AT MOST 1048576: true; the input reads as it did. -/
def poolNamesUptoRow : OpenClaim := { program := "ytnkhpmpoemodiaa", sum := "d7dc1758853f1a25b1e02a85244df6c26437f108cde397d287f342e6fc996746", func := "sandtable/sandtablelaw21.PoolNames", spec := "poolNames", unfollowed := true, recurses := true, apart := false, narrowed := true }
def PoolNamesUptoSaid : Prop := poolNamesUptoRow.holds Try.pinned (OpenSpec.upto poolNamesSpec)

/-- 'sandtablelaw21.PoolBack', WHERE WHAT IT READS IS OF BULK AT MOST 1048576: true; the input reads as it did. -/
def poolBackUptoRow : OpenClaim := { program := "ytnkhpmpoemodiaa", sum := "d7dc1758853f1a25b1e02a85244df6c26437f108cde397d287f342e6fc996746", func := "sandtable/sandtablelaw21.PoolBack", spec := "poolBack", unfollowed := true, recurses := true, apart := false, narrowed := true }
def PoolBackUptoSaid : Prop := poolBackUptoRow.holds Try.pinned (OpenSpec.upto poolBackSpec)

/-- 'sandtablelaw21.PoolRanks', WHERE WHAT IT READS IS OF BULK AT MOST 1048576: true; the input reads as it did. -/
def poolRanksUptoRow : OpenClaim := { program := "ytnkhpmpoemodiaa", sum := "d7dc1758853f1a25b1e02a85244df6c26437f108cde397d287f342e6fc996746", func := "sandtable/sandtablelaw21.PoolRanks", spec := "poolRanks", unfollowed := true, recurses := true, apart := false, narrowed := true }
def PoolRanksUptoSaid : Prop := poolRanksUptoRow.holds Try.pinned (OpenSpec.upto poolRanksSpec)

/-- 'sandtablelaw21.PoolCuts', WHERE WHAT IT READS IS OF BULK AT MOST 1048576: true; the input reads as it did. -/
def poolCutsUptoRow : OpenClaim := { program := "ytnkhpmpoemodiaa", sum := "d7dc1758853f1a25b1e02a85244df6c26437f108cde397d287f342e6fc996746", func := "sandtable/sandtablelaw21.PoolCuts", spec := "poolCuts", unfollowed := true, recurses := true, apart := false, narrowed := true }
def PoolCutsUptoSaid : Prop := poolCutsUptoRow.holds Try.pinned (OpenSpec.upto poolCutsSpec)

/-- 'sandtablelaw22.SectionPacks', WHERE WHAT IT READS IS OF BULK AT MOST 1048576: true; the input reads as it did. -/
def sectionPacksUptoRow : OpenClaim := { program := "ytnkhpmpoemodiaa", sum := "d7dc1758853f1a25b1e02a85244df6c26437f108cde397d287f342e6fc996746", func := "sandtable/sandtablelaw22.SectionPacks", spec := "sectionPacks", unfollowed := true, recurses := true, apart := false, narrowed := true }
def SectionPacksUptoSaid : Prop := sectionPacksUptoRow.holds Try.pinned (OpenSpec.upto sectionPacksSpec)

/-- 'sandtablelaw22.SectionUnpacks', WHERE WHAT IT READS IS OF BULK AT MOST 1048576: true; the input reads as it did. -/
def sectionUnpacksUptoRow : OpenClaim := { program := "ytnkhpmpoemodiaa", sum := "d7dc1758853f1a25b1e02a85244df6c26437f108cde397d287f342e6fc996746", func := "sandtable/sandtablelaw22.SectionUnpacks", spec := "sectionUnpacks", unfollowed := true, recurses := true, apart := false, narrowed := true }
def SectionUnpacksUptoSaid : Prop := sectionUnpacksUptoRow.holds Try.pinned (OpenSpec.upto sectionUnpacksSpec)

/-- 'sandtablelaw22.SectionBack', WHERE WHAT IT READS IS OF BULK AT MOST 1048576: true; the input reads as it did. -/
def sectionBackUptoRow : OpenClaim := { program := "ytnkhpmpoemodiaa", sum := "d7dc1758853f1a25b1e02a85244df6c26437f108cde397d287f342e6fc996746", func := "sandtable/sandtablelaw22.SectionBack", spec := "sectionBack", unfollowed := true, recurses := true, apart := false, narrowed := true }
def SectionBackUptoSaid : Prop := sectionBackUptoRow.holds Try.pinned (OpenSpec.upto sectionBackSpec)

/-- 'sandtablelaw22.SectionSizes', WHERE WHAT IT READS IS OF BULK AT MOST 1048576: true; the input reads as it did. -/
def sectionSizesUptoRow : OpenClaim := { program := "ytnkhpmpoemodiaa", sum := "d7dc1758853f1a25b1e02a85244df6c26437f108cde397d287f342e6fc996746", func := "sandtable/sandtablelaw22.SectionSizes", spec := "sectionSizes", unfollowed := true, recurses := true, apart := false, narrowed := true }
def SectionSizesUptoSaid : Prop := sectionSizesUptoRow.holds Try.pinned (OpenSpec.upto sectionSizesSpec)

/-- 'sandtablelaw22.SectionTurns', WHERE WHAT IT READS IS OF BULK AT MOST 1048576: true; the input reads as it did. -/
def sectionTurnsUptoRow : OpenClaim := { program := "ytnkhpmpoemodiaa", sum := "d7dc1758853f1a25b1e02a85244df6c26437f108cde397d287f342e6fc996746", func := "sandtable/sandtablelaw22.SectionTurns", spec := "sectionTurns", unfollowed := true, recurses := true, apart := false, narrowed := true }
def SectionTurnsUptoSaid : Prop := sectionTurnsUptoRow.holds Try.pinned (OpenSpec.upto sectionTurnsSpec)

end Rows
end Go.Proofs.Ytnkhpmpoemodiaa
