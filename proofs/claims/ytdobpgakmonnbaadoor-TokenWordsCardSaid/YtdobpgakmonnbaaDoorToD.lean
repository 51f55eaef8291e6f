/- Plain: the document's example, word by word. -/
import Derived.Test.YtdobpgakmonnbaaDoorToC
set_option linter.unusedVariables false
set_option linter.unusedSectionVars false
set_option linter.unusedSimpArgs false
namespace Go.Proofs.YtdobpgakmonnbaaDoor.Tok

/-- The first text of the example, byte by byte. -/
def exA : List UInt8 := [118, 97, 114, 32, 120, 32, 61, 32, 45, 51, 59]
def exB : List UInt8 := [97, 32, 45]
theorem exA_toks : toksF 12 0 exA = .ok [⟨1, 0, [118, 97, 114], 0⟩, ⟨1, 4, [120], 0⟩, ⟨3, 6, [61], 0⟩, ⟨2, 8, [45, 51], -3⟩, ⟨3, 10, [59], 0⟩, ⟨0, 11, [], 0⟩] := by rfl
theorem exB_toks : toksF 4 0 exB = .error (21, 2) := by rfl
/-- Which line a place is in, and which byte of it. -/
def lineL (s : List UInt8) : Nat := (s.filter (fun c => decide (c.toNat = 10))).length + 1
def colL : List UInt8 → Nat → Nat
  | [], k => k
  | c :: r, k => if c.toNat = 10 then colL r 1 else colL r (k + 1)
theorem ex_line : lineL [97, 98, 10] = 2 ∧ colL [97, 98, 10] 1 = 1 := by decide
end Go.Proofs.YtdobpgakmonnbaaDoor.Tok
