/- A row of strings that came in, and stays while memory only grows. -/
import Derived.Test.YtdobpgakmonnbaaDoorLib
set_option linter.unusedVariables false
namespace Go.Proofs.YtdobpgakmonnbaaDoor.Ss
open Go.RowKit

/-- What a walk is told of a slice of strings that came in. -/
def IsStrs (w : World) (a : Option Addr) (len cap : Nat) (ss : List ByteArray) : Prop :=
  (a = none ∧ len = 0 ∧ cap = 0 ∧ ss = []) ∨
  ∃ x, a = some x ∧ len ≤ cap ∧ cap ≤ maxLen ∧ ss.length = cap ∧ (∀ i, i < ss.length → w.cell? (x.add i) = some (.string (ss.getD i ByteArray.empty))) ∧ ∀ s ∈ ss, s.size ≤ maxLen
/-- The slice with address a has the strings ss, which lie below block B. -/
structure StrsAt (B : Nat) (w : World) (a : Option Addr) (b off len : Nat) (ss : List ByteArray) : Prop where
  addr : len = 0 ∨ a = some ⟨b, off, none⟩
  length : ss.length = len
  small : len ≤ maxLen
  below : len = 0 ∨ b < B
  cell : ∀ i, i < len → w.cell? ⟨b, off + i, none⟩ = some (.string (ss.getD i ByteArray.empty))
  fits : ∀ s ∈ ss, s.size ≤ maxLen
theorem StrsAt.kept {B B' : Nat} {w w' : World} {a : Option Addr} {b off len : Nat} {ss : List ByteArray} (h : StrsAt B w a b off len ss) (hb : Below B' w w') (hB : B ≤ B') : StrsAt B w' a b off len ss :=
  ⟨h.addr, h.length, h.small, h.below, fun i hi => by
    rw [hb.cell (p := ⟨b, off + i, none⟩) (by have := h.below; show b < B'; omega)]; exact h.cell i hi, h.fits⟩
theorem IsStrs.strs {w : World} {a : Option Addr} {len cap : Nat} {ss : List ByteArray} (h : IsStrs w a len cap ss) : ∃ b off, StrsAt w.heap.size w a b off len (ss.take len) := by
  rcases h with ⟨rfl, rfl, rfl, rfl⟩ | ⟨x, rfl, hl, hm, hz, hcell, hwz⟩
  · exact ⟨0, 0, .inl rfl, rfl, Nat.zero_le _, .inl rfl, fun i hi => absurd hi (Nat.not_lt_zero _), fun n hn => by simp at hn⟩
  · obtain ⟨b, off, spot⟩ := x
    by_cases h0 : len = 0
    · subst h0
      exact ⟨b, off, .inl rfl, by simp, Nat.zero_le _, .inl rfl, fun i hi => absurd hi (Nat.not_lt_zero _), fun n hn => by simp at hn⟩
    · have hc := hcell 0 (by omega)
      have hspot : spot = none := by simpa [Addr.add] using World.cell?_spot hc
      subst hspot
      refine ⟨b, off, .inr rfl, by rw [List.length_take]; omega, by omega, .inr ?_, fun i hi => ?_, fun n hn => hwz n (List.mem_of_mem_take hn)⟩
      · have := World.block_lt_of_cell? _ _ hc
        simpa [Addr.add] using this
      · have := hcell i (by omega)
        rw [show (ss.take len).getD i ByteArray.empty = ss.getD i ByteArray.empty by simp [hi]]
        rwa [addr_add] at this
end Go.Proofs.YtdobpgakmonnbaaDoor.Ss
