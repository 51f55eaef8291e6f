/- clear over one thing of a heap's list. -/
import Derived.Test.YtfghcjhfbbdanaaHv
import Derived.Lib.SliceRun
set_option linter.unusedVariables false
namespace Go.Proofs.Ytfghcjhfbbdanaa
open Go.RowKit

theorem Try.zeroEnt (w : World) : (zeroValue 50).run Try.prog w = .ok (.agg #[.int .i64 0, .int .i64 0, .int .i64 0]) w := by kernel_rfl
theorem clear_one (W : World) (lb i c : Nat) (h0 : (W.cell? ⟨lb, i, none⟩).isSome = true) (h1 : (W.cell? ⟨lb, i + 1, none⟩).isSome = true) (h2 : (W.cell? ⟨lb, i + 2, none⟩).isSome = true)
    (f0 : W.frozen? ⟨lb, i, none⟩ = false) (f1 : W.frozen? ⟨lb, i + 1, none⟩ = false) (f2 : W.frozen? ⟨lb, i + 2, none⟩ = false) (ty : TypeId) :
    (Builtin.clear_ #[46] ty #[.slice (some ⟨lb, i, none⟩) 1 c]).run Try.prog W = .ok (.tuple #[]) (((W.setCell ⟨lb, i, none⟩ (.int .i64 0)).setCell ⟨lb, i + 1, none⟩ (.int .i64 0)).setCell ⟨lb, i + 2, none⟩ (.int .i64 0)) := by
  have hzc : (Builtin.zeroCells #[Value.int .i64 0, .int .i64 0, .int .i64 0] 1).toList = [Value.int .i64 0, .int .i64 0, .int .i64 0] := by
    simp [Builtin.zeroCells, Array.range]
  have hst := run_storeCells_cells (P := Try.prog) lb i [Value.int .i64 0, .int .i64 0, .int .i64 0] 0 W
    (by intro j hj; match j, hj with | 0, _ => exact h0 | 1, _ => exact h1 | 2, _ => exact h2 | j + 3, hj => simp at hj; omega)
    (by intro j hj; match j, hj with | 0, _ => exact f0 | 1, _ => exact f1 | 2, _ => exact f2 | j + 3, hj => simp at hj; omega)
    (by intro v hv; simp at hv; subst hv; rfl)
  simp only [Nat.add_zero] at hst
  simp [Builtin.clear_, run_underlying Try.underlying46, Value.cells, hzc, hst]
  rfl
end Go.Proofs.Ytfghcjhfbbdanaa
