/- The walks of the statements of layer 1 that take numbers alone. -/
import Derived.Test.YtiajpffdnjeafaaScg
set_option linter.unusedVariables false
namespace Go.Proofs.Ytiajpffdnjeafaa
open Go.RowKit

theorem walk_ScalarTwo (a0 a1 : Int) (w : World) (w0 : (Lit.int .i64 a0).wf = true) (w1 : (Lit.int .i64 a1).wf = true) :
    Calls Try.prog 3 #[.int .i64 a0, .int .i64 a1] w fun e w' => e = .returned (.bool true) ∧ Below w.heap.size w w' := by
  have ⟨b1, b2⟩ := bounds_i64 w0
  have ⟨b3, b4⟩ := bounds_i64 w1
  clear w0 w1
  go_enter Try.func3, Try.ntmps3
  go_wp2_with (first
    | (go_at_call 15; refine (alive_any _).mono ?_; rintro e w' ⟨rfl, hB⟩)
    | (go_at_call 16; refine (add_any _ _ _ b1 b2 b3 b4).mono ?_; rintro e w' ⟨rfl, rfl⟩)
    | (go_at_call 17; refine (radd_any _ _ _ b1 b2 b3 b4).mono ?_; rintro e w' ⟨rfl, rfl⟩)
    | (go_at_call 18; refine (sub_any _ _ _ b1 b2 b3 b4).mono ?_; rintro e w' ⟨rfl, rfl⟩)
    | (go_at_call 19; refine (rsub_any _ _ _ b1 b2 b3 b4).mono ?_; rintro e w' ⟨rfl, rfl⟩)
    | (go_at_call 20; refine (mul_any _ _ _ b1 b2 b3 b4).mono ?_; rintro e w' ⟨rfl, rfl⟩)
    | (go_at_call 21; refine (rmul_any _ _ _ b1 b2 b3 b4).mono ?_; rintro e w' ⟨rfl, rfl⟩)
    | (go_at_call 22; refine (up_any _ _ _ b1 b2 b3 b4).mono ?_; rintro e w' ⟨rfl, rfl⟩)
    | (go_at_call 23; refine (rup_any _ _ _ b1 b2 b3 b4).mono ?_; rintro e w' ⟨rfl, rfl⟩))
  go_ret
  exact ⟨rfl, by assumption⟩
end Go.Proofs.Ytiajpffdnjeafaa
