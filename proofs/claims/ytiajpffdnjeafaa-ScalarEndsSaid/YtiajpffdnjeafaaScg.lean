/- Contract: the example that each statement of layer 1 begins with returns true, and makes memory alone. -/
import Derived.Test.YtiajpffdnjeafaaScf
set_option linter.unusedVariables false
namespace Go.Proofs.Ytiajpffdnjeafaa
open Go.RowKit

theorem c_mul1 (w : World) : Calls Try.prog 20 #[.int .i64 4294967296, .int .i64 2147483648] w fun e w' => e = .returned (.tuple #[.int .i64 0, .bool false]) ∧ w = w' := by
  have := mul_any 4294967296 2147483648 w (by decide) (by decide) (by decide) (by decide)
  rwa [show orZ (4294967296 * 2147483648) = 0 by decide, show inR (4294967296 * 2147483648) = false by decide] at this
theorem c_mul2 (w : World) : Calls Try.prog 20 #[.int .i64 (-4294967296), .int .i64 2147483648] w fun e w' => e = .returned (.tuple #[.int .i64 (-9223372036854775808), .bool true]) ∧ w = w' := by
  have := mul_any (-4294967296) 2147483648 w (by decide) (by decide) (by decide) (by decide)
  rwa [show orZ (-4294967296 * 2147483648) = -9223372036854775808 by decide, show inR (-4294967296 * 2147483648) = true by decide] at this
theorem c_sub (w : World) : Calls Try.prog 18 #[.int .i64 (-9223372036854775808), .int .i64 1] w fun e w' => e = .returned (.tuple #[.int .i64 0, .bool false]) ∧ w = w' := by
  have := sub_any (-9223372036854775808) 1 w (by decide) (by decide) (by decide) (by decide)
  rwa [show orZ (-9223372036854775808 - 1) = 0 by decide, show inR (-9223372036854775808 - 1) = false by decide] at this
theorem c_add (w : World) : Calls Try.prog 16 #[.int .i64 2, .int .i64 3] w fun e w' => e = .returned (.tuple #[.int .i64 5, .bool true]) ∧ w = w' := by
  have := add_any 2 3 w (by decide) (by decide) (by decide) (by decide)
  rwa [show orZ (2 + 3) = 5 by decide, show inR (2 + 3) = true by decide] at this
theorem c_up (w : World) : Calls Try.prog 22 #[.int .i64 7, .int .i64 2] w fun e w' => e = .returned (.int .i64 4) ∧ w = w' := by
  have := up_any 7 2 w (by decide) (by decide) (by decide) (by decide)
  rwa [show upV 7 2 = 4 by decide] at this
theorem c_clamp (w : World) : Calls Try.prog 24 #[.int .i64 9, .int .i64 1, .int .i64 3] w fun e w' => e = .returned (.int .i64 3) ∧ w = w' := by
  have := clamp_any 9 1 3 w
  rwa [show clampV 9 1 3 = 3 by decide] at this
theorem c_within (w : World) : Calls Try.prog 25 #[.int .i64 3, .int .i64 1, .int .i64 3] w fun e w' => e = .returned (.bool true) ∧ w = w' := by
  have := within_any 3 1 3 w
  rwa [show withinV 3 1 3 = true by decide] at this
theorem c_sum (b : Nat) (w : World) (h0 : w.cell? ⟨b, 0, none⟩ = some (.int .i64 3)) (h1 : w.cell? ⟨b, 1, none⟩ = some (.int .i64 (-1))) :
    Calls Try.prog 43 #[.slice (some ⟨b, 0, none⟩) 2 2] w fun e w' => e = .returned (.tuple #[.int .i64 2, .bool true]) ∧ w = w' := by
  have := isum_any [3, -1] (some ⟨b, 0, none⟩) b 0 2 2 w (.inr rfl) rfl (by decide) (fun i hi => by
    match i, hi with
    | 0, _ => exact h0
    | 1, _ => exact h1) (fun n hn => by
    simp at hn; rcases hn with rfl | rfl <;> decide)
  rwa [show sumV [3, -1] = 2 by decide, show sumOk [3, -1] = true by decide] at this

theorem bcell {B : Nat} {W w1 : World} (hb : Below B W w1) : (∀ b o, b < B → w1.cell? ⟨b, o, none⟩ = W.cell? ⟨b, o, none⟩) ∧ (∀ b o, b < B → w1.frozen? ⟨b, o, none⟩ = W.frozen? ⟨b, o, none⟩) :=
  ⟨fun b o h => hb.cell (p := ⟨b, o, none⟩) h, fun b o h => hb.frozen (p := ⟨b, o, none⟩) h⟩

theorem alive_any (w : World) :
    Calls Try.prog 15 #[] w fun e w' => e = .returned (.bool true) ∧ Below w.heap.size w w' := by
  go_enter Try.func15, Try.ntmps15
  go_wp2_with fail
  refine (c_mul1 _).mono ?_
  rintro e w' ⟨rfl, rfl⟩
  go_wp2_with fail
  refine (c_mul2 _).mono ?_
  rintro e w' ⟨rfl, rfl⟩
  go_wp2_with (first
    | (go_at_call 43; refine (c_sum w.heap.size _ (by simp [go_sem]) (by simp [go_sem])).mono ?_; rintro e w' ⟨rfl, rfl⟩)
    | (go_at_call 18; refine (c_sub _).mono ?_; rintro e w' ⟨rfl, rfl⟩)
    | (go_at_call 16; refine (c_add _).mono ?_; rintro e w' ⟨rfl, rfl⟩)
    | (go_at_call 22; refine (c_up _).mono ?_; rintro e w' ⟨rfl, rfl⟩)
    | (go_at_call 24; refine (c_clamp _).mono ?_; rintro e w' ⟨rfl, rfl⟩)
    | (go_at_call 25; refine (c_within _).mono ?_; rintro e w' ⟨rfl, rfl⟩))
  go_ret
  exact ⟨rfl, (Below.refl _ _).alloc (Nat.le_refl _) _⟩
end Go.Proofs.Ytiajpffdnjeafaa
