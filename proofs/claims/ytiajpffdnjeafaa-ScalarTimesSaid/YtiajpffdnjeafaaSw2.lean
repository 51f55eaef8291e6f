/- The walks of the statements of layer 1 that take numbers alone: bounds, quotients, differences. -/
import Derived.Test.YtiajpffdnjeafaaSw1
set_option linter.unusedVariables false
namespace Go.Proofs.Ytiajpffdnjeafaa
open Go.RowKit

theorem clamp_lo {n low high : Int} (h : high < low ∨ n < low) : clampV n low high = low := by unfold clampV; exact if_pos h
theorem clamp_hi {n low high : Int} (h1 : low ≤ high) (h2 : high < n) : clampV n low high = high := by unfold clampV; rw [if_neg (by omega), if_pos h2]
theorem clamp_id {n low high : Int} (h1 : low ≤ n) (h2 : n ≤ high) : clampV n low high = n := by unfold clampV; rw [if_neg (by omega), if_neg (by omega)]
theorem clamp_bd (n : Int) {low high : Int} (h : low ≤ high) : low ≤ clampV n low high ∧ clampV n low high ≤ high := by
  unfold clampV; split
  · omega
  · split <;> omega
theorem within_t {n low high : Int} (h : low ≤ n ∧ n ≤ high) : withinV n low high = true := decide_eq_true h
theorem within_f {n low high : Int} (h : ¬ (low ≤ n ∧ n ≤ high)) : withinV n low high = false := decide_eq_false h

/-- One walk of ScalarHeld. -/
theorem held_walk (a0 a1 a2 c : Int) (b d e : Bool) (w : World) (hc : Hid (clampV a0 a1 a2 = c)) (hw : Hid (withinV a0 a1 a2 = (d && e)))
    (hx : (c = a2 ∧ a2 < a0 ∧ ¬ a2 < a1) ∨ (c = a1 ∧ a2 < a0 ∧ a2 < a1) ∨ (c = a1 ∧ ¬ a2 < a0 ∧ a0 < a1) ∨ (c = a0 ∧ ¬ a2 < a0 ∧ ¬ a0 < a1)) (hd : decide (a1 ≤ a0) = d) (he : decide (a0 ≤ a2) = e) :
    Calls Try.prog 4 #[.int .i64 a0, .int .i64 a1, .int .i64 a2] w fun e w' => e = .returned (.bool true) ∧ Below w.heap.size w w' := by
  rcases hx with ⟨rfl, h1, h2⟩ | ⟨rfl, h1, h2⟩ | ⟨rfl, h1, h2⟩ | ⟨rfl, h1, h2⟩ <;> cases d <;> cases e <;>
  first
  | (exfalso; have := of_decide_eq_false hd; omega)
  | (exfalso; have := of_decide_eq_true hd; omega)
  | (exfalso; have := of_decide_eq_false he; omega)
  | (exfalso; have := of_decide_eq_true he; omega)
  | (go_enter Try.func4, Try.ntmps4
     go_wp2_with (first
      | (go_at_call 15; refine (alive_any _).mono ?_; rintro e w' ⟨rfl, hB⟩)
      | (go_at_call 24; refine (clamp_any _ _ _ _).mono ?_; rintro e w' ⟨rfl, rfl⟩; rw [hc.out])
      | (go_at_call 25; refine (within_any _ _ _ _).mono ?_; rintro e w' ⟨rfl, rfl⟩; rw [hw.out]))
     go_ret
     exact ⟨rfl, by assumption⟩)
theorem walk_ScalarHeld (a0 a1 a2 : Int) (w : World) (w0 : (Lit.int .i64 a0).wf = true) (w1 : (Lit.int .i64 a1).wf = true) (w2 : (Lit.int .i64 a2).wf = true) :
    Calls Try.prog 4 #[.int .i64 a0, .int .i64 a1, .int .i64 a2] w fun e w' => e = .returned (.bool true) ∧ Below w.heap.size w w' := by
  have hw : withinV a0 a1 a2 = (decide (a1 ≤ a0) && decide (a0 ≤ a2)) := by unfold withinV; simp
  by_cases h1 : a2 < a0
  · by_cases h2 : a2 < a1
    · exact held_walk a0 a1 a2 a1 true _ _ w (Lib.hid (clamp_lo (.inl h2))) (Lib.hid hw) (.inr (.inl ⟨rfl, h1, h2⟩)) rfl rfl
    · exact held_walk a0 a1 a2 a2 true _ _ w (Lib.hid (clamp_hi (by omega) h1)) (Lib.hid hw) (.inl ⟨rfl, h1, h2⟩) rfl rfl
  · by_cases h2 : a0 < a1
    · exact held_walk a0 a1 a2 a1 true _ _ w (Lib.hid (clamp_lo (.inr h2))) (Lib.hid hw) (.inr (.inr (.inl ⟨rfl, h1, h2⟩))) rfl rfl
    · exact held_walk a0 a1 a2 a0 true _ _ w (Lib.hid (clamp_id (by omega) (by omega))) (Lib.hid hw) (.inr (.inr (.inr ⟨rfl, h1, h2⟩))) rfl rfl

/-- One walk of ScalarEnds: the bounds cross. -/
theorem ends_walk1 (a0 a1 a2 : Int) (w : World) (h : a2 < a1) (hc : Hid (clampV a0 a1 a2 = a1)) (hc2 : Hid (clampV a1 a1 a2 = a1)) (hw : Hid (withinV a0 a1 a2 = false)) :
    Calls Try.prog 8 #[.int .i64 a0, .int .i64 a1, .int .i64 a2] w fun e w' => e = .returned (.bool true) ∧ Below w.heap.size w w' := by
  go_enter Try.func8, Try.ntmps8
  go_wp2_with (first
    | (go_at_call 15; refine (alive_any _).mono ?_; rintro e w' ⟨rfl, hB⟩)
    | (go_at_call 24; refine (clamp_any _ _ _ _).mono ?_; rintro e w' ⟨rfl, rfl⟩; first | rw [hc.out] | rw [hc2.out])
    | (go_at_call 25; refine (within_any _ _ _ _).mono ?_; rintro e w' ⟨rfl, rfl⟩; rw [hw.out]))
  go_ret
  exact ⟨rfl, by assumption⟩
/-- One walk of ScalarEnds: the bounds don't cross; n lies outside. -/
theorem ends_walk2 (a0 a1 a2 c : Int) (w : World) (h : ¬ a2 < a1) (h0 : a1 ≤ a2) (hc : Hid (clampV a0 a1 a2 = c)) (hc2 : Hid (clampV c a1 a2 = c)) (hw : Hid (withinV a0 a1 a2 = false)) (hw2 : Hid (withinV c a1 a2 = true)) :
    Calls Try.prog 8 #[.int .i64 a0, .int .i64 a1, .int .i64 a2] w fun e w' => e = .returned (.bool true) ∧ Below w.heap.size w w' := by
  go_enter Try.func8, Try.ntmps8
  go_wp2_with (first
    | (go_at_call 15; refine (alive_any _).mono ?_; rintro e w' ⟨rfl, hB⟩)
    | (go_at_call 24; refine (clamp_any _ _ _ _).mono ?_; rintro e w' ⟨rfl, rfl⟩; first | rw [hc.out] | rw [hc2.out])
    | (go_at_call 25; refine (within_any _ _ _ _).mono ?_; rintro e w' ⟨rfl, rfl⟩; first | rw [hw.out] | rw [hw2.out]))
  go_ret
  exact ⟨rfl, by assumption⟩
/-- One walk of ScalarEnds: n lies within. -/
theorem ends_walk3 (a0 a1 a2 : Int) (w : World) (h : ¬ a2 < a1) (h0 : a1 ≤ a2) (hc : Hid (clampV a0 a1 a2 = a0)) (hw : Hid (withinV a0 a1 a2 = true)) :
    Calls Try.prog 8 #[.int .i64 a0, .int .i64 a1, .int .i64 a2] w fun e w' => e = .returned (.bool true) ∧ Below w.heap.size w w' := by
  go_enter Try.func8, Try.ntmps8
  go_wp2_with (first
    | (go_at_call 15; refine (alive_any _).mono ?_; rintro e w' ⟨rfl, hB⟩)
    | (go_at_call 24; refine (clamp_any _ _ _ _).mono ?_; rintro e w' ⟨rfl, rfl⟩; rw [hc.out])
    | (go_at_call 25; refine (within_any _ _ _ _).mono ?_; rintro e w' ⟨rfl, rfl⟩; rw [hw.out]))
  go_ret
  exact ⟨rfl, by assumption⟩
theorem walk_ScalarEnds (a0 a1 a2 : Int) (w : World) (w0 : (Lit.int .i64 a0).wf = true) (w1 : (Lit.int .i64 a1).wf = true) (w2 : (Lit.int .i64 a2).wf = true) :
    Calls Try.prog 8 #[.int .i64 a0, .int .i64 a1, .int .i64 a2] w fun e w' => e = .returned (.bool true) ∧ Below w.heap.size w w' := by
  by_cases h : a2 < a1
  · exact ends_walk1 a0 a1 a2 w h (Lib.hid (clamp_lo (.inl h))) (Lib.hid (clamp_lo (.inl h))) (Lib.hid (within_f (by omega)))
  · by_cases h1 : a0 < a1
    · exact ends_walk2 a0 a1 a2 a1 w h (by omega) (Lib.hid (clamp_lo (.inr h1))) (Lib.hid (clamp_id (by omega) (by omega))) (Lib.hid (within_f (by omega))) (Lib.hid (within_t (by omega)))
    · by_cases h2 : a2 < a0
      · exact ends_walk2 a0 a1 a2 a2 w h (by omega) (Lib.hid (clamp_hi (by omega) h2)) (Lib.hid (clamp_id (by omega) (by omega))) (Lib.hid (within_f (by omega))) (Lib.hid (within_t (by omega)))
      · exact ends_walk3 a0 a1 a2 w h (by omega) (Lib.hid (clamp_id (by omega) (by omega))) (Lib.hid (within_t (by omega)))
end Go.Proofs.Ytiajpffdnjeafaa
