/- The walk of ScalarTimes. -/
import Derived.Test.YtiajpffdnjeafaaSw3
set_option linter.unusedVariables false
namespace Go.Proofs.Ytiajpffdnjeafaa
open Go.RowKit

theorem mul_bd {x y : Int} (hx : -1073741824 ≤ x ∧ x ≤ 1073741824) (hy : -1073741824 ≤ y ∧ y ≤ 1073741824) : -1152921504606846976 ≤ x * y ∧ x * y ≤ 1152921504606846976 := by
  have h1 : (x * y).natAbs ≤ 1073741824 * 1073741824 := by rw [Int.natAbs_mul]; exact Nat.mul_le_mul (by omega) (by omega)
  omega
theorem mul_in (a b p : Int) (w : World) (a1 : -9223372036854775808 ≤ a) (a2 : a ≤ 9223372036854775807) (b1 : -9223372036854775808 ≤ b) (b2 : b ≤ 9223372036854775807) (h : Hid (a * b = p)) (p1 : -9223372036854775808 ≤ p ∧ p ≤ 9223372036854775807) :
    Calls Try.prog 20 #[.int .i64 a, .int .i64 b] w fun e w' => e = .returned (.tuple #[.int .i64 p, .bool true]) ∧ w = w' := by
  have := mul_any a b w a1 a2 b1 b2
  rw [h.out] at this
  rwa [orZ_t (inR_mk p1), inR_mk p1] at this
theorem sum_two (b : Nat) (x y s : Int) (w : World) (h0 : w.cell? ⟨b, 0, none⟩ = some (.int .i64 x)) (h1 : w.cell? ⟨b, 1, none⟩ = some (.int .i64 y)) (hx : -9223372036854775808 ≤ x ∧ x ≤ 9223372036854775807) (hy : -9223372036854775808 ≤ y ∧ y ≤ 9223372036854775807) (hs : Hid (x + y = s)) (s1 : -9223372036854775808 ≤ s ∧ s ≤ 9223372036854775807) :
    Calls Try.prog 26 #[.slice (some ⟨b, 0, none⟩) 2 2] w fun e w' => e = .returned (.tuple #[.int .i64 s, .bool true]) ∧ w = w' := by
  have := sum_any [x, y] (some ⟨b, 0, none⟩) b 0 2 2 w (.inr rfl) rfl (by decide) (fun i hi => by
    match i, hi with
    | 0, _ => exact h0
    | 1, _ => exact h1) (fun n hn => by
    simp at hn; rcases hn with rfl | rfl
    · exact WalkArith.wf_i64 hx
    · exact WalkArith.wf_i64 hy)
  have e : sumGo [x, y] 0 = some s := by
    simp only [sumGo]
    rw [Int.zero_add, if_pos (inR_mk hx), hs.out, if_pos (inR_mk s1)]
  have ⟨e1, e2⟩ := sum_end e
  rwa [e1, e2] at this

theorem times_walk (a0 a1 a2 x y z p q r n : Int) (isn eqn : Bool) (w : World) (b1 : -9223372036854775808 ≤ a0) (b2 : a0 ≤ 9223372036854775807)
    (hx : Hid (clampV a0 (-1073741824) 1073741824 = x)) (hy : Hid (clampV a1 (-1073741824) 1073741824 = y)) (hz : Hid (clampV a2 (-1073741824) 1073741824 = z))
    (x1 : -1073741824 ≤ x ∧ x ≤ 1073741824) (y1 : -1073741824 ≤ y ∧ y ≤ 1073741824) (z1 : -1073741824 ≤ z ∧ z ≤ 1073741824)
    (hp : Hid (x * y = p)) (hq : Hid (x * z = q)) (hr : Hid (x * (y + z) = r)) (hs : Hid (p + q = r))
    (p1 : -1152921504606846976 ≤ p ∧ p ≤ 1152921504606846976) (q1 : -1152921504606846976 ≤ q ∧ q ≤ 1152921504606846976) (r1 : -9223372036854775808 ≤ r ∧ r ≤ 9223372036854775807)
    (ho : Hid (a0 * 1 = a0)) (hm : Hid (orZ (a0 * -1) = n)) (hm2 : Hid (inR (a0 * -1) = isn)) (hd : Hid (orZ (0 - a0) = n)) (hd2 : Hid (inR (0 - a0) = isn)) (hl : (a0 != -9223372036854775808) = isn) :
    Calls Try.prog 9 #[.int .i64 a0, .int .i64 a1, .int .i64 a2] w fun e w' => e = .returned (.bool true) ∧ Below w.heap.size w w' := by
  have hone := Lib.hid (fun w => mul_in a0 1 a0 w b1 b2 (by decide) (by decide) ho ⟨b1, b2⟩)
  have hneg := Lib.hid (fun w => mul_any a0 (-1) w b1 b2 (by decide) (by decide))
  have hsub := Lib.hid (fun w => sub_any 0 a0 w (by decide) (by decide) b1 b2)
  rw [hm.out, hm2.out] at hneg
  rw [hd.out, hd2.out] at hsub
  clear hm hm2 hd hd2
  cases isn
  all_goals
    go_enter Try.func9, Try.ntmps9
    go_wp2_with (go_at_call 15; refine (alive_any _).mono ?_; rintro e w' ⟨rfl, hB⟩)
    refine (hone.out _).mono ?_
    rintro e w2 ⟨rfl, rfl⟩
    go_wp2_with fail
    refine (hneg.out _).mono ?_
    rintro e w2 ⟨rfl, rfl⟩
    go_wp2_with (first
      | (go_at_call 18; refine (hsub.out _).mono ?_; rintro e w2 ⟨rfl, rfl⟩)
      | (go_at_call 24; refine (clamp_any _ _ _ _).mono ?_; rintro e w2 ⟨rfl, rfl⟩; first | rw [hx.out] | rw [hy.out] | rw [hz.out])
      | (go_at_call 26; refine (sum_two w'.heap.size _ _ _ _ (by simp [go_sem]) (by simp [go_sem]) (by omega) (by omega) hs (by omega)).mono ?_; rintro e w2 ⟨rfl, rfl⟩)
      | (go_at_call 20; (first | (with_reducible refine (mul_in x y p _ (by omega) (by omega) (by omega) (by omega) hp (by omega)).mono ?_) | (with_reducible refine (mul_in x z q _ (by omega) (by omega) (by omega) (by omega) hq (by omega)).mono ?_) | (with_reducible refine (mul_in x (y + z) r _ (by omega) (by omega) (by omega) (by omega) hr (by omega)).mono ?_)); rintro e w2 ⟨rfl, rfl⟩))
    go_ret
    exact ⟨rfl, hB.alloc hB.size _⟩
theorem walk_ScalarTimes (a0 a1 a2 : Int) (w : World) (w0 : (Lit.int .i64 a0).wf = true) (w1 : (Lit.int .i64 a1).wf = true) (w2 : (Lit.int .i64 a2).wf = true) :
    Calls Try.prog 9 #[.int .i64 a0, .int .i64 a1, .int .i64 a2] w fun e w' => e = .returned (.bool true) ∧ Below w.heap.size w w' := by
  have ⟨b1, b2⟩ := bounds_i64 w0
  have hx := clamp_bd a0 (low := -1073741824) (high := 1073741824) (by decide)
  have hy := clamp_bd a1 (low := -1073741824) (high := 1073741824) (by decide)
  have hz := clamp_bd a2 (low := -1073741824) (high := 1073741824) (by decide)
  have e : clampV a0 (-1073741824) 1073741824 * (clampV a1 (-1073741824) 1073741824 + clampV a2 (-1073741824) 1073741824) = clampV a0 (-1073741824) 1073741824 * clampV a1 (-1073741824) 1073741824 + clampV a0 (-1073741824) 1073741824 * clampV a2 (-1073741824) 1073741824 := Int.mul_add _ _ _
  have p1 := mul_bd hx hy
  have q1 := mul_bd hx hz
  have e2 : (0 : Int) - a0 = a0 * -1 := by omega
  refine times_walk a0 a1 a2 _ _ _ _ _ _ _ _ true w b1 b2 (Lib.hid rfl) (Lib.hid rfl) (Lib.hid rfl) hx hy hz (Lib.hid rfl) (Lib.hid rfl) (Lib.hid rfl) (Lib.hid e.symm) p1 q1 (by rw [e]; omega) (Lib.hid (Int.mul_one _)) (Lib.hid rfl) (Lib.hid rfl) (Lib.hid (by rw [e2])) (Lib.hid (by rw [e2])) ?_
  by_cases h : a0 = -9223372036854775808
  · subst h; decide
  · rw [inR_mk (by omega)]; simp [h]
end Go.Proofs.Ytiajpffdnjeafaa
