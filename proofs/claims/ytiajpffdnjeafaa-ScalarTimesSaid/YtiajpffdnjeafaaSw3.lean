/- The walks of the statements of layer 1 that take numbers alone: sums and products in any order, quotients upwards. -/
import Derived.Test.YtiajpffdnjeafaaSw2
set_option linter.unusedVariables false
namespace Go.Proofs.Ytiajpffdnjeafaa
open Go.RowKit

theorem back_walk (a0 a1 s : Int) (x y z : Bool) (p m : Int) (w : World) (b1 : -9223372036854775808 ≤ a0) (b2 : a0 ≤ 9223372036854775807) (b3 : -9223372036854775808 ≤ a1) (b4 : a1 ≤ 9223372036854775807)
    (hs : Hid (orZ (a0 + a1) = s)) (hx : Hid (inR (a0 + a1) = x)) (hsub : Hid (x = true → orZ (s - a1) = a0 ∧ inR (s - a1) = true)) (sb : -9223372036854775808 ≤ s ∧ s ≤ 9223372036854775807)
    (hp : Hid (orZ (a0 * a1) = p)) (hy : Hid (inR (a0 * a1) = y)) (pb : -9223372036854775808 ≤ p ∧ p ≤ 9223372036854775807)
    (hm : Hid (y = true → a1 ≠ 9223372036854775807 → orZ (a0 * (a1 + 1)) = m ∧ inR (a0 * (a1 + 1)) = z ∧ orZ (p + a0) = m ∧ inR (p + a0) = z)) :
    Calls Try.prog 6 #[.int .i64 a0, .int .i64 a1] w fun e w' => e = .returned (.bool true) ∧ Below w.heap.size w w' := by
  have hs2 : Hid (orZ (a1 + a0) = s) := by rw [Int.add_comm]; exact hs
  have hx2 : Hid (inR (a1 + a0) = x) := by rw [Int.add_comm]; exact hx
  have hp2 : Hid (orZ (a1 * a0) = p) := by rw [Int.mul_comm]; exact hp
  have hy2 : Hid (inR (a1 * a0) = y) := by rw [Int.mul_comm]; exact hy
  by_cases hmost : a1 = 9223372036854775807
  · have hmb : (a1 == 9223372036854775807) = true := by simp [hmost]
    clear hm hmost
    cases x <;> cases y
    all_goals
      go_enter Try.func6, Try.ntmps6
      go_wp2_with (first
        | (go_at_call 15; refine (alive_any _).mono ?_; rintro e w' ⟨rfl, hB⟩)
        | (go_at_call 16; refine (add_any _ _ _ (by omega) (by omega) (by omega) (by omega)).mono ?_; rintro e w' ⟨rfl, rfl⟩; first | rw [hs.out, hx.out] | rw [hs2.out, hx2.out])
        | (go_at_call 18; refine (sub_any _ _ _ (by omega) (by omega) (by omega) (by omega)).mono ?_; rintro e w' ⟨rfl, rfl⟩; rw [(hsub.out (by first | rfl | trivial)).1, (hsub.out (by first | rfl | trivial)).2])
        | (go_at_call 20; refine (mul_any _ _ _ (by omega) (by omega) (by omega) (by omega)).mono ?_; rintro e w' ⟨rfl, rfl⟩; first | rw [hp.out, hy.out] | rw [hp2.out, hy2.out]))
      go_ret
      exact ⟨rfl, by assumption⟩
  · have hmb : (a1 == 9223372036854775807) = false := by simp [hmost]
    have hl : a1 < 9223372036854775807 := by omega
    have hm2 := Lib.hid (fun h => hm.out h hmost)
    clear hm hmost
    cases x <;> cases y
    all_goals
      go_enter Try.func6, Try.ntmps6
      go_wp2_with (first
        | (go_at_call 15; refine (alive_any _).mono ?_; rintro e w' ⟨rfl, hB⟩)
        | (go_at_call 16; refine (add_any _ _ _ (by omega) (by omega) (by omega) (by omega)).mono ?_; rintro e w' ⟨rfl, rfl⟩; first | rw [hs.out, hx.out] | rw [hs2.out, hx2.out] | rw [(hm2.out (by first | rfl | trivial)).2.2.1, (hm2.out (by first | rfl | trivial)).2.2.2])
        | (go_at_call 18; refine (sub_any _ _ _ (by omega) (by omega) (by omega) (by omega)).mono ?_; rintro e w' ⟨rfl, rfl⟩; rw [(hsub.out (by first | rfl | trivial)).1, (hsub.out (by first | rfl | trivial)).2])
        | (go_at_call 20; refine (mul_any _ _ _ (by omega) (by omega) (by omega) (by omega)).mono ?_; rintro e w' ⟨rfl, rfl⟩; first | rw [hp.out, hy.out] | rw [hp2.out, hy2.out] | rw [(hm2.out (by first | rfl | trivial)).1, (hm2.out (by first | rfl | trivial)).2.1]))
      go_ret
      exact ⟨rfl, by assumption⟩
theorem orZ_bd (n : Int) : -9223372036854775808 ≤ orZ n ∧ orZ n ≤ 9223372036854775807 := by
  cases h : inR n
  · rw [orZ_f h]; decide
  · rw [orZ_t h]; exact inR_t h
theorem walk_ScalarBack (a0 a1 : Int) (w : World) (w0 : (Lit.int .i64 a0).wf = true) (w1 : (Lit.int .i64 a1).wf = true) :
    Calls Try.prog 6 #[.int .i64 a0, .int .i64 a1] w fun e w' => e = .returned (.bool true) ∧ Below w.heap.size w w' := by
  have ⟨b1, b2⟩ := bounds_i64 w0
  have ⟨b3, b4⟩ := bounds_i64 w1
  refine back_walk a0 a1 _ _ _ (inR (a0 * (a1 + 1))) _ (orZ (a0 * (a1 + 1))) w b1 b2 b3 b4 (Lib.hid rfl) (Lib.hid rfl) (Lib.hid fun h => ?_) (orZ_bd _) (Lib.hid rfl) (Lib.hid rfl) (orZ_bd _) (Lib.hid fun h _ => ?_)
  · rw [orZ_t h]
    have : inR (a0 + a1 - a1) = true := inR_mk (by omega)
    exact ⟨by rw [orZ_t this]; omega, this⟩
  · rw [orZ_t h, show a0 * (a1 + 1) = a0 * a1 + a0 by rw [Int.mul_add, Int.mul_one]]
    exact ⟨rfl, rfl, rfl, rfl⟩

theorem upV_1 {a b : Int} (ha : 1 ≤ a) (hb : 1 ≤ b) : a ≤ upV a b * b ∧ (upV a b - 1) * b < a ∧ 1 ≤ upV a b ∧ upV a b ≤ a := by
  have e : upV a b = (a - 1) / b + 1 := by unfold upV; exact if_neg (by omega)
  rw [e]
  have h1 := Int.emod_nonneg (a - 1) (show b ≠ 0 by omega)
  have h2 := Int.emod_lt_of_pos (a - 1) (show 0 < b by omega)
  have h3 := Int.mul_ediv_add_emod (a - 1) b
  have h4 : 0 ≤ (a - 1) / b := Int.ediv_nonneg (by omega) (by omega)
  have h5 := Int.ediv_le_self b (show 0 ≤ a - 1 by omega)
  rw [Int.add_sub_cancel, Int.add_mul, Int.one_mul, Int.mul_comm ((a - 1) / b) b]
  omega
theorem upV_least {a b q : Int} (ha : 1 ≤ a) (hb : 1 ≤ b) (h : a ≤ q * b) : upV a b ≤ q := by
  have ⟨h1, h2, _, _⟩ := upV_1 ha hb
  have : (upV a b - 1) * b < q * b := by omega
  have := Int.lt_of_mul_lt_mul_right this (by omega)
  omega
theorem upV_mono {a b c : Int} (ha : 1 ≤ a) (hb : 1 ≤ b) (hc : 1 ≤ c) : upV (a + c) b ≤ upV a b + upV c b ∧ upV a b ≤ upV (a + c) b := by
  have ⟨h1, _, _, _⟩ := upV_1 ha hb
  have ⟨g1, _, _, _⟩ := upV_1 hc hb
  have ⟨k1, _, _, _⟩ := upV_1 (show 1 ≤ a + c by omega) hb
  exact ⟨upV_least (by omega) hb (by rw [Int.add_mul]; omega), upV_least ha hb (by omega)⟩
theorem upV_one {a : Int} (ha : 1 ≤ a) : upV a 1 = a := by unfold upV; rw [if_neg (by omega), Int.ediv_one]; omega
theorem upV_zero (b : Int) : upV 0 b = 0 := by unfold upV; exact if_pos (.inl (by decide))

theorem ups_walk (a0 a1 a2 x y z q r s qy qz : Int) (w : World) (hx : Hid (clampV a0 1 1099511627776 = x)) (hy : Hid (clampV a1 1 1048576 = y)) (hz : Hid (clampV a2 1 1099511627776 = z))
    (x1 : 1 ≤ x ∧ x ≤ 1099511627776) (y1 : 1 ≤ y ∧ y ≤ 1048576) (z1 : 1 ≤ z ∧ z ≤ 1099511627776) (hq : Hid (upV x y = q)) (hr : Hid (upV (x + z) y = r)) (hs : Hid (upV z y = s)) (ho : Hid (upV x 1 = x)) (h0 : Hid (upV 0 y = 0))
    (q1 : 1 ≤ q ∧ q ≤ 1099511627776) (s1 : 1 ≤ s ∧ s ≤ 1099511627776) (r1 : r ≤ q + s) (r2 : q ≤ r) (m1 : x ≤ q * y) (m2 : (q - 1) * y < x) (m3 : -9223372036854775808 ≤ q * y ∧ q * y ≤ 9223372036854775807) (m4 : -9223372036854775808 ≤ (q - 1) * y ∧ (q - 1) * y ≤ 9223372036854775807) :
    Calls Try.prog 7 #[.int .i64 a0, .int .i64 a1, .int .i64 a2] w fun e w' => e = .returned (.bool true) ∧ Below w.heap.size w w' := by
  go_enter Try.func7, Try.ntmps7
  go_wp2_with (first
    | (go_at_call 15; refine (alive_any _).mono ?_; rintro e w' ⟨rfl, hB⟩)
    | (go_at_call 24; refine (clamp_any _ _ _ _).mono ?_; rintro e w' ⟨rfl, rfl⟩; first | rw [hx.out] | rw [hy.out] | rw [hz.out])
    | (go_at_call 22; refine (up_any _ _ _ (by omega) (by omega) (by omega) (by omega)).mono ?_; rintro e w' ⟨rfl, rfl⟩; first | rw [hq.out] | rw [hr.out] | rw [hs.out] | rw [ho.out] | rw [h0.out]))
  go_ret
  exact ⟨rfl, by assumption⟩
theorem walk_ScalarUps (a0 a1 a2 : Int) (w : World) (w0 : (Lit.int .i64 a0).wf = true) (w1 : (Lit.int .i64 a1).wf = true) (w2 : (Lit.int .i64 a2).wf = true) :
    Calls Try.prog 7 #[.int .i64 a0, .int .i64 a1, .int .i64 a2] w fun e w' => e = .returned (.bool true) ∧ Below w.heap.size w w' := by
  have hx := clamp_bd a0 (low := 1) (high := 1099511627776) (by decide)
  have hy := clamp_bd a1 (low := 1) (high := 1048576) (by decide)
  have hz := clamp_bd a2 (low := 1) (high := 1099511627776) (by decide)
  have ⟨u1, u2, u3, u4⟩ := upV_1 hx.1 hy.1
  have ⟨v1, v2, v3, v4⟩ := upV_1 hz.1 hy.1
  have ⟨t1, t2⟩ := upV_mono hx.1 hy.1 hz.1
  have e1 : (upV (clampV a0 1 1099511627776) (clampV a1 1 1048576) - 1) * clampV a1 1 1048576 = upV (clampV a0 1 1099511627776) (clampV a1 1 1048576) * clampV a1 1 1048576 - clampV a1 1 1048576 := by rw [Int.sub_mul, Int.one_mul]
  exact ups_walk a0 a1 a2 _ _ _ _ _ _ 0 0 w (Lib.hid rfl) (Lib.hid rfl) (Lib.hid rfl) hx hy hz (Lib.hid rfl) (Lib.hid rfl) (Lib.hid rfl) (Lib.hid (upV_one hx.1)) (Lib.hid (upV_zero _))
    ⟨u3, by omega⟩ ⟨v3, by omega⟩ t1 t2 u1 u2 (by omega) (by omega)
end Go.Proofs.Ytiajpffdnjeafaa
