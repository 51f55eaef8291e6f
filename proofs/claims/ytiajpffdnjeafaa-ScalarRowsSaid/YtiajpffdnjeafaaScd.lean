/- Contracts of the calls of package scalar, and of their definitions in the reference: products, quotients, bounds, sums. -/
import Derived.Test.YtiajpffdnjeafaaScc
set_option linter.unusedVariables false
namespace Go.Proofs.Ytiajpffdnjeafaa
open Go.RowKit

theorem mul_any (a b : Int) (w : World) (a1 : -9223372036854775808 ≤ a) (a2 : a ≤ 9223372036854775807) (b1 : -9223372036854775808 ≤ b) (b2 : b ≤ 9223372036854775807) :
    Calls Try.prog 20 #[.int .i64 a, .int .i64 b] w fun e w' => e = .returned (.tuple #[.int .i64 (orZ (a * b)), .bool (inR (a * b))]) ∧ w = w' := by
  by_cases hb : b = 0
  · subst hb
    have H : Hid (orZ (a * 0) = 0) := by rw [Int.mul_zero]; rfl
    have G : Hid (inR (a * 0) = true) := by rw [Int.mul_zero]; rfl
    go_enter Try.func20, Try.ntmps20
    go_wp2
    go_ret2
    exact ⟨ret2 H.out.symm G.out.symm, rfl⟩
  · have hb0 : (b == 0) = false := by simp [hb]
    by_cases hm : b = -1
    · subst hm
      by_cases hx : a = -9223372036854775808
      · subst hx
        have H : Hid (orZ (-9223372036854775808 * -1) = 0) := Lib.hid (by decide)
        have G : Hid (inR (-9223372036854775808 * -1) = false) := Lib.hid (by decide)
        go_enter Try.func20, Try.ntmps20
        go_wp2
        go_ret2
        exact ⟨ret2 H.out.symm G.out.symm, rfl⟩
      · have ha0 : (a == -9223372036854775808) = false := by simp [hx]
        have hr : inR (a * -1) = true := inR_mk (by omega)
        have H : Hid (orZ (a * -1) = -a) := Lib.hid (by rw [orZ_t hr]; omega)
        have G := Lib.hid hr
        have h1 : -9223372036854775808 ≤ -a := by omega
        have h2 : -a ≤ 9223372036854775807 := by omega
        clear hr hx
        go_enter Try.func20, Try.ntmps20
        go_wp2
        go_ret2
        exact ⟨ret2 H.out.symm G.out.symm, rfl⟩
    · have hm0 : (b == -1) = false := by simp [hm]
      cases h : inR (a * b)
      · have hw := mul_f a1 b1 b2 hb (by omega) h
        have hw0 : (wrap64 ((wrap64 (a * b)).tdiv b) != a) = true := by simp [hw]
        have H := Lib.hid (orZ_f h)
        clear h hw
        go_enter Try.func20, Try.ntmps20
        go_wp2
        go_ret2
        exact ⟨ret2 H.out.symm rfl, rfl⟩
      · have hw := mul_t a1 a2 hb h
        have hw0 : (wrap64 ((wrap64 (a * b)).tdiv b) != a) = false := by simp [hw]
        have H := Lib.hid (orZ_t h)
        have K := Lib.hid (IntWalk.wrap64_in _ (inR_t h))
        clear h hw
        go_enter Try.func20, Try.ntmps20
        go_wp2
        go_ret2
        exact ⟨ret2 (K.out.trans H.out.symm) rfl, rfl⟩

theorem up_any (a b : Int) (w : World) (a1 : -9223372036854775808 ≤ a) (a2 : a ≤ 9223372036854775807) (b1 : -9223372036854775808 ≤ b) (b2 : b ≤ 9223372036854775807) :
    Calls Try.prog 22 #[.int .i64 a, .int .i64 b] w fun e w' => e = .returned (.int .i64 (upV a b)) ∧ w = w' := by
  by_cases ha : a < 1
  · have H : Hid (upV a b = 0) := by unfold upV; exact if_pos (.inl ha)
    go_enter Try.func22, Try.ntmps22
    go_wp2
    go_ret
    exact ⟨ret1 H.out.symm, rfl⟩
  · by_cases hb : b < 1
    · have H : Hid (upV a b = 0) := by unfold upV; exact if_pos (.inr hb)
      go_enter Try.func22, Try.ntmps22
      go_wp2
      go_ret
      exact ⟨ret1 H.out.symm, rfl⟩
    · have H : Hid (upV a b = (a - 1) / b + 1) := by unfold upV; exact if_neg (by omega)
      have hd := IntWalk.tdiv_le (a - 1) b (by omega) (by omega)
      have hb0 : (b == 0) = false := by simp; omega
      go_enter Try.func22, Try.ntmps22
      go_wp2
      go_ret
      exact ⟨ret1 H.out.symm, rfl⟩
theorem rup_any (a b : Int) (w : World) (a1 : -9223372036854775808 ≤ a) (a2 : a ≤ 9223372036854775807) (b1 : -9223372036854775808 ≤ b) (b2 : b ≤ 9223372036854775807) :
    Calls Try.prog 23 #[.int .i64 a, .int .i64 b] w fun e w' => e = .returned (.int .i64 (upV a b)) ∧ w = w' := by
  by_cases ha : a < 1
  · have H : Hid (upV a b = 0) := by unfold upV; exact if_pos (.inl ha)
    go_enter Try.func23, Try.ntmps23
    go_wp2
    go_ret
    exact ⟨ret1 H.out.symm, rfl⟩
  · by_cases hb : b < 1
    · have H : Hid (upV a b = 0) := by unfold upV; exact if_pos (.inr hb)
      go_enter Try.func23, Try.ntmps23
      go_wp2
      go_ret
      exact ⟨ret1 H.out.symm, rfl⟩
    · have hu := up_eq (a := a) (b := b) (by omega) (by omega)
      have hd := IntWalk.tdiv_le a b (by omega) (by omega)
      have hb0 : (b == 0) = false := by simp; omega
      by_cases hr : 0 < a % b
      · rw [if_pos hr] at hu
        have H : Hid (upV a b = a / b + 1) := by unfold upV; rw [if_neg (by omega)]; exact hu
        clear hu
        have hl : a / b < 9223372036854775807 := by
          by_cases g : b = 1
          · subst g; simp at hr
          · have : a / b * 2 ≤ a := by
              have h1 := Int.mul_ediv_add_emod a b
              have h2 : 2 * (a / b) ≤ b * (a / b) := Int.mul_le_mul_of_nonneg_right (by omega) (by omega)
              omega
            omega
        go_enter Try.func23, Try.ntmps23
        go_wp2
        go_ret
        exact ⟨ret1 H.out.symm, rfl⟩
      · rw [if_neg hr] at hu
        have H : Hid (upV a b = a / b) := by unfold upV; rw [if_neg (by omega)]; exact hu
        clear hu
        go_enter Try.func23, Try.ntmps23
        go_wp2
        go_ret
        exact ⟨ret1 H.out.symm, rfl⟩

theorem clamp_any (n low high : Int) (w : World) :
    Calls Try.prog 24 #[.int .i64 n, .int .i64 low, .int .i64 high] w fun e w' => e = .returned (.int .i64 (clampV n low high)) ∧ w = w' := by
  by_cases h1 : high < low
  · have H : Hid (clampV n low high = low) := by unfold clampV; exact if_pos (.inl h1)
    go_enter Try.func24, Try.ntmps24
    go_wp2
    go_ret
    exact ⟨ret1 H.out.symm, rfl⟩
  · by_cases h2 : n < low
    · have H : Hid (clampV n low high = low) := by unfold clampV; exact if_pos (.inr h2)
      go_enter Try.func24, Try.ntmps24
      go_wp2
      go_ret
      exact ⟨ret1 H.out.symm, rfl⟩
    · by_cases h3 : high < n
      · have H : Hid (clampV n low high = high) := Lib.hid (by unfold clampV; rw [if_neg (by omega), if_pos h3])
        go_enter Try.func24, Try.ntmps24
        go_wp2
        go_ret
        exact ⟨ret1 H.out.symm, rfl⟩
      · have H : Hid (clampV n low high = n) := Lib.hid (by unfold clampV; rw [if_neg (by omega), if_neg (by omega)])
        go_enter Try.func24, Try.ntmps24
        go_wp2
        go_ret
        exact ⟨ret1 H.out.symm, rfl⟩
theorem within_any (n low high : Int) (w : World) :
    Calls Try.prog 25 #[.int .i64 n, .int .i64 low, .int .i64 high] w fun e w' => e = .returned (.bool (withinV n low high)) ∧ w = w' := by
  by_cases h1 : low ≤ n
  · by_cases h2 : n ≤ high
    · have H : Hid (withinV n low high = true) := decide_eq_true ⟨h1, h2⟩
      go_enter Try.func25, Try.ntmps25
      go_wp2
      go_ret
      exact ⟨retb H.out.symm, rfl⟩
    · have H : Hid (withinV n low high = false) := decide_eq_false (by omega)
      have h3 : decide (n ≤ high) = false := by simpa using h2
      go_enter Try.func25, Try.ntmps25
      go_wp2
      go_ret
      exact ⟨retb H.out.symm, rfl⟩
  · have H : Hid (withinV n low high = false) := decide_eq_false (by omega)
    have h3 : decide (low ≤ n) = false := by simpa using h1
    go_enter Try.func25, Try.ntmps25
    go_wp2
    go_ret
    exact ⟨retb H.out.symm, rfl⟩
end Go.Proofs.Ytiajpffdnjeafaa
