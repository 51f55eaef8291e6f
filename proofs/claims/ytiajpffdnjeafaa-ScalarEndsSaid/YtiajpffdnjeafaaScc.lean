/- Contracts of the calls of package scalar, and of their definitions in the reference: what each returns at every pair of numbers. -/
import Derived.Test.YtiajpffdnjeafaaRows
import Derived.Test.YtiajpffdnjeafaaScm
import Derived.ProofKit
import Derived.Outline
import Derived.Handy
import Derived.BigQuiet
import Derived.Deep.QuietTactic
import Derived.WalkSpells
import Derived.WalkLawsBesides
import Derived.Lib.Hide
set_option linter.unusedVariables false
namespace Go.Proofs.Ytiajpffdnjeafaa
open Go.RowKit

theorem ret2 {k : IntKind} {a b : Int} {c d : Bool} (h : a = b) (g : c = d) : Ending.returned (.tuple #[.int k a, .bool c]) = .returned (.tuple #[.int k b, .bool d]) := by rw [h, g]
theorem ret1 {k : IntKind} {a b : Int} (h : a = b) : Ending.returned (.int k a) = .returned (.int k b) := by rw [h]
theorem retb {a b : Bool} (h : a = b) : Ending.returned (.bool a) = .returned (.bool b) := by rw [h]

theorem add_yes (a b : Int) (w : World) (a1 : -9223372036854775808 ≤ a) (a2 : a ≤ 9223372036854775807) (h : inR (a + b) = true) :
    Calls Try.prog 16 #[.int .i64 a, .int .i64 b] w fun e w' => e = .returned (.tuple #[.int .i64 (a + b), .bool true]) ∧ w = w' := by
  have h1 := add_t a1 a2 h
  have H := Lib.hid (IntWalk.wrap64_in _ (inR_t h))
  clear h
  go_enter Try.func16, Try.ntmps16
  go_wp2
  go_ret2
  exact ⟨ret2 H.out rfl, rfl⟩
theorem add_no (a b : Int) (w : World) (a1 : -9223372036854775808 ≤ a) (a2 : a ≤ 9223372036854775807) (b1 : -9223372036854775808 ≤ b) (b2 : b ≤ 9223372036854775807) (h : inR (a + b) = false) :
    Calls Try.prog 16 #[.int .i64 a, .int .i64 b] w fun e w' => e = .returned (.tuple #[.int .i64 0, .bool false]) ∧ w = w' := by
  have h1 := add_f a1 a2 b1 b2 h
  clear h
  go_enter Try.func16, Try.ntmps16
  go_wp2
  go_ret2
  exact ⟨rfl, rfl⟩
theorem add_any (a b : Int) (w : World) (a1 : -9223372036854775808 ≤ a) (a2 : a ≤ 9223372036854775807) (b1 : -9223372036854775808 ≤ b) (b2 : b ≤ 9223372036854775807) :
    Calls Try.prog 16 #[.int .i64 a, .int .i64 b] w fun e w' => e = .returned (.tuple #[.int .i64 (orZ (a + b)), .bool (inR (a + b))]) ∧ w = w' := by
  cases h : inR (a + b)
  · rw [orZ_f h]; exact add_no a b w a1 a2 b1 b2 h
  · rw [orZ_t h]; exact add_yes a b w a1 a2 h

theorem radd_any (a b : Int) (w : World) (a1 : -9223372036854775808 ≤ a) (a2 : a ≤ 9223372036854775807) (b1 : -9223372036854775808 ≤ b) (b2 : b ≤ 9223372036854775807) :
    Calls Try.prog 17 #[.int .i64 a, .int .i64 b] w fun e w' => e = .returned (.tuple #[.int .i64 (orZ (a + b)), .bool (inR (a + b))]) ∧ w = w' := by
  by_cases h : -9223372036854775808 ≤ a + b ∧ a + b ≤ 9223372036854775807
  · have H := Lib.hid (orZ_t (inR_mk h))
    have G := Lib.hid (inR_mk h)
    by_cases c : 0 < b
    · have c2 : ¬ (9223372036854775807 - b < a) := by omega
      go_enter Try.func17, Try.ntmps17
      go_wp2
      go_ret2
      exact ⟨ret2 H.out.symm G.out.symm, rfl⟩
    · by_cases d : b < 0
      · have c2 : ¬ (a < -9223372036854775808 - b) := by omega
        go_enter Try.func17, Try.ntmps17
        go_wp2
        go_ret2
        exact ⟨ret2 H.out.symm G.out.symm, rfl⟩
      · go_enter Try.func17, Try.ntmps17
        go_wp2
        go_ret2
        exact ⟨ret2 H.out.symm G.out.symm, rfl⟩
  · have H := Lib.hid (orZ_f (inR_no h))
    have G := Lib.hid (inR_no h)
    by_cases c : 0 < b
    · have c2 : 9223372036854775807 - b < a := by omega
      clear h
      go_enter Try.func17, Try.ntmps17
      go_wp2
      go_ret2
      exact ⟨ret2 H.out.symm G.out.symm, rfl⟩
    · have d : b < 0 := by omega
      have c2 : a < -9223372036854775808 - b := by omega
      clear h
      go_enter Try.func17, Try.ntmps17
      go_wp2
      go_ret2
      exact ⟨ret2 H.out.symm G.out.symm, rfl⟩

theorem sub_any (a b : Int) (w : World) (a1 : -9223372036854775808 ≤ a) (a2 : a ≤ 9223372036854775807) (b1 : -9223372036854775808 ≤ b) (b2 : b ≤ 9223372036854775807) :
    Calls Try.prog 18 #[.int .i64 a, .int .i64 b] w fun e w' => e = .returned (.tuple #[.int .i64 (orZ (a - b)), .bool (inR (a - b))]) ∧ w = w' := by
  cases h : inR (a - b)
  · rw [orZ_f h]
    have h1 := sub_f a1 a2 b1 b2 h
    clear h
    go_enter Try.func18, Try.ntmps18
    go_wp2
    go_ret2
    exact ⟨rfl, rfl⟩
  · rw [orZ_t h]
    have h1 := sub_t h
    have H := Lib.hid (IntWalk.wrap64_in _ (inR_t h))
    clear h
    go_enter Try.func18, Try.ntmps18
    go_wp2
    go_ret2
    exact ⟨ret2 H.out rfl, rfl⟩
theorem rsub_any (a b : Int) (w : World) (a1 : -9223372036854775808 ≤ a) (a2 : a ≤ 9223372036854775807) (b1 : -9223372036854775808 ≤ b) (b2 : b ≤ 9223372036854775807) :
    Calls Try.prog 19 #[.int .i64 a, .int .i64 b] w fun e w' => e = .returned (.tuple #[.int .i64 (orZ (a - b)), .bool (inR (a - b))]) ∧ w = w' := by
  by_cases h : -9223372036854775808 ≤ a - b ∧ a - b ≤ 9223372036854775807
  · have H := Lib.hid (orZ_t (inR_mk h))
    have G := Lib.hid (inR_mk h)
    by_cases c : b < 0
    · have c2 : ¬ (9223372036854775807 + b < a) := by omega
      go_enter Try.func19, Try.ntmps19
      go_wp2
      go_ret2
      exact ⟨ret2 H.out.symm G.out.symm, rfl⟩
    · by_cases d : 0 < b
      · have c2 : ¬ (a < -9223372036854775808 + b) := by omega
        go_enter Try.func19, Try.ntmps19
        go_wp2
        go_ret2
        exact ⟨ret2 H.out.symm G.out.symm, rfl⟩
      · go_enter Try.func19, Try.ntmps19
        go_wp2
        go_ret2
        exact ⟨ret2 H.out.symm G.out.symm, rfl⟩
  · have H := Lib.hid (orZ_f (inR_no h))
    have G := Lib.hid (inR_no h)
    by_cases c : b < 0
    · have c2 : 9223372036854775807 + b < a := by omega
      clear h
      go_enter Try.func19, Try.ntmps19
      go_wp2
      go_ret2
      exact ⟨ret2 H.out.symm G.out.symm, rfl⟩
    · have d : 0 < b := by omega
      have c2 : a < -9223372036854775808 + b := by omega
      clear h
      go_enter Try.func19, Try.ntmps19
      go_wp2
      go_ret2
      exact ⟨ret2 H.out.symm G.out.symm, rfl⟩
end Go.Proofs.Ytiajpffdnjeafaa
