/- Plain: what a join does to a table. -/
import Derived.Test.YtjpgkocffceeoaaGo
set_option linter.unusedVariables false
set_option linter.unusedSectionVars false
namespace Go.Proofs.Ytjpgkocffceeoaa
open Go.RowKit Rk

theorem joinF_no {n : Nat} {F : Nat → Nat → Int} {a b x v : Int} (h : joinE n F a b x = v) (h0 : v ≠ 0) : joinF n F a b x = F := by
  unfold joinF
  rw [if_neg (by rw [h]; exact h0)]
theorem joinF_yes {n : Nat} {F : Nat → Nat → Int} {a b : Nat} {x : Int} (h : joinE n F a b x = 0) (ha : a < n) (hb : b < n) : joinF n F a b x = joinT F a b (F a b + x) := by
  unfold joinF
  rw [if_pos h, btw_nat n F ha hb]; simp
theorem joinE_two {n : Nat} (F : Nat → Nat → Int) {a b : Nat} (x : Int) (ha : a < n) (hb : b < n) (hab : a ≠ b) : joinE n F a b x = if may x = true ∧ may (F a b + x) = true then 0 else 23 := by
  unfold joinE
  rw [btw_nat n F ha hb, hasN_nat ha, hasN_nat hb, if_neg (by simp; omega)]
  cases may x <;> cases may (F a b + x) <;> simp
end Go.Proofs.Ytjpgkocffceeoaa
