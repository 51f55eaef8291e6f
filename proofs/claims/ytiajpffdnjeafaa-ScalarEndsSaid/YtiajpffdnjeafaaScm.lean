/- Plain arithmetic of 64 bits: which sums, differences and products fit, and what the wrapped ones tell. No program in this text. -/
import Derived.WalkKit
import Derived.OpenShut
set_option linter.unusedVariables false
namespace Go.Proofs.Ytiajpffdnjeafaa
open Go.RowKit

def inR (n : Int) : Bool := decide (-9223372036854775808 ≤ n ∧ n ≤ 9223372036854775807)
theorem inR_t {n : Int} (h : inR n = true) : -9223372036854775808 ≤ n ∧ n ≤ 9223372036854775807 := by unfold inR at h; exact of_decide_eq_true h
theorem inR_f {n : Int} (h : inR n = false) : ¬ (-9223372036854775808 ≤ n ∧ n ≤ 9223372036854775807) := by unfold inR at h; exact of_decide_eq_false h
theorem inR_mk {n : Int} (h : -9223372036854775808 ≤ n ∧ n ≤ 9223372036854775807) : inR n = true := by unfold inR; exact decide_eq_true h
theorem inR_no {n : Int} (h : ¬ (-9223372036854775808 ≤ n ∧ n ≤ 9223372036854775807)) : inR n = false := by unfold inR; exact decide_eq_false h

/-- A number that fits, or 0. -/
def orZ (n : Int) : Int := if inR n = true then n else 0
theorem orZ_t {n : Int} (h : inR n = true) : orZ n = n := by unfold orZ; rw [if_pos h]
theorem orZ_f {n : Int} (h : inR n = false) : orZ n = 0 := by unfold orZ; rw [if_neg (by rw [h]; decide)]

theorem add_t {a b : Int} (a1 : -9223372036854775808 ≤ a) (a2 : a ≤ 9223372036854775807) (h : inR (a + b) = true) : (!(decide (a < wrap64 (a + b)) == decide (0 < b))) = false := by
  have h := inR_t h
  rw [IntWalk.wrap64_in _ h]
  by_cases g : 0 < b
  · have : a < a + b := by omega
    simp only [g, this, decide_true]; rfl
  · have : ¬ a < a + b := by omega
    simp only [g, this, decide_false]; rfl
theorem add_f {a b : Int} (a1 : -9223372036854775808 ≤ a) (a2 : a ≤ 9223372036854775807) (b1 : -9223372036854775808 ≤ b) (b2 : b ≤ 9223372036854775807) (h : inR (a + b) = false) : (!(decide (a < wrap64 (a + b)) == decide (0 < b))) = true := by
  have h := inR_f h
  by_cases g : 0 < b
  · have : ¬ a < wrap64 (a + b) := by unfold wrap64; omega
    simp only [g, this, decide_true, decide_false]; rfl
  · have : a < wrap64 (a + b) := by unfold wrap64; omega
    simp only [g, this, decide_true, decide_false]; rfl
theorem sub_t {a b : Int} (h : inR (a - b) = true) : (!(decide (wrap64 (a - b) < a) == decide (0 < b))) = false := by
  have h := inR_t h
  rw [IntWalk.wrap64_in _ h]
  by_cases g : 0 < b
  · have : a - b < a := by omega
    simp only [g, this, decide_true]; rfl
  · have : ¬ a - b < a := by omega
    simp only [g, this, decide_false]; rfl
theorem sub_f {a b : Int} (a1 : -9223372036854775808 ≤ a) (a2 : a ≤ 9223372036854775807) (b1 : -9223372036854775808 ≤ b) (b2 : b ≤ 9223372036854775807) (h : inR (a - b) = false) : (!(decide (wrap64 (a - b) < a) == decide (0 < b))) = true := by
  have h := inR_f h
  by_cases g : 0 < b
  · have : ¬ wrap64 (a - b) < a := by unfold wrap64; omega
    simp only [g, this, decide_true, decide_false]; rfl
  · have : wrap64 (a - b) < a := by unfold wrap64; omega
    simp only [g, this, decide_true, decide_false]; rfl

theorem wrap64_bd (n : Int) : -9223372036854775808 ≤ wrap64 n ∧ wrap64 n ≤ 9223372036854775807 := by unfold wrap64; omega
theorem wrap64_ex (n : Int) : ∃ k : Int, wrap64 n = n + 18446744073709551616 * k := by
  refine ⟨-((n + 9223372036854775808) / 18446744073709551616), ?_⟩
  unfold wrap64; omega

theorem mul_t {a b : Int} (a1 : -9223372036854775808 ≤ a) (a2 : a ≤ 9223372036854775807) (hb : b ≠ 0) (h : inR (a * b) = true) :
    wrap64 ((wrap64 (a * b)).tdiv b) = a := by
  have h := inR_t h
  rw [IntWalk.wrap64_in _ h, Int.mul_tdiv_cancel _ hb, IntWalk.wrap64_in _ ⟨a1, a2⟩]

theorem natAbs_tmod_lt (n b : Int) (hb : b ≠ 0) : (n.tmod b).natAbs < b.natAbs := by
  rw [Int.natAbs_tmod]; exact Nat.mod_lt _ (by omega)

theorem mul_f {a b : Int} (a1 : -9223372036854775808 ≤ a) (b1 : -9223372036854775808 ≤ b) (b2 : b ≤ 9223372036854775807)
    (hb : b ≠ 0) (hx : ¬ (b = -1 ∧ a = -9223372036854775808)) (h : inR (a * b) = false) : wrap64 ((wrap64 (a * b)).tdiv b) ≠ a := by
  have h := inR_f h
  intro e
  obtain ⟨k, hk⟩ := wrap64_ex (a * b)
  have hn := wrap64_bd (a * b)
  generalize wrap64 (a * b) = n at *
  have hd := Int.mul_tdiv_add_tmod n b
  have hm := natAbs_tmod_lt n b hb
  have hq : (n.tdiv b).natAbs ≤ n.natAbs := by rw [Int.natAbs_tdiv]; exact Nat.div_le_self _ _
  generalize n.tdiv b = q at *
  generalize n.tmod b = r at *
  have hqa : q = a ∨ (q = 9223372036854775808 ∧ a = -9223372036854775808) := by
    unfold wrap64 at e; omega
  rcases hqa with rfl | ⟨rfl, rfl⟩
  · rw [Int.mul_comm b q] at hd
    generalize q * b = p at *
    omega
  · have : n = -9223372036854775808 := by omega
    subst this
    have : b = -1 := by omega
    exact hx ⟨this, rfl⟩

/-! ### The reference's product -/
theorem pos_gt {a b : Int} (ha : 1 ≤ a) : (9223372036854775807 / a < b) ↔ 9223372036854775807 < a * b := by
  rw [Int.ediv_lt_iff_lt_mul (by omega), Int.mul_comm]
theorem pos_lt {a b : Int} (ha : 1 ≤ a) : (b < -Int.tdiv 9223372036854775808 a) ↔ a * b < -9223372036854775808 := by
  rw [Int.tdiv_eq_ediv_of_nonneg (by decide)]
  have h : (9223372036854775808 / a < -b) ↔ 9223372036854775808 < -b * a := Int.ediv_lt_iff_lt_mul (by omega)
  rw [show -b * a = -(a * b) from by rw [Int.neg_mul, Int.mul_comm]] at h
  constructor
  · intro g; have := h.1 (by omega); omega
  · intro g; have := h.2 (by omega); omega
theorem edge_yes {a b : Int} (ha : 1 ≤ a) (h : a * b = 9223372036854775808) : Int.tdiv 9223372036854775808 a = b ∧ 9223372036854775808 % a = 0 := by
  rw [← h]
  exact ⟨Int.mul_tdiv_cancel_left _ (by omega), Int.mul_emod_right _ _⟩
theorem edge_no {a b : Int} (h : a * b ≠ 9223372036854775808) (h1 : Int.tdiv 9223372036854775808 a = b) : 9223372036854775808 % a ≠ 0 := by
  intro h2
  rw [Int.tdiv_eq_ediv_of_nonneg (by decide)] at h1
  have := Int.mul_ediv_add_emod 9223372036854775808 a
  rw [h1, h2] at this
  omega
theorem tdiv_bd {a : Int} (ha : 1 ≤ a) : -9223372036854775808 ≤ -Int.tdiv 9223372036854775808 a ∧ -Int.tdiv 9223372036854775808 a ≤ 0 := by
  rw [Int.tdiv_eq_ediv_of_nonneg (by decide)]
  have h1 : 0 ≤ (9223372036854775808 : Int) / a := Int.ediv_nonneg (by decide) (by omega)
  have h2 : (9223372036854775808 : Int) / a ≤ 9223372036854775808 := Int.ediv_le_self _ (by decide)
  omega
/-! ### Quotients upwards -/
theorem up_eq {a b : Int} (ha : 1 ≤ a) (hb : 1 ≤ b) : (a - 1) / b + 1 = if 0 < a % b then a / b + 1 else a / b := by
  have h1 := Int.emod_nonneg a (show b ≠ 0 by omega)
  have h2 := Int.emod_lt_of_pos a (show 0 < b by omega)
  have h3 := Int.mul_ediv_add_emod a b
  split
  · rename_i g
    have : (a - 1) / b = a / b := by
      rw [show a - 1 = (a % b - 1) + b * (a / b) by omega, Int.add_mul_ediv_left _ _ (by omega), Int.ediv_eq_zero_of_lt (by omega) (by omega)]; omega
    omega
  · rename_i g
    have : (a - 1) / b = a / b - 1 := by
      rw [show a - 1 = (b - 1) + b * (a / b - 1) by rw [Int.mul_sub]; omega, Int.add_mul_ediv_left _ _ (by omega), Int.ediv_eq_zero_of_lt (by omega) (by omega)]; omega
    omega
/-- The least number that, times b, is at least a; 0 if one of them is below 1. -/
def upV (a b : Int) : Int := if a < 1 ∨ b < 1 then 0 else (a - 1) / b + 1
/-- n, held. -/
def clampV (n low high : Int) : Int := if low > high ∨ n < low then low else if n > high then high else n

def withinV (n low high : Int) : Bool := decide (low ≤ n ∧ n ≤ high)

/-! ### Sums of rows -/
def sumGo : List Int → Int → Option Int
  | [], t => some t
  | n :: l, t => if inR (t + n) = true then sumGo l (t + n) else none
def sumV (l : List Int) : Int := (sumGo l 0).getD 0
def sumOk (l : List Int) : Bool := (sumGo l 0).isSome
theorem sumGo_append (l m : List Int) (t : Int) : sumGo (l ++ m) t = (sumGo l t).bind (sumGo m) := by
  induction l generalizing t with
  | nil => rfl
  | cons n l ih =>
    simp only [List.cons_append, sumGo]
    split
    · exact ih _
    · rfl
theorem sumGo_snoc (l : List Int) (n t s : Int) (h : sumGo l t = some s) : sumGo (l ++ [n]) t = if inR (s + n) = true then some (s + n) else none := by
  rw [sumGo_append, h]; simp only [Option.bind_some, sumGo]
theorem sumGo_none (l m : List Int) (n t s : Int) (h : sumGo l t = some s) (hn : inR (s + n) = false) : sumGo (l ++ n :: m) t = none := by
  rw [sumGo_append, h]; simp only [Option.bind_some, sumGo, hn]; rfl
theorem sumGo_inR (l : List Int) (t s : Int) (ht : inR t = true) (h : sumGo l t = some s) : inR s = true := by
  induction l generalizing t with
  | nil => simp only [sumGo, Option.some.injEq] at h; rw [← h]; exact ht
  | cons n l ih =>
    simp only [sumGo] at h
    split at h
    · rename_i g; exact ih _ g h
    · cases h
theorem take_snoc' (l : List Int) (k : Nat) (h : k < l.length) : l.take (k + 1) = l.take k ++ [l.getD k 0] := by
  rw [List.take_succ_eq_append_getElem h]; simp [List.getD, h]
theorem take_drop' (l : List Int) (k : Nat) (h : k < l.length) : l = l.take k ++ l.getD k 0 :: l.drop (k + 1) := by
  have : l.drop k = l.getD k 0 :: l.drop (k + 1) := by rw [List.drop_eq_getElem_cons h]; simp [List.getD, h]
  rw [← this, List.take_append_drop]
end Go.Proofs.Ytiajpffdnjeafaa
