/- Plain: the number that digits say, and strconv.ParseInt's. -/
import Derived.Test.YtdobpgakmonnbaaDoorToB
import Derived.Lib.ParseIntB
set_option linter.unusedVariables false
set_option linter.unusedSectionVars false
set_option linter.unusedSimpArgs false
namespace Go.Proofs.YtdobpgakmonnbaaDoor.Tok
open Go.Lib

def dvA (a : Nat) (s : List UInt8) : Nat := s.foldl (fun a c => 10 * a + (c.toNat - 48)) a
theorem dvA_ge : ∀ s a, a ≤ dvA a s
  | [], a => Nat.le_refl _
  | c :: r, a => by
    have := dvA_ge r (10 * a + (c.toNat - 48))
    show a ≤ dvA (10 * a + (c.toNat - 48)) r
    omega
theorem dgt_is {c : UInt8} (h : dgt c = true) : 48 ≤ c.toNat ∧ c.toNat ≤ 57 := by
  unfold dgt at h
  simpa using h
theorem uint_digits : ∀ s a, (∀ x ∈ s, dgt x = true) → a ≤ 18446744073709551615 → parseUintM 18446744073709551615 a s = if dvA a s ≤ 18446744073709551615 then .ok (dvA a s) else .range
  | [], a, _, h => by
    show NumEnd.ok a = if a ≤ _ then .ok a else .range
    rw [if_pos h]
  | c :: r, a, hd, h => by
    have hc := dgt_is (hd c (List.mem_cons_self ..))
    have hg := dvA_ge r (10 * a + (c.toNat - 48))
    have e : dvA a (c :: r) = dvA (10 * a + (c.toNat - 48)) r := rfl
    unfold parseUintM
    rw [if_pos hc, e]
    by_cases h1 : 1844674407370955162 ≤ a
    · rw [if_pos h1, if_neg (by omega)]
    · rw [if_neg h1]
      by_cases h2 : 18446744073709551615 < a * 10 + (c.toNat - 48)
      · rw [if_pos h2, if_neg (by omega)]
      · rw [if_neg h2, show a * 10 + (c.toNat - 48) = 10 * a + (c.toNat - 48) by omega]
        exact uint_digits r _ (fun x hx => hd x (List.mem_cons_of_mem _ hx)) (by omega)
/-- What ParseInt hands out as the number. -/
def parseN (s : List UInt8) : Int := match parseIntB 64 s with | .ok v => v | .syntax => 0 | .range => intSat 64 s
def signed (neg : Bool) (ds : List UInt8) : List UInt8 := if neg then 45 :: ds else ds
theorem int_digits (neg : Bool) {ds : List UInt8} (h0 : ds ≠ []) (hd : ∀ x ∈ ds, dgt x = true) :
    parseIntB 64 (signed neg ds) = if dv ds ≤ 18446744073709551615 then (if ¬ neg ∧ 9223372036854775808 ≤ dv ds then .range else if neg ∧ 9223372036854775808 < dv ds then .range else .ok (if neg then -(dv ds : Int) else dv ds)) else .range := by
  have hu : parseUintB 64 ds = if dv ds ≤ 18446744073709551615 then .ok (dv ds) else .range := by
    unfold parseUintB
    rw [if_neg h0]
    exact uint_digits ds 0 hd (by omega)
  cases neg with
  | true =>
    show parseIntB 64 (45 :: ds) = _
    unfold parseIntB
    simp only [show ((45 : UInt8).toNat = 43 ∨ (45 : UInt8).toNat = 45) = True by decide, if_true]
    rw [hu]
    by_cases h : dv ds ≤ 18446744073709551615
    · simp only [h, if_true]
      simp [show (45 : UInt8).toNat = 45 by decide]
    · simp only [h, if_false]
  | false =>
    show parseIntB 64 ds = _
    cases ds with
    | nil => exact absurd rfl h0
    | cons c r =>
      have hc := dgt_is (hd c (List.mem_cons_self ..))
      have n1 : ¬ (c.toNat = 43 ∨ c.toNat = 45) := by omega
      have n2 : ¬ c.toNat = 45 := by omega
      unfold parseIntB
      simp only [n1, if_false]
      rw [hu]
      by_cases h : dv (c :: r) ≤ 18446744073709551615
      · simp only [h, if_true]
        simp [n2]
      · simp only [h, if_false]
theorem sat_of (neg : Bool) {ds : List UInt8} (h0 : ds ≠ []) (hd : ∀ x ∈ ds, dgt x = true) : intSat 64 (signed neg ds) = if neg then -9223372036854775808 else 9223372036854775807 := by
  cases neg with
  | true => rfl
  | false =>
    cases ds with
    | nil => exact absurd rfl h0
    | cons c r =>
      have hc := dgt_is (hd c (List.mem_cons_self ..))
      show intSat 64 (c :: r) = _
      unfold intSat
      rw [if_neg (by simp; omega)]
      rfl
/-- The program's number is within its bounds just if the digits say one that is, and then it is that. -/
theorem num_parse (neg : Bool) {ds : List UInt8} (h0 : ds ≠ []) (hd : ∀ x ∈ ds, dgt x = true) :
    parseIntB 64 (signed neg ds) ≠ .syntax ∧ ((-1099511627776 ≤ parseN (signed neg ds) ∧ parseN (signed neg ds) ≤ 1099511627776) ↔ dv ds ≤ 1099511627776) ∧ (dv ds ≤ 1099511627776 → parseIntB 64 (signed neg ds) = .ok (if neg then -(dv ds : Int) else dv ds)) := by
  have h1 := int_digits neg h0 hd
  have h2 := sat_of neg h0 hd
  have hn : parseN (signed neg ds) = match parseIntB 64 (signed neg ds) with | .ok v => v | .syntax => 0 | .range => intSat 64 (signed neg ds) := rfl
  rw [h1, h2] at hn
  rw [h1, hn]
  generalize dv ds = d at *
  cases neg <;> by_cases a : d ≤ 18446744073709551615 <;> by_cases b : 9223372036854775808 ≤ d <;> by_cases c : 9223372036854775808 < d <;> simp [a, b, c] <;> omega
end Go.Proofs.YtdobpgakmonnbaaDoor.Tok
