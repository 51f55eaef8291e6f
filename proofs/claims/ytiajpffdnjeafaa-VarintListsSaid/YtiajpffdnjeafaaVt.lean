/- Contract: the same numbers, in the reference. -/
import Derived.Test.YtiajpffdnjeafaaVi
import Derived.Test.YtiajpffdnjeafaaTwo
set_option linter.unusedVariables false
namespace Go.Proofs.Ytiajpffdnjeafaa
open Go.RowKit

theorem sameints_yes {B B' : Nat} {w : World} {a a' : Option Addr} {b off b' off' len : Nat} {zs : List Int} (h : IntsAt .i64 B w a b off len zs) (h' : IntsAt .i64 B' w a' b' off' len zs) (cap cap' : Nat) :
    Calls Try.prog 40 #[.slice a len cap, .slice a' len cap'] w fun e w' => e = .returned (.bool true) ∧ ∃ nq, w' = w.drewN nq := by
  have hm := h.small
  unfold maxLen at hm
  have H := Lib.hid h
  have H' := Lib.hid h'
  clear h h'
  go_enter Try.func40, Try.ntmps40
  go_wp2
  go_loopw [5] (fun i wr => ∃ k nq : Nat, k ≤ len ∧ i = .int .i64 k ∧ wr = w.drewN nq) (fun i _ => len - (intOf i).toNat)
  case atStart => exact ⟨0, 0, Nat.zero_le _, rfl, rfl⟩
  case round =>
    obtain ⟨k, nq, hk, rfl, rfl⟩ := hrel
    by_cases hlt : k < len
    · have c1 := H.out.cell k hlt
      have c2 := H'.out.cell k hlt
      obtain rfl : a = some ⟨b, off, none⟩ := H.out.addr.resolve_left (by omega)
      obtain rfl : a' = some ⟨b', off', none⟩ := H'.out.addr.resolve_left (by omega)
      generalize zs.getD k 0 = x at *
      have hki : (k : Int) < (len : Int) := by omega
      have hk0 : (0 : Int) ≤ (k : Int) := by omega
      go_wp2
      go_quiet (fail)
      go_wp2
      go_roundw
      case rel => exact ⟨k + 1, _, by omega, by go_num, rfl⟩
      case measure => simp [intOf]; omega
    · go_wp2
      go_ret
      exact ⟨rfl, nq, rfl⟩
end Go.Proofs.Ytiajpffdnjeafaa
