/- Contracts of the calls of package varint that reckon: folded and back, how many bytes; and of their definitions in the reference. -/
import Derived.Test.YtlnocekiaffbpaaVc
import Derived.Laws.Bits64b
import Derived.Test.YtlnocekiaffbpaaVl
set_option linter.unusedVariables false
namespace Go.Proofs.Ytlnocekiaffbpaa
open Go.RowKit

theorem retu {k : IntKind} {a b : Int} (h : a = b) : Ending.returned (.int k a) = .returned (.int k b) := by rw [h]
theorem fold_any (n : Int) (w : World) (b1 : -9223372036854775808 ≤ n) (b2 : n ≤ 9223372036854775807) :
    Calls Try.prog 52 #[.int .i64 n] w fun e w' => e = .returned (.int .u64 (foldF n)) ∧ w = w' := by
  by_cases h : n < 0
  · have H : Hid (foldF n = 2 * (-n - 1) + 1) := Lib.hid (by unfold foldF; rw [if_pos h])
    obtain ⟨m, hm⟩ : ∃ m : Nat, -n - 1 = (m : Int) := ⟨(-n - 1).toNat, by omega⟩
    have hor : bits .or .u64 ((m : Int) * 2) 1 = (m : Int) * 2 + 1 := by
      have := bits_join .u64 64 (by decide) wraps_u64 1 ((m : Int) * 2) 1 (by omega) (by omega) (by omega) (by decide) (by decide) (by decide)
      exact this
    have hnot : bits .xor .i64 (-1) n = (m : Int) := by rw [not64 n b1 b2]; exact hm
    have hm2 : (m : Int) ≤ 9223372036854775807 := by omega
    have HM := Lib.hid hm
    clear hm
    go_enter Try.func52, Try.ntmps52
    go_wp2
    go_ret
    refine ⟨retu ?_, rfl⟩
    rw [IntWalk.u64_in (m : Int) (by omega), IntWalk.u64_in ((m : Int) * 2) (by omega), hor, H.out, HM.out]
    omega
  · have H : Hid (foldF n = 2 * n) := Lib.hid (by unfold foldF; rw [if_neg h])
    go_enter Try.func52, Try.ntmps52
    go_wp2
    go_ret
    exact ⟨retu (by rw [H.out]; omega), rfl⟩
theorem unfold_any (n : Int) (w : World) (b1 : 0 ≤ n) (b2 : n ≤ 18446744073709551615) :
    Calls Try.prog 58 #[.int .u64 n] w fun e w' => e = .returned (.int .i64 (unfoldF n)) ∧ w = w' := by
  have hand : bits .and .u64 n 1 = n % 2 := bits_mask .u64 64 (by decide) wraps_u64 1 (by decide) n b1 (by omega)
  by_cases h : n % 2 = 0
  · have H : Hid (unfoldF n = n / 2) := Lib.hid (by unfold unfoldF; rw [if_pos h])
    have h1 : (n % 2 == 1) = false := by simp; omega
    clear h
    go_enter Try.func58, Try.ntmps58
    go_wp2
    go_ret
    exact ⟨retu H.out.symm, rfl⟩
  · have H : Hid (unfoldF n = -(n / 2) - 1) := Lib.hid (by unfold unfoldF; rw [if_neg h])
    have h1 : (n % 2 == 1) = true := by simp; omega
    have hnot : bits .xor .i64 (-1) (n / 2) = -(n / 2) - 1 := not64 (n / 2) (by omega) (by omega)
    clear h
    go_enter Try.func58, Try.ntmps58
    go_wp2
    go_ret
    exact ⟨retu H.out.symm, rfl⟩
theorem len_any (n : Nat) (w : World) (h : n ≤ 18446744073709551615) :
    Calls Try.prog 60 #[.int .u64 n] w fun e w' => e = .returned (.int .i64 (putF n).length) ∧ w = w' := by
  have hor : bits .or .u64 (n : Int) 1 = ((n ||| 1 : Nat) : Int) := bits_or_u64_nat n 1 (by omega) (by decide)
  have hlt : n ||| 1 < 2 ^ 64 := Nat.or_lt_two_pow (by omega) (by omega)
  have hle : ((n ||| 1 : Nat) : Int) ≤ 18446744073709551615 := by omega
  have HL := Lib.hid (len_eq n h)
  have hb := putL_length 9 n
  have hbl : Lib.bitLen (n ||| 1) ≤ 70 := by have := HL.out; unfold putF at this; omega
  have H64 := Lib.hid (fun w => len64_any ((n ||| 1 : Nat) : Int) w (by omega) hle)
  rw [Int.toNat_natCast] at H64
  clear hlt hb
  generalize n ||| 1 = m at *
  generalize Lib.bitLen m = l at *
  go_enter Try.func60, Try.ntmps60
  go_wp2_with (go_at_call 62; refine (H64.out _).mono ?_; rintro e w' ⟨rfl, rfl⟩)
  go_ret
  exact ⟨retu (by rw [← HL.out]; omega), rfl⟩
end Go.Proofs.Ytlnocekiaffbpaa
