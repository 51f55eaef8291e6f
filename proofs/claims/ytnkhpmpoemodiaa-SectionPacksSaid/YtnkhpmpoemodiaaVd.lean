/- Contracts of the calls of package varint that reckon: folded and back, how many bytes; and of their definitions in the reference. -/
import Derived.Test.YtnkhpmpoemodiaaVc
import Derived.Laws.Bits64b
import Derived.Test.YtnkhpmpoemodiaaVl
set_option linter.unusedVariables false
namespace Go.Proofs.Ytnkhpmpoemodiaa
open Go.RowKit

theorem retu {k : IntKind} {a b : Int} (h : a = b) : Ending.returned (.int k a) = .returned (.int k b) := by rw [h]
theorem len_any (n : Nat) (w : World) (h : n ≤ 18446744073709551615) :
    Calls Try.prog 100 #[.int .u64 n] w fun e w' => e = .returned (.int .i64 (putF n).length) ∧ w = w' := by
  have hor : bits .or .u64 (n : Int) 1 = ((n ||| 1 : Nat) : Int) := bits_or_u64_nat n 1 (by omega) (by decide)
  have hlt : n ||| 1 < 2 ^ 64 := Nat.or_lt_two_pow (by omega) (by omega)
  have hle : ((n ||| 1 : Nat) : Int) ≤ 18446744073709551615 := by omega
  have HL := Lib.hid (len_eq n h)
  have hb := putL_length 9 n
  have hbl : Lib.bitLen (n ||| 1) ≤ 70 := by have := HL.out; unfold putF at this; omega
  have H64 := Lib.hid (fun w => len64_any ((n ||| 1 : Nat) : Int) w (by omega) hle)
  rw [Int.toNat_natCast] at H64
  clear hlt hb
  generalize n ||| 1 = m at *
  generalize Lib.bitLen m = l at *
  go_enter Try.func100, Try.ntmps100
  go_wp2_with (go_at_call 108; refine (H64.out _).mono ?_; rintro e w' ⟨rfl, rfl⟩)
  go_ret
  exact ⟨retu (by rw [← HL.out]; omega), rfl⟩
end Go.Proofs.Ytnkhpmpoemodiaa
