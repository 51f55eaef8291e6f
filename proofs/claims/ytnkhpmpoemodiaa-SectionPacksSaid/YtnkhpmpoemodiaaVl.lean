/- Contract: bits.Len64. (A text of its own: the walk here goes without the rules that strike wraps.) -/
import Derived.Test.YtnkhpmpoemodiaaChecked
import Derived.Lib.Strings
import Derived.Lib.Slices
import Derived.Lib.Small
import Derived.Lib.Walk
import Derived.Lib.BitFns
set_option linter.unusedVariables false
namespace Go.Proofs.Ytnkhpmpoemodiaa

theorem retl {k : IntKind} {a b : Int} (h : a = b) : Ending.returned (.int k a) = .returned (.int k b) := by rw [h]
/-- What the table adds to the bits that were shifted out. -/
theorem close8 {x q : Int} {n : Nat} (j : Int) (q0 : 0 ≤ q) (q1 : q < 256) (hn : q.toNat = n) (hj : 0 ≤ j ∧ j ≤ 56) (hb : (Lib.bitLen x.toNat : Int) = j + (Lib.bitLen n : Int)) :
    (j + ((Lib.len8 (q % 256) + 9223372036854775808) % 18446744073709551616 - 9223372036854775808) + 9223372036854775808) % 18446744073709551616 - 9223372036854775808 = (Lib.bitLen x.toNat : Int) := by
  have h1 := Lib.len8_of q q0 (by omega)
  have h2 := Lib.bitLen_le8' q q0 (by omega)
  rw [Int.emod_eq_of_lt q0 q1, h1, hb]
  rw [hn] at h2 ⊢
  omega
theorem close0 {x : Int} (q0 : 0 ≤ x) (q1 : x < 256) : (Lib.len8 (x % 256) + 9223372036854775808) % 18446744073709551616 - 9223372036854775808 = (Lib.bitLen x.toNat : Int) := by
  have h1 := Lib.len8_of x q0 (by omega)
  have h2 := Lib.bitLen_le8' x q0 (by omega)
  rw [Int.emod_eq_of_lt q0 q1, h1]
  omega
set_option maxHeartbeats 4000000 in
set_option maxRecDepth 100000 in
theorem len64_any (x : Int) (w : World) (h0 : 0 ≤ x) (h1 : x ≤ 18446744073709551615) :
    Calls Try.prog 108 #[.int .u64 x] w fun e w' => e = .returned (.int .i64 (Lib.bitLen x.toNat)) ∧ w' = w := by
  go_enter Try.func108, Try.ntmps108
  go_wp2
  all_goals (go_ret; refine ⟨retl ?_, rfl⟩)
  · exact close8 (q := x / 4294967296 / 65536 / 256) (n := x.toNat / 72057594037927936) 56 (by omega) (by omega) (by omega) (by omega) (by have := Lib.bitLen_shift56 x.toNat (by omega) (by omega); omega)
  · exact close8 (q := x / 4294967296 / 65536) (n := x.toNat / 281474976710656) 48 (by omega) (by omega) (by omega) (by omega) (by have := Lib.bitLen_shift48 x.toNat (by omega) (by omega); omega)
  · exact close8 (q := x / 4294967296 / 256) (n := x.toNat / 1099511627776) 40 (by omega) (by omega) (by omega) (by omega) (by have := Lib.bitLen_shift40 x.toNat (by omega) (by omega); omega)
  · exact close8 (q := x / 4294967296) (n := x.toNat / 4294967296) 32 (by omega) (by omega) (by omega) (by omega) (by have := Lib.bitLen_shift32 x.toNat (by omega) (by omega); omega)
  · exact close8 (q := x / 65536 / 256) (n := x.toNat / 16777216) 24 (by omega) (by omega) (by omega) (by omega) (by have := Lib.bitLen_shift24 x.toNat (by omega) (by omega); omega)
  · exact close8 (q := x / 65536) (n := x.toNat / 65536) 16 (by omega) (by omega) (by omega) (by omega) (by have := Lib.bitLen_shift16 x.toNat (by omega) (by omega); omega)
  · exact close8 (q := x / 256) (n := x.toNat / 256) 8 (by omega) (by omega) (by omega) (by omega) (by have := Lib.bitLen_shift8 x.toNat (by omega) (by omega); omega)
  · exact close0 h0 (by assumption)
end Go.Proofs.Ytnkhpmpoemodiaa
