/- Contracts of layer 4: a byte moved eight times, in the program and in the reference. -/
import Derived.Test.YtnkhpmpoemodiaaDn
import Derived.Test.YtnkhpmpoemodiaaHp
import Derived.Test.YtnkhpmpoemodiaaVc
import Derived.Lib.EndianBits
set_option linter.unusedVariables false
namespace Go.Proofs.Ytnkhpmpoemodiaa
open Go.RowKit

theorem xor_u32 (a b : Nat) (ha : a < 4294967296) (hb : b < 4294967296) : bits .xor .u32 (a : Int) (b : Int) = ((a ^^^ b : Nat) : Int) := by
  have hx : a ^^^ b < 2 ^ 32 := Nat.xor_lt_two_pow (by omega) (by omega)
  have h1 : (BitVec.ofInt 32 (a : Int)).toNat = a := by
    rw [BitVec.ofInt_natCast, BitVec.toNat_ofNat]; exact Nat.mod_eq_of_lt (by omega)
  have h2 : (BitVec.ofInt 32 (b : Int)).toNat = b := by
    rw [BitVec.ofInt_natCast, BitVec.toNat_ofNat]; exact Nat.mod_eq_of_lt (by omega)
  show IntKind.u32.wrap ((BitVec.ofInt 32 (a : Int) ^^^ BitVec.ofInt 32 (b : Int)).toNat : Nat) = _
  rw [BitVec.toNat_xor, h1, h2, IntKind.wrap_u32]
  omega
theorem and1_u32 (a : Nat) (ha : a < 4294967296) : bits .and .u32 (a : Int) 1 = ((a % 2 : Nat) : Int) := by
  have := bits_mask .u32 32 (by decide) wraps_u32 1 (by decide) (a : Int) (by omega) (by omega)
  rw [show ((2 : Int) ^ 1 - 1) = 1 by decide, show ((2 : Int) ^ 1) = 2 by decide] at this
  rw [this]; omega
theorem retn {k : IntKind} {a b : Nat} (h : a = b) : Ending.returned (.int k a) = .returned (.int k b) := by rw [h]
theorem moved_any (n p : Nat) (w : World) (hn : n < 4294967296) (hp : p < 4294967296) :
    Calls Try.prog 86 #[.int .u32 n, .int .u32 p] w fun e w' => e = .returned (.int .u32 (stepsN p 8 n)) ∧ w = w' := by
  generalize hfin : stepsN p 8 n = fin
  have HF : Hid (fin = stepsN p 8 n) := hfin.symm
  clear hfin
  go_enter Try.func86, Try.ntmps86
  go_wp2
  go_loop [0, 6] (fun x i => ∃ m k : Nat, k ≤ 8 ∧ i = .int .i64 k ∧ x = .int .u32 m ∧ m < 4294967296 ∧ Hid (fin = stepsN p (8 - k) m)) (fun _ i => 8 - (intOf i).toNat)
  case atStart => exact ⟨n, 0, by omega, rfl, rfl, hn, HF⟩
  case round =>
    obtain ⟨m, k, hk, rfl, rfl, hm, hs⟩ := hrel
    by_cases hlt : k < 8
    · have hand := and1_u32 m hm
      have hx := xor_u32 (m / 2) p (by omega) hp
      rw [show ((m / 2 : Nat) : Int) = (m : Int) / 2 by omega] at hx
      have HS : Hid (fin = stepsN p (8 - (k + 1)) (stepN p m)) := Lib.hid (by
        rw [hs.out, show 8 - k = (8 - (k + 1)) + 1 by omega]; rfl)
      by_cases h1 : m % 2 = 1
      · have HV : Hid (stepN p m = (m / 2) ^^^ p) := Lib.hid (by unfold stepN; rw [if_pos h1])
        rw [h1] at hand
        have hlt2 : (m / 2) ^^^ p < 4294967296 := Nat.xor_lt_two_pow (n := 32) (by omega) hp
        generalize (m / 2) ^^^ p = y at *
        clear h1
        go_wp2
        go_round
        case rel => exact ⟨y, k + 1, by omega, by go_num, rfl, hlt2, by rw [← HV.out]; exact HS⟩
        case measure => simp [intOf]; omega
      · have HV : Hid (stepN p m = m / 2) := Lib.hid (by unfold stepN; rw [if_neg h1])
        rw [show m % 2 = 0 by omega] at hand
        clear h1 hx
        go_wp2
        go_round
        case rel => exact ⟨m / 2, k + 1, by omega, by go_num, by go_num, by omega, by rw [← HV.out]; exact HS⟩
        case measure => simp [intOf]; omega
    · obtain rfl : k = 8 := by omega
      have HE : Hid (fin = m) := hs
      clear hs
      go_wp2
      go_ret
      exact ⟨retn HE.out.symm, rfl⟩
theorem steps_any (n p : Nat) (w : World) (hn : n < 4294967296) (hp : p < 4294967296) :
    Calls Try.prog 88 #[.int .u32 n, .int .u32 p] w fun e w' => e = .returned (.int .u32 (stepsN p 8 n)) ∧ w = w' := by
  generalize hfin : stepsN p 8 n = fin
  have HF : Hid (fin = stepsN p 8 n) := hfin.symm
  clear hfin
  go_enter Try.func88, Try.ntmps88
  go_wp2
  go_loop [0, 5] (fun x i => ∃ m k : Nat, k ≤ 8 ∧ i = .int .i64 k ∧ x = .int .u32 m ∧ m < 4294967296 ∧ Hid (fin = stepsN p (8 - k) m)) (fun _ i => 8 - (intOf i).toNat)
  case atStart => exact ⟨n, 0, by omega, rfl, rfl, hn, HF⟩
  case round =>
    obtain ⟨m, k, hk, rfl, rfl, hm, hs⟩ := hrel
    by_cases hlt : k < 8
    · have hand : (m : Int) % 2 = ((m % 2 : Nat) : Int) := by omega
      have hx := xor_u32 (m / 2) p (by omega) hp
      rw [show ((m / 2 : Nat) : Int) = (m : Int) / 2 by omega] at hx
      have HS : Hid (fin = stepsN p (8 - (k + 1)) (stepN p m)) := Lib.hid (by
        rw [hs.out, show 8 - k = (8 - (k + 1)) + 1 by omega]; rfl)
      by_cases h1 : m % 2 = 1
      · have HV : Hid (stepN p m = (m / 2) ^^^ p) := Lib.hid (by unfold stepN; rw [if_pos h1])
        rw [h1] at hand
        have hlt2 : (m / 2) ^^^ p < 4294967296 := Nat.xor_lt_two_pow (n := 32) (by omega) hp
        generalize (m / 2) ^^^ p = y at *
        clear h1
        go_wp2
        go_round
        case rel => exact ⟨y, k + 1, by omega, by go_num, rfl, hlt2, by rw [← HV.out]; exact HS⟩
        case measure => simp [intOf]; omega
      · have HV : Hid (stepN p m = m / 2) := Lib.hid (by unfold stepN; rw [if_neg h1])
        rw [show m % 2 = 0 by omega] at hand
        clear h1 hx
        go_wp2
        go_round
        case rel => exact ⟨m / 2, k + 1, by omega, by go_num, by go_num, by omega, by rw [← HV.out]; exact HS⟩
        case measure => simp [intOf]; omega
    · obtain rfl : k = 8 := by omega
      have HE : Hid (fin = m) := hs
      clear hs
      go_wp2
      go_ret
      exact ⟨retn HE.out.symm, rfl⟩
end Go.Proofs.Ytnkhpmpoemodiaa
