/- The walk of VarintLens. -/
import Derived.Test.YtiajpffdnjeafabVi
import Derived.Test.YtiajpffdnjeafabVn
set_option linter.unusedVariables false
namespace Go.Proofs.Ytiajpffdnjeafab
open Go.RowKit

theorem i64_and7 (n : Int) : bits .and .i64 n 7 = n % 8 := by
  have h7 : (BitVec.ofInt 64 7).toNat = 2 ^ 3 - 1 := by decide
  have key : (BitVec.ofInt 64 n &&& BitVec.ofInt 64 7).toNat = (n % ((2 ^ 64 : Nat) : Int)).toNat % 2 ^ 3 := by
    rw [BitVec.toNat_and, BitVec.toNat_ofInt, h7, Nat.and_two_pow_sub_one_eq_mod]
  show IntKind.i64.wrap ((BitVec.ofInt 64 n &&& BitVec.ofInt 64 7).toNat : Nat) = n % 8
  rw [key, IntKind.wrap_i64]
  omega
theorem len_shift {n : Nat} (h0 : 0 < n) (h1 : n < 144115188075855872) : (putF (n * 128)).length = (putF n).length + 1 := by
  have e : (128 : Nat) ^ (9 + 1) = 1180591620717411303424 := by decide
  unfold putF
  rw [putL_len 9 n (by omega) (by rw [e]; omega) (by omega), putL_len 9 (n * 128) (by omega) (by rw [e]; omega) (by omega)]
  have := Lib.bitLen_shift 7 (n * 128) (by omega) (by omega)
  rw [show (2 : Nat) ^ 7 = 128 by decide, Nat.mul_div_cancel _ (by decide)] at this
  rw [this]; omega
theorem len_pair {s : Nat} (h : s ≤ 4611686018427387903) : (putF (2 * s)).length = (putF (2 * s + 1)).length := by
  rw [← len_eq (2 * s) (by omega), ← len_eq (2 * s + 1) (by omega)]
  have h1 : 2 * s ||| 1 = 2 * s + 1 := by
    have := Nat.two_pow_add_eq_or_of_lt (i := 1) (b := 1) (by decide) s
    rw [Nat.pow_one] at this
    rw [this]
  have h2 : (2 * s + 1) ||| 1 = 2 * s + 1 := by rw [← h1, Nat.or_assoc, Nat.or_self]
  rw [h1, h2]

set_option maxRecDepth 100000 in
set_option maxHeartbeats 1000000 in
theorem walk_VarintLens (a0 a1 : Int) (w : World) (w0 : (Lit.int .u64 a0).wf = true) (w1 : (Lit.int .i64 a1).wf = true) :
    Calls Try.prog 3 #[.int .u64 a0, .int .i64 a1] w fun e w' => e = .returned (.bool true) ∧ Below w.heap.size w w' := by
  have ⟨b1, b2⟩ := bounds_u64 w0
  clear w0 w1
  obtain ⟨n, rfl⟩ := Int.eq_ofNat_of_zero_le b1
  have hn : n ≤ 18446744073709551615 := by omega
  obtain ⟨c, hc⟩ : ∃ c : Nat, a1 % 8 = (c : Int) := ⟨(a1 % 8).toNat, by omega⟩
  have hbits : bits .and .i64 a1 7 = (c : Int) := by rw [i64_and7]; exact hc
  have hc7 : c ≤ 7 := by omega
  obtain ⟨s, hs⟩ : ∃ s : Nat, n / 2 / 2 ^ (7 * c + 6) = s := ⟨_, rfl⟩
  have hsl : s ≤ 4611686018427387903 := by
    rw [← hs]
    have h1 : 2 ≤ 2 ^ (7 * c + 6) := by
      calc 2 = 2 ^ 1 := by decide
        _ ≤ 2 ^ (7 * c + 6) := Nat.pow_le_pow_right (by decide) (by omega)
    have h2 : n / 2 / 2 ^ (7 * c + 6) ≤ n / 2 / 2 := Nat.div_le_div_left h1 (by decide)
    omega
  have hdiv : (n : Int) / 2 / 2 ^ (7 * c + 6) = (s : Int) := by
    rw [← hs]; simp
  have HF1 := Lib.hid (fun W => fold_any (s : Int) W (by omega) (by omega))
  have HF2 := Lib.hid (fun W => fold_any (-(s : Int) - 1) W (by omega) (by omega))
  rw [show foldF (s : Int) = ((2 * s : Nat) : Int) by unfold foldF; rw [if_neg (by omega)]; omega] at HF1
  rw [show foldF (-(s : Int) - 1) = ((2 * s + 1 : Nat) : Int) by unfold foldF; rw [if_pos (by omega)]; omega] at HF2
  have HL1 := Lib.hid (fun W => len_any (2 * s) W (by omega))
  have HL2 := Lib.hid (fun W => len_any (2 * s + 1) W (by omega))
  rw [← len_pair hsl] at HL2
  have HP := Lib.hid (fun W => put_any n W hn)
  have hpl := putL_length 9 n
  have hpe : (putF n).length = (putL 9 n).length := rfl
  have HLN := Lib.hid (fun W => len_any n W hn)
  have HSH := Lib.hid (fun h0 h1 => len_shift (n := n) h0 h1)
  have HLS := Lib.hid (fun W (h : n < 144115188075855872) => len_any (n * 128) W (by omega))
  rw [← hpe] at hpl
  clear hc hs hpe b1 b2
  obtain ⟨d, hd⟩ : ∃ d, 2 * s = d := ⟨_, rfl⟩
  rw [hd] at HF1 HF2 HL1 HL2
  have hdl : d ≤ 9223372036854775806 := by omega
  have hs2 : (s : Int) ≤ 4611686018427387903 := by omega
  generalize (putF d).length = L1 at *
  clear hd hsl
  rw [show ((d + 1 : Nat) : Int) = (d : Int) + 1 by omega] at HF2 HL2
  by_cases h0 : 0 < n
  · by_cases h1 : n < 144115188075855872
    · have hsh := HSH.out h0 h1
      have HLS2 := Lib.hid (fun W => HLS.out W h1)
      rw [hsh] at HLS2
      rw [show ((n * 128 : Nat) : Int) = (n : Int) * 128 by omega] at HLS2
      have h1i : (n : Int) < 144115188075855872 := by omega
      clear HSH HLS hsh h1 hn
      generalize hLL : (putF n).length = L at *
      have HLL := Lib.hid hLL
      have hL10 : decide ((L : Int) ≤ 10) = true := by simp; omega
      clear hLL
      go_enter Try.func3, Try.ntmps3
      go_wp2_with (go_at_call 5; refine (valive_any _).mono ?_; rintro e w0 ⟨rfl, hB0⟩)
      refine (HLS2.out _).mono ?_
      rintro e w2 ⟨rfl, rfl⟩
      go_wp2_with fail
      refine (HLN.out _).mono ?_
      rintro e w2 ⟨rfl, rfl⟩
      go_wp2_with fail
      refine (HF1.out _).mono ?_
      rintro e w2 ⟨rfl, rfl⟩
      go_wp2_with fail
      refine (HL1.out _).mono ?_
      rintro e w2 ⟨rfl, rfl⟩
      go_wp2_with fail
      refine (HF2.out _).mono ?_
      rintro e w2 ⟨rfl, rfl⟩
      go_wp2_with fail
      refine (HL2.out _).mono ?_
      rintro e w2 ⟨rfl, rfl⟩
      go_wp2_with fail
      refine (HF1.out _).mono ?_
      rintro e w2 ⟨rfl, rfl⟩
      go_wp2_with fail
      refine (HF2.out _).mono ?_
      rintro e w2 ⟨rfl, rfl⟩
      go_wp2_with fail
      refine (HP.out _).mono ?_
      rintro e w3 ⟨v, rfl, hg, hB3⟩
      obtain ⟨a5, cap5, rfl⟩ := hg.slice
      clear hg
      rw [HLL.out]
      have HB3 := Lib.hid (hB0.trans (hB3.mono hB0.size))
      clear hB3 hB0
      go_wp2
      go_ret
      exact ⟨rfl, HB3.out⟩
    · have h1b : decide ((n : Int) < 144115188075855872) = false := by simp; omega
      clear h1
      clear HSH HLS HLN hn
      generalize hLL : (putF n).length = L at *
      have HLL := Lib.hid hLL
      have hL10 : decide ((L : Int) ≤ 10) = true := by simp; omega
      clear hLL
      go_enter Try.func3, Try.ntmps3
      go_wp2_with (go_at_call 5; refine (valive_any _).mono ?_; rintro e w0 ⟨rfl, hB0⟩)
      refine (HF1.out _).mono ?_
      rintro e w2 ⟨rfl, rfl⟩
      go_wp2_with fail
      refine (HL1.out _).mono ?_
      rintro e w2 ⟨rfl, rfl⟩
      go_wp2_with fail
      refine (HF2.out _).mono ?_
      rintro e w2 ⟨rfl, rfl⟩
      go_wp2_with fail
      refine (HL2.out _).mono ?_
      rintro e w2 ⟨rfl, rfl⟩
      go_wp2_with fail
      refine (HF1.out _).mono ?_
      rintro e w2 ⟨rfl, rfl⟩
      go_wp2_with fail
      refine (HF2.out _).mono ?_
      rintro e w2 ⟨rfl, rfl⟩
      go_wp2_with fail
      refine (HP.out _).mono ?_
      rintro e w3 ⟨v, rfl, hg, hB3⟩
      obtain ⟨a5, cap5, rfl⟩ := hg.slice
      clear hg
      rw [HLL.out]
      have HB3 := Lib.hid (hB0.trans (hB3.mono hB0.size))
      clear hB3 hB0
      go_wp2
      go_ret
      exact ⟨rfl, HB3.out⟩
  · have h0i : ¬ (0 : Int) < (n : Int) := by omega
    clear HSH HLS HLN hn
    generalize hLL : (putF n).length = L at *
    have HLL := Lib.hid hLL
    have hL10 : decide ((L : Int) ≤ 10) = true := by simp; omega
    clear hLL
    go_enter Try.func3, Try.ntmps3
    go_wp2_with (go_at_call 5; refine (valive_any _).mono ?_; rintro e w0 ⟨rfl, hB0⟩)
    refine (HF1.out _).mono ?_
    rintro e w2 ⟨rfl, rfl⟩
    go_wp2_with fail
    refine (HL1.out _).mono ?_
    rintro e w2 ⟨rfl, rfl⟩
    go_wp2_with fail
    refine (HF2.out _).mono ?_
    rintro e w2 ⟨rfl, rfl⟩
    go_wp2_with fail
    refine (HL2.out _).mono ?_
    rintro e w2 ⟨rfl, rfl⟩
    go_wp2_with fail
    refine (HF1.out _).mono ?_
    rintro e w2 ⟨rfl, rfl⟩
    go_wp2_with fail
    refine (HF2.out _).mono ?_
    rintro e w2 ⟨rfl, rfl⟩
    go_wp2_with fail
    refine (HP.out _).mono ?_
    rintro e w3 ⟨v, rfl, hg, hB3⟩
    obtain ⟨a5, cap5, rfl⟩ := hg.slice
    clear hg
    rw [HLL.out]
    have HB3 := Lib.hid (hB0.trans (hB3.mono hB0.size))
    clear hB3 hB0
    go_wp2
    go_ret
    exact ⟨rfl, HB3.out⟩
end Go.Proofs.Ytiajpffdnjeafab
