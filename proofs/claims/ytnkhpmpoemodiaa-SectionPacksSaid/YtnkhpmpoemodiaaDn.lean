/- Plain arithmetic of layer 4: the steps as numbers below 2^32, and by a table. No program in this text. -/
import Derived.Test.YtnkhpmpoemodiaaDm
set_option linter.unusedVariables false
namespace Go.Proofs.Ytnkhpmpoemodiaa

def stepN (p x : Nat) : Nat := if x % 2 = 1 then (x / 2) ^^^ p else x / 2
def stepsN (p : Nat) : Nat → Nat → Nat
  | 0, x => x
  | k + 1, x => stepsN p k (stepN p x)
/-- One byte more, by the table. -/
def byteN (p s c : Nat) : Nat := stepsN p 8 ((s ^^^ c) % 256) ^^^ (s / 256)
def bytesN (p s : Nat) (l : List Nat) : Nat := l.foldl (byteN p) s

theorem stepN_lt {p x : Nat} (hp : p < 4294967296) (hx : x < 4294967296) : stepN p x < 4294967296 := by
  unfold stepN
  split
  · exact Nat.xor_lt_two_pow (n := 32) (by omega) hp
  · omega
theorem stepsN_lt {p : Nat} (hp : p < 4294967296) (k : Nat) : ∀ x, x < 4294967296 → stepsN p k x < 4294967296 := by
  induction k with
  | zero => intro x h; exact h
  | succ k ih => intro x h; exact ih _ (stepN_lt hp h)
theorem byteN_lt {p s c : Nat} (hp : p < 4294967296) (hs : s < 4294967296) : byteN p s c < 4294967296 :=
  Nat.xor_lt_two_pow (n := 32) (stepsN_lt hp 8 _ (by omega)) (by omega)
theorem bytesN_lt {p : Nat} (hp : p < 4294967296) (l : List Nat) : ∀ s, s < 4294967296 → bytesN p s l < 4294967296 := by
  induction l with
  | nil => intro s h; exact h
  | cons c l ih => intro s h; exact ih _ (byteN_lt hp h)

theorem ofNat_half {x : Nat} (hx : x < 4294967296) : BitVec.ofNat 32 (x / 2) = BitVec.ofNat 32 x >>> 1 := by
  apply BitVec.eq_of_toNat_eq
  rw [BitVec.toNat_ushiftRight, BitVec.toNat_ofNat, BitVec.toNat_ofNat, Nat.mod_eq_of_lt (by omega), Nat.mod_eq_of_lt (by omega), Nat.shiftRight_eq_div_pow]
theorem stepN_bv {p x : Nat} (hx : x < 4294967296) : BitVec.ofNat 32 (stepN p x) = stp (BitVec.ofNat 32 p) (BitVec.ofNat 32 x) := by
  unfold stepN stp
  have h0 : (BitVec.ofNat 32 x).getLsbD 0 = decide (x % 2 = 1) := by rw [BitVec.getLsbD_ofNat]; simp [Nat.testBit_zero]
  rw [h0, ← ofNat_half hx]
  by_cases h : x % 2 = 1
  · rw [if_pos h, if_pos (by simpa using h), BitVec.ofNat_xor]
  · rw [if_neg h, if_neg (by simpa using h), BitVec.xor_zero]
theorem stepsN_bv {p : Nat} (hp : p < 4294967296) (k : Nat) : ∀ x, x < 4294967296 → BitVec.ofNat 32 (stepsN p k x) = stps (BitVec.ofNat 32 p) k (BitVec.ofNat 32 x) := by
  induction k with
  | zero => intro x _; rfl
  | succ k ih => intro x h; simp only [stepsN, stps]; rw [ih _ (stepN_lt hp h), stepN_bv h]
theorem byteN_bv {p s c : Nat} (hp : p < 4294967296) (hs : s < 4294967296) (hc : c < 256) : BitVec.ofNat 32 (byteN p s c) = updB (BitVec.ofNat 32 p) (BitVec.ofNat 32 s) c := by
  unfold byteN updB
  have hy : s ^^^ c < 4294967296 := Nat.xor_lt_two_pow (n := 32) hs (by omega)
  rw [BitVec.ofNat_xor, stepsN_bv hp 8 _ (by omega), ← BitVec.ofNat_xor]
  generalize hyy : s ^^^ c = y at *
  have hd : y / 256 = s / 256 := by
    have h1 : y >>> 8 = (s >>> 8) ^^^ (c >>> 8) := by rw [← hyy, Nat.shiftRight_xor_distrib]
    simp only [Nat.shiftRight_eq_div_pow] at h1
    rw [show (2 : Nat) ^ 8 = 256 by decide, Nat.div_eq_of_lt hc, Nat.xor_zero] at h1
    exact h1
  rw [← hd]
  have hsplit : BitVec.ofNat 32 y = BitVec.ofNat 32 (y % 256) ^^^ (BitVec.ofNat 32 (y / 256) <<< 8) := by
    apply BitVec.eq_of_getLsbD_eq
    intro i hi
    rw [BitVec.getLsbD_xor, BitVec.getLsbD_ofNat, BitVec.getLsbD_ofNat, BitVec.getLsbD_shiftLeft, BitVec.getLsbD_ofNat, show (256 : Nat) = 2 ^ 8 by decide, Nat.testBit_mod_two_pow, Nat.testBit_div_two_pow]
    by_cases h8 : i < 8
    · simp [h8, hi]
    · have e : i - 8 + 8 = i := by omega
      simp [h8, hi, e]; omega
  conv => rhs; rw [hsplit]
  rw [stps_xor]
  congr 1
  rw [stps_shift _ _ 8 (fun i hi => by rw [BitVec.getLsbD_shiftLeft]; simp [hi])]
  apply BitVec.eq_of_getLsbD_eq
  intro i hi
  rw [BitVec.getLsbD_ushiftRight, BitVec.getLsbD_shiftLeft, BitVec.getLsbD_ofNat, BitVec.getLsbD_ofNat, decide_eq_true hi, Bool.true_and, decide_eq_false (show ¬ 8 + i < 8 by omega), Nat.add_sub_cancel_left]
  by_cases h24 : 8 + i < 32
  · simp [h24, hi]
  · rw [Nat.testBit_lt_two_pow (Nat.lt_of_lt_of_le (show y / 256 < 2 ^ 24 by omega) (Nat.pow_le_pow_right (by decide) (by omega)))]
    simp [h24]
theorem bytesN_bv {p : Nat} (hp : p < 4294967296) (l : List Nat) : ∀ s, s < 4294967296 → (∀ c ∈ l, c < 256) → BitVec.ofNat 32 (bytesN p s l) = runB (BitVec.ofNat 32 p) (BitVec.ofNat 32 s) l := by
  induction l with
  | nil => intro s _ _; rfl
  | cons c l ih =>
    intro s hs hl
    have := ih (byteN p s c) (byteN_lt hp hs) (fun x hx => hl x (List.mem_cons_of_mem _ hx))
    rw [byteN_bv hp hs (hl c (List.mem_cons_self ..))] at this
    exact this
end Go.Proofs.Ytnkhpmpoemodiaa
