/- Plain arithmetic of layer 2: numbers in bytes of seven bits. No program in this text. -/
import Derived.WalkKit
import Derived.OpenShut
import Derived.Lib.EndianBits
import Derived.Lib.BitFns
set_option linter.unusedVariables false
namespace Go.Proofs.Ytnkhpmpoemodiaa
open Go.RowKit

/-- The number that stands at the beginning of bytes, from byte i on, n being what stood ahead; how many bytes; the error's number. -/
def getGo : List Int → Nat → Nat → Nat × Nat × Nat
  | [], _, _ => (0, 0, 20)
  | c :: l, i, n =>
    if i = 9 ∧ 1 < c then (0, 0, 23)
    else if c < 128 then (if 0 < i ∧ c = 0 then (0, 0, 21) else (n + c.toNat * 128 ^ i, i + 1, 0))
    else getGo l (i + 1) (n + (c.toNat - 128) * 128 ^ i)
def getF (l : List Int) : Nat × Nat × Nat := getGo l 0 0
/-- A number's bytes. -/
def putL : Nat → Nat → List Int
  | 0, n => [(n : Int)]
  | f + 1, n => if n < 128 then [(n : Int)] else ((n % 128 + 128 : Nat) : Int) :: putL f (n / 128)
def putF (n : Nat) : List Int := putL 9 n
def foldF (n : Int) : Int := if n < 0 then 2 * (-n - 1) + 1 else 2 * n
def unfoldF (n : Int) : Int := if n % 2 = 0 then n / 2 else -(n / 2) - 1

theorem pow128_le : ∀ k, k ≤ 9 → 128 ^ k ≤ 9223372036854775808 := by
  intro k hk
  calc 128 ^ k ≤ 128 ^ 9 := Nat.pow_le_pow_right (by decide) hk
    _ = 9223372036854775808 := by decide
theorem pow128_8 (k : Nat) (hk : k ≤ 8) : 128 ^ k ≤ 72057594037927936 := by
  calc 128 ^ k ≤ 128 ^ 8 := Nat.pow_le_pow_right (by decide) hk
    _ = 72057594037927936 := by decide
theorem pow2_7 (k : Nat) : (2 : Int) ^ (7 * k) = ((128 ^ k : Nat) : Int) := by
  rw [Int.pow_mul]; exact_mod_cast rfl
/-- What a byte adds fits, and leaves what is ahead alone. -/
theorem byte_adds {c : Int} {k n : Nat} (hk : k ≤ 9) (c0 : 0 ≤ c) (c1 : c ≤ 255) (h9 : ¬ (k = 9 ∧ 1 < c)) (hn : n < 128 ^ k) :
    (c.toNat % 128) * 128 ^ k ≤ 18446744073709551615 ∧ n + (c.toNat % 128) * 128 ^ k ≤ 18446744073709551615 := by
  by_cases h : k = 9
  · subst h
    have : c.toNat ≤ 1 := by omega
    have e : (128 : Nat) ^ 9 = 9223372036854775808 := by decide
    rw [e] at hn ⊢
    omega
  · have hp := pow128_8 k (by omega)
    have h1 : (c.toNat % 128) * 128 ^ k ≤ 127 * 128 ^ k := Nat.mul_le_mul_right _ (by omega)
    omega
theorem or_adds {n m k : Nat} (hk : k ≤ 9) (hn : n < 128 ^ k) (hm : n + m * 128 ^ k ≤ 18446744073709551615) :
    bits .or .u64 (n : Int) ((m : Int) * ((128 ^ k : Nat) : Int)) = (n : Int) + (m : Int) * ((128 ^ k : Nat) : Int) := by
  have h2 := pow2_7 k
  refine bits_join_low .u64 64 (by decide) wraps_u64 (7 * k) _ _ (by omega) ?_ ?_ (by rw [← Int.natCast_mul]; omega) ?_ ?_
  · rw [h2]; omega
  · have := pow128_le k hk; omega
  · rw [h2]; exact Int.mul_emod_left _ _
  · rw [← Int.natCast_mul]; omega

theorem next_lt {n m k : Nat} (hn : n < 128 ^ k) (hm : m ≤ 127) : n + m * 128 ^ k < 128 ^ (k + 1) := by
  rw [Nat.pow_succ]
  have : m * 128 ^ k ≤ 127 * 128 ^ k := Nat.mul_le_mul_right _ hm
  omega

/-! ### put, then get -/
theorem putL_length (f n : Nat) : 1 ≤ (putL f n).length ∧ (putL f n).length ≤ f + 1 := by
  induction f generalizing n with
  | zero => simp [putL]
  | succ f ih =>
    simp only [putL]
    split
    · simp
    · have := ih (n / 128); simp only [List.length_cons]; omega
theorem putL_bytes (f n : Nat) (h : n < 128 ^ (f + 1)) : ∀ x ∈ putL f n, 0 ≤ x ∧ x ≤ 255 := by
  induction f generalizing n with
  | zero => intro x hx; simp [putL] at hx; subst hx; simp at h; omega
  | succ f ih =>
    intro x hx
    simp only [putL] at hx
    split at hx
    · simp at hx; subst hx; omega
    · rcases List.mem_cons.1 hx with rfl | hx
      · omega
      · exact ih (n / 128) (by rw [Nat.pow_succ] at h; omega) x hx
theorem get_put (f : Nat) : ∀ (n i a : Nat) (more : List Int), i + f ≤ 9 → n * 128 ^ i + a ≤ 18446744073709551615 → n < 128 ^ (f + 1) → (0 < i → n ≠ 0) →
    getGo (putL f n ++ more) i a = (n * 128 ^ i + a, i + (putL f n).length, 0) := by
  induction f with
  | zero =>
    intro n i a more hi hn hf h0
    simp at hf
    have h9 : ¬ (i = 9 ∧ (1 : Int) < (n : Int)) := by
      rintro ⟨rfl, h⟩
      have e : (128 : Nat) ^ 9 = 9223372036854775808 := by decide
      rw [e] at hn; omega
    simp only [putL, List.cons_append, List.nil_append, getGo]
    rw [if_neg h9, if_pos (by omega), if_neg (by rintro ⟨a, b⟩; exact h0 a (by omega))]
    simp only [List.length_cons, List.length_nil, Int.toNat_natCast]
    rw [Nat.add_comm]
  | succ f ih =>
    intro n i a more hi hn hf h0
    simp only [putL]
    split
    · rename_i hs
      have h9 : ¬ (i = 9 ∧ (1 : Int) < (n : Int)) := by omega
      simp only [List.cons_append, List.nil_append, getGo]
      rw [if_neg h9, if_pos (by omega), if_neg (by rintro ⟨a, b⟩; exact h0 a (by omega))]
      simp only [List.length_cons, List.length_nil, Int.toNat_natCast]
      rw [Nat.add_comm]
    · rename_i hs
      simp only [List.cons_append, getGo]
      rw [if_neg (by omega), if_neg (by omega)]
      have e1 : (((n % 128 + 128 : Nat) : Int).toNat - 128) = n % 128 := by omega
      have e3 : n / 128 * 128 ^ (i + 1) + (a + n % 128 * 128 ^ i) = n * 128 ^ i + a := by
        have : n = n / 128 * 128 + n % 128 := by omega
        have h4 : n * 128 ^ i = (n / 128 * 128 + n % 128) * 128 ^ i := by rw [← this]
        rw [h4, Nat.add_mul, Nat.pow_succ, Nat.mul_comm (128 ^ i) 128, Nat.mul_assoc]; omega
      rw [e1, ih (n / 128) (i + 1) (a + n % 128 * 128 ^ i) more (by omega) (by rw [e3]; exact hn) (by rw [Nat.pow_succ] at hf; omega) (fun _ => by omega), e3]
      simp only [List.length_cons]
      rw [show i + 1 + (putL f (n / 128)).length = i + ((putL f (n / 128)).length + 1) by omega]
theorem get_putF (n : Nat) (more : List Int) (h : n ≤ 18446744073709551615) : getF (putF n ++ more) = (n, (putF n).length, 0) := by
  have e : (128 : Nat) ^ (9 + 1) = 1180591620717411303424 := by decide
  have := get_put 9 n 0 0 more (by omega) (by simpa using h) (by rw [e]; omega) (fun h => absurd h (by decide))
  rw [Nat.pow_zero, Nat.mul_one, Nat.add_zero, Nat.zero_add] at this
  exact this
theorem sub_step {s i : Nat} (h : i + 1 < s) : s - i = (s - (i + 1)) + 1 := by omega
theorem mod_step {c : Int} (h0 : 128 ≤ c) (h1 : c ≤ 255) : ((c.toNat % 128 + 128 : Nat) : Int) = c := by omega
theorem div_step (m d : Nat) (h : d < 128) : (m * 128 + d) / 128 = m ∧ (m * 128 + d) % 128 = d := by omega
/-! ### get, then put -/
theorem put_get (l : List Int) (hb : ∀ x ∈ l, 0 ≤ x ∧ x ≤ 255) : ∀ (i a : Nat), i ≤ 9 → a < 128 ^ i → ∀ (n s e : Nat), getGo l i a = (n, s, e) →
    (e = 0 → i < s ∧ s ≤ i + l.length ∧ s ≤ 10 ∧ n ≤ 18446744073709551615 ∧ ∃ m, n = m * 128 ^ i + a ∧ (0 < i → m ≠ 0) ∧ putL (9 - i) m = l.take (s - i)) ∧ (e ≠ 0 → n = 0 ∧ s = 0) := by
  induction l with
  | nil =>
    intro i a hi ha n s e h
    simp only [getGo, Prod.mk.injEq] at h
    obtain ⟨rfl, rfl, rfl⟩ := h
    exact ⟨fun h => absurd h (by decide), fun _ => ⟨rfl, rfl⟩⟩
  | cons c l ih =>
    intro i a hi ha n s e h
    have hc := hb c (List.mem_cons_self ..)
    simp only [getGo] at h
    split at h
    · simp only [Prod.mk.injEq] at h
      obtain ⟨rfl, rfl, rfl⟩ := h
      exact ⟨fun h => absurd h (by decide), fun _ => ⟨rfl, rfl⟩⟩
    · rename_i h9
      have hadd := byte_adds hi hc.1 hc.2 h9 ha
      split at h
      · rename_i hs
        split at h
        · simp only [Prod.mk.injEq] at h
          obtain ⟨rfl, rfl, rfl⟩ := h
          exact ⟨fun h => absurd h (by decide), fun _ => ⟨rfl, rfl⟩⟩
        · rename_i hz
          simp only [Prod.mk.injEq] at h
          obtain ⟨rfl, rfl, rfl⟩ := h
          have e1 : c.toNat % 128 = c.toNat := by omega
          rw [e1] at hadd
          refine ⟨fun _ => ⟨by omega, by simp, by omega, hadd.2, c.toNat, by omega, fun h => by omega, ?_⟩, fun h => absurd rfl h⟩
          rw [show i + 1 - i = 1 by omega]
          have hcc : ((c.toNat : Nat) : Int) = c := by omega
          cases h10 : 9 - i with
          | zero => simp [putL, hcc]
          | succ f => simp only [putL]; rw [if_pos (by omega), hcc]; simp
      · rename_i hs
        have hi8 : i ≤ 8 := by omega
        have hm : c.toNat - 128 = c.toNat % 128 := by omega
        rw [hm] at h
        have hlt := next_lt (m := c.toNat % 128) ha (by omega)
        have r := ih (fun x hx => hb x (List.mem_cons_of_mem _ hx)) (i + 1) _ (by omega) hlt n s e h
        refine ⟨fun he => ?_, r.2⟩
        obtain ⟨r1, r2, r3, r4, m, r5, r6, r7⟩ := r.1 he
        simp only [List.length_cons]
        refine ⟨by omega, by omega, r3, r4, m * 128 + c.toNat % 128, ?_, fun _ => by have := r6 (by omega); omega, ?_⟩
        · rw [r5, Nat.add_mul, Nat.pow_succ, Nat.mul_comm (128 ^ i) 128, ← Nat.mul_assoc]
          generalize 128 ^ i = P at *
          generalize c.toNat % 128 * P = A at *
          generalize m * 128 * P = B at *
          omega
        · have hm0 := r6 (by omega)
          rw [show 9 - i = (9 - (i + 1)) + 1 by omega]
          simp only [putL]
          have hd : c.toNat % 128 < 128 := Nat.mod_lt _ (by decide)
          have hc2 : 128 ≤ c := by omega
          rw [if_neg (by omega), (div_step m _ hd).1, r7, (div_step m _ hd).2, sub_step r1, List.take_succ_cons, mod_step hc2 hc.2]
theorem put_getF (l : List Int) (hb : ∀ x ∈ l, 0 ≤ x ∧ x ≤ 255) (n s e : Nat) (h : getF l = (n, s, e)) :
    (e = 0 → 1 ≤ s ∧ s ≤ l.length ∧ s ≤ 10 ∧ n ≤ 18446744073709551615 ∧ putF n = l.take s) ∧ (e ≠ 0 → n = 0 ∧ s = 0) := by
  have r := put_get l hb 0 0 (by omega) (by simp) n s e h
  refine ⟨fun he => ?_, r.2⟩
  obtain ⟨r1, r2, r3, r4, m, r5, _, r7⟩ := r.1 he
  have : n = m := by simpa using r5
  subst this
  exact ⟨by omega, by omega, r3, r4, by simpa [putF] using r7⟩

/-! ### how many bytes -/
theorem bitLen_small : ∀ n : Fin 128, n.val ≠ 0 → 1 ≤ Lib.bitLen n.val ∧ Lib.bitLen n.val ≤ 7 := by decide +kernel
theorem putL_len (f : Nat) : ∀ x : Nat, 1 ≤ x → x < 128 ^ (f + 1) → x < 18446744073709551616 → (putL f x).length = (Lib.bitLen x + 6) / 7 := by
  induction f with
  | zero =>
    intro x h1 h2 _
    have := bitLen_small ⟨x, by simpa using h2⟩ (by simp; omega)
    simp only [putL, List.length_cons, List.length_nil]
    simp only at this
    omega
  | succ f ih =>
    intro x h1 h2 h3
    simp only [putL]
    split
    · have := bitLen_small ⟨x, by omega⟩ (by simp; omega)
      simp only [List.length_cons, List.length_nil]
      simp only at this
      omega
    · have e := Lib.bitLen_shift 7 x (by omega) h3
      rw [show (2 : Nat) ^ 7 = 128 by decide] at e
      have := ih (x / 128) (by omega) (by rw [Nat.pow_succ] at h2; omega) (by omega)
      rw [List.length_cons, this, e]
      omega
theorem len_eq (n : Nat) (h : n ≤ 18446744073709551615) : (Lib.bitLen (n ||| 1) + 6) / 7 = (putF n).length := by
  have e : (128 : Nat) ^ (9 + 1) = 1180591620717411303424 := by decide
  by_cases h0 : n = 0
  · subst h0; decide +kernel
  · have hb : Lib.bitLen (n ||| 1) = Lib.bitLen n := by
      have h1 : n ||| 1 < 2 ^ 64 := Nat.or_lt_two_pow (by omega) (by omega)
      have h2 : (n ||| 1) / 2 = n / 2 := by rw [Nat.or_div_two]; simp
      have h3 : n ||| 1 ≠ 0 := by intro h; have := Nat.or_eq_zero_iff.1 h; omega
      rw [Lib.bitLen_half _ h3 h1, h2, ← Lib.bitLen_half n h0 (by omega)]
    rw [hb]
    exact (putL_len 9 n (by omega) (by rw [e]; omega) (by omega)).symm

theorem andNot128 {c : Int} (h0 : 0 ≤ c) (h1 : c ≤ 255) : bits .andNot .u8 c 128 = ((c.toNat % 128 : Nat) : Int) := by
  have h : ∀ m : Fin 256, bits .andNot .u8 (m.val : Int) 128 = ((m.val % 128 : Nat) : Int) := by decide +kernel
  have := h ⟨c.toNat, by omega⟩
  rwa [show ((c.toNat : Nat) : Int) = c by omega] at this
/-! ### one step of getting -/
theorem go_range {zs : List Int} {c : Int} {l : List Int} {k n : Nat} (h : getF zs = getGo (c :: l) k n) (h1 : k = 9) (h2 : 1 < c) : getF zs = (0, 0, 23) := by
  rw [h, getGo, if_pos ⟨h1, h2⟩]
theorem go_form {zs : List Int} {c : Int} {l : List Int} {k n : Nat} (h : getF zs = getGo (c :: l) k n) (h1 : 0 < k) (h2 : c = 0) : getF zs = (0, 0, 21) := by
  rw [h, getGo, if_neg (by omega), if_pos (by omega), if_pos ⟨h1, h2⟩]
theorem go_end {zs : List Int} {c : Int} {l : List Int} {k n d P : Nat} (h : getF zs = getGo (c :: l) k n) (h1 : ¬ (k = 9 ∧ 1 < c)) (h0 : 0 ≤ c) (h2 : c < 128) (h3 : ¬ (0 < k ∧ c = 0)) (hd : c.toNat % 128 = d) (hP : 128 ^ k = P) :
    getF zs = (n + d * P, k + 1, 0) := by
  rw [h, getGo, if_neg h1, if_pos h2, if_neg h3, ← hd, ← hP, Nat.mod_eq_of_lt (by omega)]
theorem go_next {zs : List Int} {c : Int} {l : List Int} {k n d P : Nat} (h : getF zs = getGo (c :: l) k n) (h1 : ¬ (k = 9 ∧ 1 < c)) (h2 : 128 ≤ c) (h3 : c ≤ 255) (hd : c.toNat % 128 = d) (hP : 128 ^ k = P) :
    getF zs = getGo l (k + 1) (n + d * P) := by
  rw [h, getGo, if_neg h1, if_neg (by omega), ← hd, ← hP, show c.toNat - 128 = c.toNat % 128 by omega]
theorem drop_cons {zs : List Int} {k : Nat} (h : k < zs.length) : zs.drop k = zs.getD k 0 :: zs.drop (k + 1) := by
  rw [List.drop_eq_getElem_cons h]; simp [List.getD, h]
theorem not64 (n : Int) (h1 : -9223372036854775808 ≤ n) (h2 : n ≤ 9223372036854775807) : bits .xor .i64 (-1) n = -n - 1 := by
  have key : (BitVec.ofInt 64 (-1) ^^^ BitVec.ofInt 64 n).toNat = 18446744073709551615 - (n % 18446744073709551616).toNat := by
    have e : BitVec.ofInt 64 (-1) = BitVec.allOnes 64 := by decide
    rw [e, BitVec.allOnes_xor, BitVec.toNat_not, BitVec.toNat_ofInt]
    rfl
  show IntKind.i64.wrap ((BitVec.ofInt 64 (-1) ^^^ BitVec.ofInt 64 n).toNat : Nat) = -n - 1
  rw [key, IntKind.wrap_i64]
  omega

/-! ### all numbers that stand in bytes, with their places -/
def itemsGo : Nat → List Int → Nat → List (Nat × Nat)
  | 0, _, _ => []
  | f + 1, l, at0 => if l = [] then [] else if (getF l).2.2 = 0 then (at0, (getF l).1) :: itemsGo f (l.drop (getF l).2.1) (at0 + (getF l).2.1) else []
def itemsF (zs : List Int) : List (Nat × Nat) := itemsGo zs.length zs 0
theorem itemsGo_stop {f at0 : Nat} {l : List Int} (h : (getF l).2.2 ≠ 0) : itemsGo f l at0 = [] := by
  cases f with
  | zero => rfl
  | succ f =>
    simp only [itemsGo]
    split <;> first | rfl | rw [if_neg h]
theorem itemsGo_nil (f at0 : Nat) : itemsGo f [] at0 = [] := by
  cases f with
  | zero => rfl
  | succ f => simp [itemsGo]
theorem itemsGo_step {f at0 : Nat} {l : List Int} (hl : l ≠ []) (hf : l.length ≤ f) (h : (getF l).2.2 = 0) :
    ∃ g, f = g + 1 ∧ itemsGo f l at0 = (at0, (getF l).1) :: itemsGo g (l.drop (getF l).2.1) (at0 + (getF l).2.1) := by
  cases f with
  | zero => exact absurd (List.eq_nil_of_length_eq_zero (by omega)) hl
  | succ g => exact ⟨g, rfl, by simp [itemsGo, hl, h]⟩
theorem itemsGo_length (f : Nat) : ∀ (l : List Int) (at0 : Nat), (itemsGo f l at0).length ≤ f := by
  induction f with
  | zero => intro l a; simp [itemsGo]
  | succ f ih =>
    intro l a
    simp only [itemsGo]
    split
    · simp
    · split
      · simp only [List.length_cons]; have := ih (l.drop (getF l).2.1) (a + (getF l).2.1); omega
      · simp
theorem getF_size {l : List Int} (hb : ∀ x ∈ l, 0 ≤ x ∧ x ≤ 255) (h : (getF l).2.2 = 0) : 1 ≤ (getF l).2.1 ∧ (getF l).2.1 ≤ l.length ∧ (getF l).2.1 ≤ 10 ∧ (getF l).1 ≤ 18446744073709551615 := by
  have := (put_getF l hb (getF l).1 (getF l).2.1 (getF l).2.2 rfl).1 h
  exact ⟨this.1, this.2.1, this.2.2.1, this.2.2.2.1⟩
end Go.Proofs.Ytnkhpmpoemodiaa
