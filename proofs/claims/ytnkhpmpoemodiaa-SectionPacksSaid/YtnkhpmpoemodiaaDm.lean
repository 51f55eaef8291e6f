/- Plain arithmetic of layer 4: sums of bytes by a polynomial; a burst of 32 bits is found. No program in this text. -/
import Derived.WalkKit
set_option linter.unusedVariables false
namespace Go.Proofs.Ytnkhpmpoemodiaa

/-- One bit moved out. -/
def stp (p x : BitVec 32) : BitVec 32 := (x >>> 1) ^^^ (if x.getLsbD 0 = true then p else 0#32)
def stps (p : BitVec 32) : Nat → BitVec 32 → BitVec 32
  | 0, x => x
  | k + 1, x => stps p k (stp p x)
def updB (p s : BitVec 32) (c : Nat) : BitVec 32 := stps p 8 (s ^^^ BitVec.ofNat 32 c)
def runB (p s : BitVec 32) (l : List Nat) : BitVec 32 := l.foldl (updB p) s
def one (b : Bool) : BitVec 32 := if b = true then 1#32 else 0#32
def runBits (p s : BitVec 32) (l : List Bool) : BitVec 32 := l.foldl (fun s b => stp p (s ^^^ one b)) s

theorem xor4 (a b c d : BitVec 32) : (a ^^^ b) ^^^ (c ^^^ d) = (a ^^^ c) ^^^ (b ^^^ d) := by
  rw [BitVec.xor_assoc, ← BitVec.xor_assoc b c d, BitVec.xor_comm b c, BitVec.xor_assoc, ← BitVec.xor_assoc a c]
theorem stp_xor (p x y : BitVec 32) : stp p (x ^^^ y) = stp p x ^^^ stp p y := by
  unfold stp
  rw [BitVec.ushiftRight_xor_distrib, BitVec.getLsbD_xor, xor4]
  congr 1
  cases x.getLsbD 0 <;> cases y.getLsbD 0 <;> simp
theorem stps_xor (p : BitVec 32) (k : Nat) : ∀ x y, stps p k (x ^^^ y) = stps p k x ^^^ stps p k y := by
  induction k with
  | zero => intro x y; rfl
  | succ k ih => intro x y; simp only [stps, stp_xor, ih]
theorem stps_add (p : BitVec 32) (a b : Nat) : ∀ x, stps p (a + b) x = stps p b (stps p a x) := by
  induction a with
  | zero => intro x; rw [Nat.zero_add]; rfl
  | succ a ih => intro x; rw [Nat.add_right_comm]; simp only [stps, ih]
theorem one_xor (a b : Bool) : one (a ^^ b) = one a ^^^ one b := by cases a <;> cases b <;> decide
theorem runBits_append (p s : BitVec 32) (l m : List Bool) : runBits p s (l ++ m) = runBits p (runBits p s l) m := by unfold runBits; exact List.foldl_append
theorem runBits_xor {α : Type} (p : BitVec 32) (l : List α) (f g : α → Bool) : ∀ s d, runBits p (s ^^^ d) (l.map fun i => f i ^^ g i) = runBits p s (l.map f) ^^^ runBits p d (l.map g) := by
  induction l with
  | nil => intro s d; rfl
  | cons a l ih =>
    intro s d
    simp only [List.map_cons, runBits, List.foldl_cons] at ih ⊢
    rw [one_xor, xor4, stp_xor, ih]

/-- The polynomials with the lowest power: nothing is lost. -/
theorem stp_zero (p : BitVec 32) : stp p 0#32 = 0#32 := by unfold stp; simp
theorem stp_ne {p x : BitVec 32} (hp : p.getLsbD 31 = true) (h : stp p x = 0#32) : x = 0#32 := by
  unfold stp at h
  by_cases h0 : x.getLsbD 0 = true
  · rw [if_pos h0] at h
    have h1 := congrArg (fun v : BitVec 32 => v.getLsbD 31) h
    simp only [BitVec.getLsbD_xor, BitVec.getLsbD_ushiftRight, hp, BitVec.getLsbD_zero, BitVec.getLsbD_of_ge x (1 + 31) (by decide)] at h1
    exact absurd h1 (by decide)
  · rw [if_neg h0, BitVec.xor_zero] at h
    apply BitVec.eq_of_getLsbD_eq
    intro i hi
    cases i with
    | zero => simpa using h0
    | succ j =>
      have := congrArg (fun v => v.getLsbD j) h
      simp only [BitVec.getLsbD_ushiftRight, BitVec.getLsbD_zero] at this ⊢
      rw [Nat.add_comm]; exact this
theorem stps_zero (p : BitVec 32) (k : Nat) : stps p k 0#32 = 0#32 := by
  induction k with
  | zero => rfl
  | succ k ih => simp only [stps, stp_zero, ih]
theorem stps_ne {p : BitVec 32} (hp : p.getLsbD 31 = true) (k : Nat) : ∀ x, stps p k x = 0#32 → x = 0#32 := by
  induction k with
  | zero => intro x h; exact h
  | succ k ih => intro x h; exact stp_ne hp (ih _ h)
theorem stps_inj {p : BitVec 32} (hp : p.getLsbD 31 = true) (k : Nat) {x y : BitVec 32} (h : stps p k x = stps p k y) : x = y := by
  have h1 : stps p k (x ^^^ y) = 0#32 := by rw [stps_xor, h, BitVec.xor_self]
  have h2 := stps_ne hp k _ h1
  have h3 := congrArg (· ^^^ y) h2
  simpa [BitVec.xor_assoc] using h3
theorem runBits_false (p : BitVec 32) {α : Type} (l : List α) : ∀ s, runBits p s (l.map fun _ => false) = stps p l.length s := by
  induction l with
  | nil => intro s; rfl
  | cons a l ih =>
    intro s
    simp only [List.map_cons, runBits, List.foldl_cons, List.length_cons, stps] at ih ⊢
    rw [ih]
    simp [one]

/-- A word's lowest k bits, one behind the other. -/
theorem runBits_word (p : BitVec 32) (k : Nat) : ∀ (s x : BitVec 32), (∀ i, k ≤ i → x.getLsbD i = false) → runBits p s ((List.range k).map fun i => x.getLsbD i) = stps p k (s ^^^ x) := by
  induction k with
  | zero =>
    intro s x h
    have : x = 0#32 := BitVec.eq_of_getLsbD_eq fun i _ => by rw [h i (Nat.zero_le _)]; simp
    subst this
    simp [runBits, stps]
  | succ k ih =>
    intro s x h
    rw [List.range_succ_eq_map, List.map_cons, List.map_map]
    have hf : ((fun i => x.getLsbD i) ∘ Nat.succ) = fun i => (x >>> 1).getLsbD i := by
      funext i; simp only [Function.comp, BitVec.getLsbD_ushiftRight]; rw [Nat.add_comm]
    rw [hf]
    have hi := ih (stp p (s ^^^ one (x.getLsbD 0))) (x >>> 1) (fun i hi => by rw [BitVec.getLsbD_ushiftRight]; exact h _ (by omega))
    simp only [runBits, List.foldl_cons] at hi ⊢
    rw [hi]
    simp only [stps]
    congr 1
    have hx : x = one (x.getLsbD 0) ^^^ (x ^^^ one (x.getLsbD 0)) := by rw [BitVec.xor_comm x, ← BitVec.xor_assoc, BitVec.xor_self, BitVec.zero_xor]
    have h2 : stp p (x ^^^ one (x.getLsbD 0)) = x >>> 1 := by
      unfold stp
      have h0 : (x ^^^ one (x.getLsbD 0)).getLsbD 0 = false := by
        rw [BitVec.getLsbD_xor]; cases hb : x.getLsbD 0 <;> simp [one]
      rw [h0, if_neg (by decide), BitVec.xor_zero, BitVec.ushiftRight_xor_distrib]
      have : one (x.getLsbD 0) >>> 1 = 0#32 := by cases x.getLsbD 0 <;> decide
      rw [this, BitVec.xor_zero]
    have h3 : stp p (s ^^^ x) = stp p (s ^^^ one (x.getLsbD 0)) ^^^ stp p (x ^^^ one (x.getLsbD 0)) := by
      rw [← stp_xor]
      congr 1
      rw [xor4 s _ x _, BitVec.xor_self, BitVec.xor_zero]
    rw [h3, h2]

/-! ### bytes as bits -/
def bitAt (l : List Nat) (i : Nat) : Bool := (l.getD (i / 8) 0).testBit (i % 8)
def bitsN (l : List Nat) : List Bool := (List.range (8 * l.length)).map (bitAt l)
theorem updB_bits (p s : BitVec 32) (c : Nat) (hc : c < 256) : updB p s c = runBits p s ((List.range 8).map fun i => c.testBit i) := by
  unfold updB
  rw [← runBits_word p 8 s (BitVec.ofNat 32 c) (fun i hi => by
    rw [BitVec.getLsbD_ofNat, Nat.testBit_lt_two_pow (Nat.lt_of_lt_of_le hc (by calc 256 = 2 ^ 8 := by decide
                                                                                  _ ≤ 2 ^ i := Nat.pow_le_pow_right (by decide) hi))]
    simp)]
  congr 1
  apply List.map_congr_left
  intro i hi
  have : i < 8 := List.mem_range.1 hi
  rw [BitVec.getLsbD_ofNat]
  simp; omega
theorem runB_bits (p : BitVec 32) (l : List Nat) (hl : ∀ c ∈ l, c < 256) : ∀ s, runB p s l = runBits p s (bitsN l) := by
  induction l with
  | nil => intro s; rfl
  | cons c l ih =>
    intro s
    have e : bitsN (c :: l) = ((List.range 8).map fun i => c.testBit i) ++ bitsN l := by
      unfold bitsN
      rw [List.length_cons, Nat.mul_add, Nat.mul_one, Nat.add_comm, List.range_add, List.map_append, List.map_map]
      congr 1
      · apply List.map_congr_left
        intro i _
        unfold bitAt
        simp only [Function.comp]
        rw [show (8 + i) / 8 = i / 8 + 1 by omega, show (8 + i) % 8 = i % 8 by omega]; rfl
    rw [e, runBits_append, ← updB_bits p s c (hl c (List.mem_cons_self ..))]
    simp only [runB, List.foldl_cons]
    exact ih (fun x hx => hl x (List.mem_cons_of_mem _ hx)) _

/-- The bits that a burst turns. -/
def burst (at0 turn i : Nat) : Bool := decide (at0 ≤ i) && decide (i < at0 + 32) && turn.testBit (i - at0)
theorem runBits_burst {p : BitVec 32} (hp : p.getLsbD 31 = true) (N at0 turn : Nat) (h : at0 + 32 ≤ N) (ht : turn < 4294967296) (h0 : turn ≠ 0) : runBits p 0#32 ((List.range N).map (burst at0 turn)) ≠ 0#32 := by
  obtain ⟨r, rfl⟩ : ∃ r, N = at0 + (32 + r) := ⟨N - at0 - 32, by omega⟩
  rw [List.range_add, List.map_append, List.map_map, List.range_add, List.map_append, List.map_map, runBits_append, runBits_append]
  have e1 : (List.range at0).map (burst at0 turn) = (List.range at0).map fun _ => false := by
    apply List.map_congr_left
    intro i hi
    have : i < at0 := List.mem_range.1 hi
    unfold burst
    rw [decide_eq_false (by omega)]; rfl
  have e2 : (List.range 32).map (burst at0 turn ∘ fun x => at0 + x) = (List.range 32).map fun i => (BitVec.ofNat 32 turn).getLsbD i := by
    apply List.map_congr_left
    intro i hi
    have : i < 32 := List.mem_range.1 hi
    simp only [burst, Function.comp, BitVec.getLsbD_ofNat]
    rw [decide_eq_true (show at0 ≤ at0 + i by omega), decide_eq_true (show at0 + i < at0 + 32 by omega), decide_eq_true this, Nat.add_sub_cancel_left]
    rfl
  have e3 : (List.range r).map ((burst at0 turn ∘ fun x => at0 + x) ∘ fun x => 32 + x) = (List.range r).map fun _ => false := by
    apply List.map_congr_left
    intro i _
    simp only [burst, Function.comp]
    rw [decide_eq_false (show ¬ at0 + (32 + i) < at0 + 32 by omega), Bool.and_false, Bool.false_and]
  rw [e1, e2, e3, runBits_false p (List.range r), runBits_word p 32 _ _ (fun i hi => BitVec.getLsbD_of_ge _ _ hi), runBits_false p (List.range at0), stps_zero, BitVec.zero_xor]
  intro h1
  have h2 := stps_ne hp _ _ (stps_ne hp _ _ h1)
  have := congrArg BitVec.toNat h2
  simp at this
  omega

/-- Turned at one bit. -/
theorem bitAt_set (l : List Nat) (q i : Nat) (hq : q < 8 * l.length) : bitAt (l.set (q / 8) ((l.getD (q / 8) 0) ^^^ 2 ^ (q % 8))) i = (bitAt l i ^^ decide (i = q)) := by
  unfold bitAt
  by_cases hd : i / 8 = q / 8
  · have hl : q / 8 < l.length := by omega
    rw [hd]
    simp only [List.getD, List.getElem?_set_self hl, Option.getD_some]
    rw [Nat.testBit_xor, Nat.testBit_two_pow]
    congr 1
    rw [decide_eq_decide]
    omega
  · rw [decide_eq_false (fun h => hd (by rw [h])), Bool.xor_false]
    simp only [List.getD]
    rw [List.getElem?_set_ne (fun h => hd h.symm)]
/-- Whatever is turned: the state is another one just by the state of what is turned. -/
theorem runB_turned {p : BitVec 32} (l m : List Nat) (g : Nat → Bool) (hlen : m.length = l.length) (hl : ∀ c ∈ l, c < 256) (hm : ∀ c ∈ m, c < 256) (h : ∀ i, i < 8 * l.length → bitAt m i = (bitAt l i ^^ g i)) (s : BitVec 32) :
    runB p s m = runB p s l ^^^ runBits p 0#32 ((List.range (8 * l.length)).map g) := by
  rw [runB_bits p m hm, runB_bits p l hl]
  unfold bitsN
  rw [hlen]
  have e : (List.range (8 * l.length)).map (bitAt m) = (List.range (8 * l.length)).map fun i => bitAt l i ^^ g i := List.map_congr_left fun i hi => h i (List.mem_range.1 hi)
  rw [e]
  have := runBits_xor p (List.range (8 * l.length)) (bitAt l) g s 0#32
  rwa [BitVec.xor_zero] at this
theorem burst_found {p : BitVec 32} (hp : p.getLsbD 31 = true) (l m : List Nat) (at0 turn : Nat) (hlen : m.length = l.length) (hl : ∀ c ∈ l, c < 256) (hm : ∀ c ∈ m, c < 256) (hat : at0 + 32 ≤ 8 * l.length) (ht : turn < 4294967296) (h0 : turn ≠ 0)
    (h : ∀ i, i < 8 * l.length → bitAt m i = (bitAt l i ^^ burst at0 turn i)) (s : BitVec 32) : runB p s m ≠ runB p s l := by
  rw [runB_turned l m _ hlen hl hm h s]
  intro e
  have e2 := congrArg (fun v => runB p s l ^^^ v) e
  simp only [← BitVec.xor_assoc, BitVec.xor_self, BitVec.zero_xor] at e2
  exact runBits_burst hp (8 * l.length) at0 turn hat ht h0 e2

/-! ### a sum behind the bytes -/
/-- Four bytes as one word, the lowest first. -/
def word4 (a b c d : Nat) : Nat := a + 256 * b + 65536 * c + 16777216 * d
theorem stps_shift (p : BitVec 32) (x : BitVec 32) (k : Nat) (h : ∀ i, i < k → x.getLsbD i = false) : stps p k x = x >>> k := by
  induction k generalizing x with
  | zero => simp [stps]
  | succ k ih =>
    have h0 := h 0 (by omega)
    have hs : stp p x = x >>> 1 := by unfold stp; rw [h0, if_neg (by decide), BitVec.xor_zero]
    simp only [stps]
    rw [hs, ih (x >>> 1) (fun i hi => by rw [BitVec.getLsbD_ushiftRight]; exact h _ (by omega))]
    rw [← BitVec.shiftRight_add, Nat.add_comm]
/-- Four bytes moved in at once. -/
theorem runB_word (p s : BitVec 32) (a b c d : Nat) (ha : a < 256) (hb : b < 256) (hc : c < 256) (hd : d < 256) : runB p s [a, b, c, d] = stps p 32 (s ^^^ BitVec.ofNat 32 (word4 a b c d)) := by
  rw [runB_bits p [a, b, c, d] (by intro x hx; simp at hx; omega), ← runBits_word p 32 s _ (fun i hi => BitVec.getLsbD_of_ge _ _ hi)]
  congr 1
  unfold bitsN
  apply List.map_congr_left
  intro i hi
  have hi : i < 32 := by simpa using hi
  rw [BitVec.getLsbD_ofNat, decide_eq_true hi, Bool.true_and]
  unfold bitAt
  have hw : word4 a b c d / 2 ^ (8 * (i / 8)) % 256 = [a, b, c, d].getD (i / 8) 0 := by
    have h4 : i / 8 = 0 ∨ i / 8 = 1 ∨ i / 8 = 2 ∨ i / 8 = 3 := by omega
    unfold word4
    rcases h4 with h | h | h | h <;> rw [h] <;> simp <;> omega
  rw [← hw, show (256 : Nat) = 2 ^ 8 by decide, Nat.testBit_mod_two_pow, Nat.testBit_div_two_pow]
  rw [decide_eq_true (Nat.mod_lt i (by decide)), Bool.true_and]
  congr 1
  omega
/-- What is sealed has one state, and nothing else has it. -/
theorem sealed_iff {p : BitVec 32} (hp : p.getLsbD 31 = true) (l : List Nat) (a b c d : Nat) (ha : a < 256) (hb : b < 256) (hc : c < 256) (hd : d < 256) :
    runB p (BitVec.allOnes 32) (l ++ [a, b, c, d]) = stps p 32 (BitVec.allOnes 32) ↔ BitVec.ofNat 32 (word4 a b c d) = ~~~ runB p (BitVec.allOnes 32) l := by
  have e : runB p (BitVec.allOnes 32) (l ++ [a, b, c, d]) = runB p (runB p (BitVec.allOnes 32) l) [a, b, c, d] := by unfold runB; exact List.foldl_append
  rw [e, runB_word p _ a b c d ha hb hc hd]
  generalize runB p (BitVec.allOnes 32) l = r
  generalize BitVec.ofNat 32 (word4 a b c d) = x
  constructor
  · intro h
    have h1 := stps_inj hp 32 h
    have h2 := congrArg (fun v => r ^^^ v) h1
    simp only [← BitVec.xor_assoc, BitVec.xor_self, BitVec.zero_xor] at h2
    rw [h2, BitVec.xor_allOnes]
  · rintro rfl
    rw [← BitVec.xor_allOnes, ← BitVec.xor_assoc, BitVec.xor_self, BitVec.zero_xor]
end Go.Proofs.Ytnkhpmpoemodiaa
