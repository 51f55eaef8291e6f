/- Plain: what the walks of pairing ask of pairs. -/
import Derived.Test.YtbjgfkiaoffhlaaYp
set_option linter.unusedVariables false
set_option linter.unusedSectionVars false
namespace Go.Proofs.Ytbjgfkiaoffhlaa
open Go.RowKit Rk

/-- Is it so for any of the first k? -/
def anyR (k : Nat) (p : Nat → Bool) : Bool := (List.range k).any p
theorem anyR_zero (p : Nat → Bool) : anyR 0 p = false := rfl
theorem anyR_succ (k : Nat) (p : Nat → Bool) : anyR (k + 1) p = (anyR k p || p k) := by simp [anyR, List.range_succ]
theorem anyR_iff {k : Nat} {p : Nat → Bool} : anyR k p = true ↔ ∃ i, i < k ∧ p i = true := by simp [anyR]
theorem heavy_length (n : Nat) (F : Nat → Nat → Int) : (heavyF n F).length = n := matesL_length _ _
theorem heavy_getD {n : Nat} {F : Nat → Nat → Int} {i : Nat} (h : i < n) : (heavyF n F).getD i 0 = hyAt n F n i := matesL_getD _ h
/-- The mate of a thing, and what is known of it. -/
theorem heavy_at {n : Nat} {F : Nat → Nat → Int} (ht : Tab n F) {i : Nat} (hi : i < n) : ∃ b : Nat, (heavyF n F).getD i 0 = (b : Int) ∧ b < n ∧ (b ≠ i → 0 < F i b) := by
  have hok := hy_ok ht n (Nat.le_refl _)
  obtain ⟨b, h1, h2, _⟩ := hok.inv i hi
  exact ⟨b, by rw [heavy_getD hi, h1], h2, fun hne => hok.some i hi b h1 hne⟩
theorem heavy_alone {n : Nat} {F : Nat → Nat → Int} (ht : Tab n F) {a b : Nat} (ha : a < n) (hb : b < n) (h1 : (heavyF n F).getD a 0 = (a : Int)) (h2 : (heavyF n F).getD b 0 = (b : Int)) : F a b = 0 := by
  rw [heavy_getD ha] at h1
  rw [heavy_getD hb] at h2
  exact (hy_ok ht n (Nat.le_refl _)).alone a ha ha h1 b hb h2
/-- Something is between any just if there is a pair. -/
theorem heavy_some {n : Nat} {F : Nat → Nat → Int} (ht : Tab n F) : 0 < (pairsL (heavyF n F) n).length ↔ ∃ a, a < n ∧ ∃ b, b < n ∧ 0 < F a b := by
  constructor
  · intro h
    obtain ⟨x, hx⟩ := List.exists_mem_of_length_pos h
    obtain ⟨i, h1, h2, _⟩ := mem_pairsL.1 hx
    obtain ⟨b, h3, h4, h5⟩ := heavy_at ht h1
    rw [h3] at h2
    exact ⟨i, h1, b, h4, h5 (by omega)⟩
  · rintro ⟨a, ha, b, hb, hab⟩
    have key : ∃ i, i < n ∧ (heavyF n F).getD i 0 ≠ (i : Int) := by
      refine Classical.byContradiction fun hno => ?_
      have h1 : ∀ i, i < n → (heavyF n F).getD i 0 = (i : Int) := fun i hi => Classical.byContradiction fun h => hno ⟨i, hi, h⟩
      have := heavy_alone ht ha hb (h1 a ha) (h1 b hb)
      omega
    obtain ⟨i, hi, hne⟩ := key
    have hr := mateR_iff.1 (heavy_right ht)
    rw [heavy_length] at hr
    obtain ⟨c, h3, h4, _⟩ := heavy_at ht hi
    have h5 := (hr i hi).2.2
    rw [h3, Int.toNat_natCast] at h5
    have hmem : ∃ x, x ∈ pairsL (heavyF n F) n := by
      by_cases e : i < c
      · exact ⟨_, mem_pairsL.2 ⟨i, hi, by rw [h3]; omega, rfl⟩⟩
      · exact ⟨_, mem_pairsL.2 ⟨c, h4, by rw [h5]; rw [h3] at hne; omega, rfl⟩⟩
    obtain ⟨x, hx⟩ := hmem
    exact List.length_pos_of_mem hx
/-- How many are left, of a right list. -/
def leftN (ms : List Int) : Nat := if mateR ms = true then ms.length - (pairsL ms ms.length).length else 0
theorem left_heavy {n : Nat} {F : Nat → Nat → Int} (ht : Tab n F) : leftN (heavyF n F) = n - (pairsL (heavyF n F) n).length ∧ n ≤ 2 * leftN (heavyF n F) ∧ leftN (heavyF n F) ≤ n ∧ (leftN (heavyF n F) < n ↔ ∃ a, a < n ∧ ∃ b, b < n ∧ 0 < F a b) := by
  have h1 := heavy_right ht
  have h2 := pairs_half h1
  have h3 := heavy_some ht
  have e : leftN (heavyF n F) = n - (pairsL (heavyF n F) n).length := by
    unfold leftN
    rw [if_pos h1, heavy_length]
  rw [heavy_length] at h2
  rw [e, ← h3]
  exact ⟨rfl, by omega, by omega, by omega⟩
/-- Pairs rise. -/
theorem pairs_at {ms : List Int} {x y : Int} {k : Nat} (h : (pairsL ms ms.length)[k]? = some (x, y)) : ∃ i : Nat, x = (i : Int) ∧ i < ms.length ∧ (i : Int) < ms.getD i 0 ∧ y = ms.getD i 0 := by
  obtain ⟨i, h1, h2, h3⟩ := mem_pairsL.1 (List.mem_of_getElem? h)
  cases h3
  exact ⟨i, rfl, h1, h2, rfl⟩
theorem pairs_rise (ms : List Int) : ∀ (j k : Nat) (p q : Int × Int), (pairsL ms j)[k]? = some p → (pairsL ms j)[k + 1]? = some q → p.1 < q.1
  | 0, k, p, q, h, _ => by simp [pairsL] at h
  | j + 1, k, p, q, h, h2 => by
    rw [pairsL] at h h2
    by_cases hk : k + 1 < (pairsL ms j).length
    · rw [List.getElem?_append_left (by omega)] at h
      rw [List.getElem?_append_left hk] at h2
      exact pairs_rise ms j k p q h h2
    · by_cases hk2 : k + 1 = (pairsL ms j).length
      · rw [List.getElem?_append_left (by omega)] at h
        rw [List.getElem?_append_right (by omega)] at h2
        obtain ⟨i, h3, _, rfl⟩ := mem_pairsL.1 (List.mem_of_getElem? h)
        have h4 := List.mem_of_getElem? h2
        split at h4
        · rw [List.mem_singleton] at h4
          subst h4
          show (i : Int) < (j : Int)
          omega
        · cases h4
      · have h4 := (List.getElem?_eq_some_iff.1 h2).1
        rw [List.length_append] at h4
        split at h4 <;> simp at h4 <;> omega
/-- How many of the first j are alone, as a walk counts them. -/
theorem alone_succ (ms : List Int) (j : Nat) : aloneN ms (j + 1) = aloneN ms j + if ms.getD j 0 = (j : Int) then 1 else 0 := rfl
theorem alone_le (ms : List Int) : ∀ j, aloneN ms j ≤ j
  | 0 => Nat.le_refl _
  | j + 1 => by
    have := alone_le ms j
    rw [alone_succ]
    split <;> omega
/-- With nothing between any all are left. -/
theorem heavy_none {n : Nat} {F : Nat → Nat → Int} (ht : Tab n F) (h : ∀ a, a < n → ∀ b, b < n → F a b = 0) : leftN (heavyF n F) = n := by
  obtain ⟨_, _, h1, h2⟩ := left_heavy ht
  have : ¬ leftN (heavyF n F) < n := fun h3 => by
    obtain ⟨a, ha, b, hb, hp⟩ := h2.1 h3
    rw [h a ha b hb] at hp
    omega
  omega
/-- The greatest of the first k. -/
def maxTo (f : Nat → Int) : Nat → Int
  | 0 => 0
  | k + 1 => max (maxTo f k) (f k)
theorem maxTo_le {f : Nat → Int} : ∀ {k b : Nat}, b < k → f b ≤ maxTo f k
  | 0, b, h => absurd h (Nat.not_lt_zero _)
  | k + 1, b, h => by
    unfold maxTo
    by_cases e : b = k
    · subst e; omega
    · have := maxTo_le (f := f) (k := k) (b := b) (by omega); omega
theorem maxTo_bd {f : Nat → Int} {M : Int} (h : ∀ b, 0 ≤ f b ∧ f b ≤ M) (hM : 0 ≤ M) : ∀ k, 0 ≤ maxTo f k ∧ maxTo f k ≤ M
  | 0 => ⟨Int.le_refl _, hM⟩
  | k + 1 => by
    have := maxTo_bd h hM k
    have := h k
    unfold maxTo
    omega
theorem maxTo_some {f : Nat → Int} : ∀ k, maxTo f k = 0 ∨ ∃ b, b < k ∧ maxTo f k = f b
  | 0 => .inl rfl
  | k + 1 => by
    unfold maxTo
    by_cases e : maxTo f k ≤ f k
    · exact .inr ⟨k, Nat.lt_succ_self k, by omega⟩
    · rcases maxTo_some (f := f) k with h | ⟨b, hb, h⟩
      · left; omega
      · exact .inr ⟨b, by omega, by omega⟩
/-- Of the first thing that something is between it and others. -/
theorem heavy_most {n : Nat} {F : Nat → Nat → Int} (ht : Tab n F) {i : Nat} (hi : i < n) (h : ∀ j, j < i → ∀ c, c < n → F j c = 0) (hp : 0 < maxTo (F i) n) :
    ∃ b : Nat, (heavyF n F).getD i 0 = (b : Int) ∧ b < n ∧ b ≠ i ∧ F i b = maxTo (F i) n := by
  rcases maxTo_some (f := F i) n with h0 | ⟨c0, hc0, h0⟩
  · omega
  · obtain ⟨b, h1, h2, h3, h4, h5⟩ := hy_first ht hi h hc0 (by omega)
    refine ⟨b, by rw [heavy_getD hi, h1], h2, h3, ?_⟩
    have h6 := h5 c0 hc0
    have h7 := maxTo_le (f := F i) h2
    omega
theorem heavy_self {n : Nat} {F : Nat → Nat → Int} (ht : Tab n F) {i : Nat} (hi : i < n) (hp : maxTo (F i) n = 0) : (heavyF n F).getD i 0 = (i : Int) := by
  obtain ⟨b, h1, h2, h3⟩ := heavy_at ht hi
  by_cases e : b = i
  · rw [h1, e]
  · have := h3 e
    have := maxTo_le (f := F i) h2
    omega
end Go.Proofs.Ytbjgfkiaoffhlaa
