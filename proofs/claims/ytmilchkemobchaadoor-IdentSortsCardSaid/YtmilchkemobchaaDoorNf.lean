/- Plain: the names that Fresh tries. -/
import Derived.Test.YtmilchkemobchaaDoorNa
import Derived.Test.YtmilchkemobchaaDoorNc
set_option linter.unusedVariables false
set_option linter.unusedSectionVars false
namespace Go.Proofs.YtmilchkemobchaaDoor
open Go.RowKit Go.WideShapes

def uscS : ByteArray := ⟨#[95]⟩
/-- The n-th name of a stem. -/
def nmS (stem : ByteArray) (n : Nat) : ByteArray := if n ≤ 1 then stem else stem ++ uscS ++ itoaB n
theorem nmS_one (stem : ByteArray) : nmS stem 1 = stem := if_pos (Nat.le_refl _)
theorem nmS_two (stem : ByteArray) {n : Nat} (h : 2 ≤ n) : nmS stem n = stem ++ uscS ++ itoaB n := if_neg (by omega)
def decI (b : ByteArray) : Int := if b.size = 1 then byS b 0 - 48 else (byS b 0 - 48) * 10 + (byS b 1 - 48)
theorem itoa_dec : ∀ n : Fin 100, decI (itoaB n.val) = (n.val : Int) := by decide +kernel
theorem itoa_size : ∀ n : Fin 100, (itoaB n.val).size = if n.val < 10 then 1 else 2 := by decide +kernel
theorem itoa_digs : ∀ n : Fin 100, digB (byS (itoaB n.val) 0) = true ∧ ((itoaB n.val).size = 2 → digB (byS (itoaB n.val) 1) = true) := by decide +kernel
theorem byS_append (a b : ByteArray) (i : Nat) : byS (a ++ b) i = if i < a.size then byS a i else byS b (i - a.size) := by
  unfold byS
  have e : (a ++ b).data.toList = a.data.toList ++ b.data.toList := by simp [ByteArray.data_append]
  have hs : a.size = a.data.toList.length := by simp
  rw [e, List.getD_eq_getElem?_getD, hs]
  by_cases h : i < a.data.toList.length
  · rw [if_pos h, List.getElem?_append_left h, ← List.getD_eq_getElem?_getD]
  · rw [if_neg h, List.getElem?_append_right (by omega), ← List.getD_eq_getElem?_getD]
theorem size_append (a b : ByteArray) : (a ++ b).size = a.size + b.size := by simp
theorem nmS_size (stem : ByteArray) {n : Nat} (h2 : 2 ≤ n) (h : n < 100) : (nmS stem n).size = stem.size + 1 + (if n < 10 then 1 else 2) := by
  rw [nmS_two stem h2, size_append, size_append, itoa_size ⟨n, h⟩]; rfl
theorem nmS_inj (stem : ByteArray) {i j : Nat} (hi : 1 ≤ i) (hj : i < j) (h : j < 100) : nmS stem i ≠ nmS stem j := fun e => by
  by_cases h1 : i = 1
  · subst h1
    have := congrArg ByteArray.size e
    rw [nmS_one, nmS_size stem (by omega) h] at this
    omega
  · rw [nmS_two stem (by omega), nmS_two stem (by omega)] at e
    have e1 := congrArg (fun b : ByteArray => b.data.toList) e
    simp only [ByteArray.data_append, Array.toList_append, List.append_assoc] at e1
    have e2 := List.append_cancel_left (List.append_cancel_left e1)
    have e3 : itoaB i = itoaB j := bytes_inj e2
    have k1 := itoa_dec ⟨i, by omega⟩
    have k2 := itoa_dec ⟨j, h⟩
    simp only at k1 k2
    rw [e3, k2] at k1
    omega
/-- A name behind the first is right just if the stem is, and there is room. -/
theorem nmS_ok (stem : ByteArray) {n : Nat} (h2 : 2 ≤ n) (h : n < 100) : nameB (nmS stem n) = true ↔ nameB stem = true ∧ stem.size + 1 + (if n < 10 then 1 else 2) ≤ 64 := by
  have hz := nmS_size stem h2 h
  have hd := itoa_digs ⟨n, h⟩
  have his := itoa_size ⟨n, h⟩
  simp only at hd his
  have hby : ∀ i, byS (nmS stem n) i = if i < stem.size then byS stem i else if i = stem.size then 95 else byS (itoaB n) (i - stem.size - 1) := fun i => by
    rw [nmS_two stem h2, byS_append, byS_append, size_append]
    by_cases h3 : i < stem.size
    · rw [if_pos (show i < stem.size + uscS.size by have : uscS.size = 1 := rfl; omega), if_pos h3, if_pos h3]
    · rw [if_neg h3, if_neg h3]
      by_cases h4 : i = stem.size
      · rw [if_pos h4, if_pos (show i < stem.size + uscS.size by have : uscS.size = 1 := rfl; omega), h4, Nat.sub_self]; rfl
      · rw [if_neg h4, if_neg (show ¬ i < stem.size + uscS.size by have : uscS.size = 1 := rfl; omega), show i - (stem.size + uscS.size) = i - stem.size - 1 by have : uscS.size = 1 := rfl; omega]
  constructor
  · intro h3
    obtain ⟨k1, k2, k3, k4⟩ := chk_size h3
    rw [hz] at k2
    have hs1 : 1 ≤ stem.size := by
      refine Classical.byContradiction fun h4 => ?_
      have h5 := hby 0
      rw [if_neg (by omega), if_pos (by omega)] at h5
      rw [h5] at k3
      exact absurd k3 (by decide)
    refine ⟨chk_good hs1 (by split at k2 <;> omega) ?_ (okTo_iff.2 fun i hi => ?_), k2⟩
    · have h5 := hby 0
      rw [if_pos (by omega)] at h5
      rwa [h5] at k3
    · have := okTo_iff.1 k4 i (by rw [hz]; omega)
      rwa [hby i, if_pos hi] at this
  · rintro ⟨h3, h4⟩
    obtain ⟨k1, k2, k3, k4⟩ := chk_size h3
    refine chk_good (by rw [hz]; omega) (by rw [hz]; exact h4) ?_ (okTo_iff.2 fun i hi => ?_)
    · rw [hby 0, if_pos (by omega)]; exact k3
    · rw [hby i]
      by_cases h5 : i < stem.size
      · rw [if_pos h5]; exact okTo_iff.1 k4 i h5
      · rw [if_neg h5]
        by_cases h6 : i = stem.size
        · rw [if_pos h6]; decide
        · rw [if_neg h6]
          rw [hz] at hi
          by_cases h7 : i - stem.size - 1 = 0
          · rw [h7]; unfold okB; rw [hd.1]; simp
          · have h8 : i - stem.size - 1 = 1 := by split at hi <;> omega
            have h9 : (itoaB n).size = 2 := by
              rw [his]
              by_cases hn : n < 10
              · rw [if_pos hn] at hi; omega
              · rw [if_neg hn]
            rw [h8]; unfold okB; rw [hd.2 h9]; simp
theorem nmS_down (stem : ByteArray) {i j : Nat} (hi : 1 ≤ i) (hj : i ≤ j) (h : j < 100) (ho : nameB (nmS stem j) = true) : nameB (nmS stem i) = true := by
  by_cases e : i = j
  · rw [e]; exact ho
  · obtain ⟨k1, k2⟩ := (nmS_ok stem (by omega) h).1 ho
    by_cases h1 : i = 1
    · rw [h1, nmS_one]; exact k1
    · refine (nmS_ok stem (by omega) (by omega)).2 ⟨k1, ?_⟩
      split at k2 <;> split <;> omega
/-- The first name that isn't right, or isn't used. -/
structure FrOk (used : List ByteArray) (stem : ByteArray) (N : Nat) : Prop where
  lo : 1 ≤ N
  hi : N ≤ used.length + 1
  all : ∀ n, 1 ≤ n → n < N → nameB (nmS stem n) = true ∧ nmS stem n ∈ used
  stop : ¬ (nameB (nmS stem N) = true ∧ nmS stem N ∈ used)
theorem names_few {used : List ByteArray} {stem : ByteArray} (hu : used.length ≤ 90) {m : Nat} (hm : m ≤ 98) (h : ∀ n, 1 ≤ n → n ≤ m → nmS stem n ∈ used) : m ≤ used.length := by
  have hl : ((List.range m).map (fun i => nmS stem (i + 1))).length = m := by simp
  rw [← hl]
  letI : BEq ByteArray := instBEqOfDecidableEq
  refine nodup_le ?_ (fun x hx => ?_)
  · refine List.pairwise_iff_getElem.2 fun i j h1 h2 h3 => ?_
    simp only [List.getElem_map, List.getElem_range]
    simp at h2
    exact nmS_inj stem (by omega) (by omega) (by omega)
  · obtain ⟨i, hi, rfl⟩ := List.mem_map.1 hx
    have := List.mem_range.1 hi
    exact h (i + 1) (by omega) (by omega)
theorem fr_exists (used : List ByteArray) (stem : ByteArray) (hu : used.length ≤ 90) : ∃ N, FrOk used stem N := by
  have key : ∀ k, (∃ N, N ≤ k ∧ 1 ≤ N ∧ (∀ n, 1 ≤ n → n < N → nameB (nmS stem n) = true ∧ nmS stem n ∈ used) ∧ ¬ (nameB (nmS stem N) = true ∧ nmS stem N ∈ used)) ∨ (∀ n, 1 ≤ n → n ≤ k → nameB (nmS stem n) = true ∧ nmS stem n ∈ used) := fun k => by
    induction k with
    | zero => exact .inr (fun n h1 h2 => by omega)
    | succ k ih =>
      rcases ih with ⟨N, h1, h2⟩ | h1
      · exact .inl ⟨N, by omega, h2⟩
      · by_cases h : nameB (nmS stem (k + 1)) = true ∧ nmS stem (k + 1) ∈ used
        · exact .inr (fun n h3 h4 => by
            by_cases e : n = k + 1
            · rw [e]; exact h
            · exact h1 n h3 (by omega))
        · exact .inl ⟨k + 1, Nat.le_refl _, by omega, fun n h3 h4 => h1 n h3 (by omega), h⟩
  rcases key (used.length + 1) with ⟨N, h1, h2, h3, h4⟩ | h
  · exact ⟨N, h2, h1, h3, h4⟩
  · have := names_few hu (m := used.length + 1) (by omega) (fun n h1 h2 => (h n h1 h2).2)
    omega
def frS (stem : ByteArray) (N : Nat) : ByteArray := if nameB (nmS stem N) = true then nmS stem N else ⟨#[]⟩
def frE (stem : ByteArray) (N : Nat) : Int := if nameB (nmS stem N) = true then 0 else 40
end Go.Proofs.YtmilchkemobchaaDoor
