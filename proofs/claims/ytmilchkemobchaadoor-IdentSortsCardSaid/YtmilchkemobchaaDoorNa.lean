/- Plain: places, order and kinds of texts in a list. -/
import Derived.Test.YtmilchkemobchaaDoorLib
import Derived.Lib.Hide
import Derived.Sort.Walk0
import Derived.WideShapes
set_option linter.unusedVariables false
set_option linter.unusedSectionVars false
namespace Go.Proofs.YtmilchkemobchaaDoor
open Go.RowKit Go.WideShapes

abbrev atS (ss : List ByteArray) (i : Nat) : ByteArray := ss.getD i ByteArray.empty
/-- The first place of a text, or -1. -/
def findI : List ByteArray → ByteArray → Int
  | [], _ => -1
  | y :: l, x => if y = x then 0 else if findI l x < 0 then -1 else findI l x + 1
theorem findI_lo : ∀ (ss : List ByteArray) (x : ByteArray), -1 ≤ findI ss x
  | [], _ => Int.le_refl _
  | y :: l, x => by
    have := findI_lo l x
    unfold findI
    split
    · omega
    · split <;> omega
theorem find_hit : ∀ {ss : List ByteArray} {x : ByteArray} {j : Nat}, j < ss.length → (∀ i, i < j → atS ss i ≠ x) → atS ss j = x → findI ss x = (j : Int)
  | [], _, j, h, _, _ => absurd h (Nat.not_lt_zero _)
  | y :: l, x, 0, _, _, h3 => by
    have h3 : y = x := h3
    unfold findI
    rw [if_pos h3]; rfl
  | y :: l, x, j + 1, h1, h2, h3 => by
    have h0 : y ≠ x := h2 0 (Nat.succ_pos _)
    have ih := find_hit (ss := l) (x := x) (j := j) (by simpa using h1) (fun i hi => h2 (i + 1) (by omega)) h3
    unfold findI
    rw [if_neg h0, ih, if_neg (by omega)]
    omega
theorem find_miss : ∀ {ss : List ByteArray} {x : ByteArray}, (∀ i, i < ss.length → atS ss i ≠ x) → findI ss x = -1
  | [], _, _ => rfl
  | y :: l, x, h => by
    have h0 : y ≠ x := h 0 (by simp)
    have ih := find_miss (ss := l) (x := x) (fun i hi => h (i + 1) (by simpa using hi))
    unfold findI
    rw [if_neg h0, ih, if_pos (by decide)]
theorem mem_atS {ss : List ByteArray} {x : ByteArray} : x ∈ ss ↔ ∃ i, i < ss.length ∧ atS ss i = x := by
  constructor
  · intro h
    obtain ⟨i, hi, rfl⟩ := List.getElem_of_mem h
    exact ⟨i, hi, by simp [atS, List.getD, hi]⟩
  · rintro ⟨i, hi, rfl⟩
    simp [atS, List.getD, hi]
/-- Either it is found at its first place, or it is not there. -/
theorem find_cases (ss : List ByteArray) (x : ByteArray) : (x ∉ ss ∧ findI ss x = -1) ∨ ∃ j, j < ss.length ∧ (∀ i, i < j → atS ss i ≠ x) ∧ atS ss j = x ∧ findI ss x = (j : Int) := by
  by_cases h : x ∈ ss
  · right
    have key : ∀ n, n ≤ ss.length → (∀ i, i < n → atS ss i ≠ x) ∨ ∃ j, j < n ∧ (∀ i, i < j → atS ss i ≠ x) ∧ atS ss j = x := fun n => by
      induction n with
      | zero => exact fun _ => .inl (fun i hi => absurd hi (Nat.not_lt_zero _))
      | succ n ih =>
        intro hn
        rcases ih (by omega) with h1 | ⟨j, h1, h2, h3⟩
        · by_cases e : atS ss n = x
          · exact .inr ⟨n, Nat.lt_succ_self n, h1, e⟩
          · exact .inl (fun i hi => by
              by_cases h4 : i = n
              · rw [h4]; exact e
              · exact h1 i (by omega))
        · exact .inr ⟨j, by omega, h2, h3⟩
    rcases key ss.length (Nat.le_refl _) with h1 | ⟨j, h1, h2, h3⟩
    · obtain ⟨i, hi, hx⟩ := mem_atS.1 h
      exact absurd hx (h1 i hi)
    · exact ⟨j, h1, h2, h3, find_hit h1 h2 h3⟩
  · exact .inl ⟨h, find_miss (fun i hi e => h (mem_atS.2 ⟨i, hi, e⟩))⟩
theorem find_neg {ss : List ByteArray} {x : ByteArray} : findI ss x < 0 ↔ x ∉ ss := by
  rcases find_cases ss x with ⟨h1, h2⟩ | ⟨j, h1, h2, h3, h4⟩
  · rw [h2]; exact ⟨fun _ => h1, fun _ => by decide⟩
  · rw [h4]
    exact ⟨fun h => by omega, fun h => absurd (mem_atS.2 ⟨j, h1, h3⟩) h⟩
/-- One text ahead of another, byte by byte. -/
def ltB (a b : ByteArray) : Bool := Op.bytesLess a.toList b.toList
theorem ltB_eq (a b : ByteArray) : ltB a b = decide (a.toList < b.toList) := bytesLess_eq _ _
theorem toList_inj {a b : ByteArray} (h : a.toList = b.toList) : a = b := by
  rw [ByteArray.toList_eq, ByteArray.toList_eq] at h; exact bytes_inj h
theorem leB_eq (a b : ByteArray) : (Op.bytesLess a.toList b.toList || a.toList == b.toList) = !ltB b a := by
  have h1 := ltB_eq a b
  have h2 := ltB_eq b a
  have h3 : Op.bytesLess a.toList b.toList = ltB a b := rfl
  rw [h3, h1, h2]
  by_cases h : a.toList < b.toList
  · rw [decide_eq_true h, decide_eq_false (fun h4 => absurd (List.lt_trans h h4) (List.lt_irrefl _))]; rfl
  · rw [decide_eq_false h]
    by_cases h4 : b.toList < a.toList
    · rw [decide_eq_true h4]
      have : (a.toList == b.toList) = false := by
        rw [beq_eq_false_iff_ne]
        intro e; rw [e] at h4; exact absurd h4 (List.lt_irrefl _)
      rw [this]; rfl
    · have e := List.le_antisymm (List.not_lt.1 h4) (List.not_lt.1 h)
      rw [decide_eq_false h4, beq_iff_eq.2 e]; rfl
def srtTo (ss : List ByteArray) (k : Nat) : Bool := (List.range k).all fun i => i == 0 || ltB (atS ss (i - 1)) (atS ss i)
theorem srtTo_succ (ss : List ByteArray) (k : Nat) : srtTo ss (k + 1) = (srtTo ss k && (k == 0 || ltB (atS ss (k - 1)) (atS ss k))) := by simp [srtTo, List.range_succ]
theorem srtTo_iff {ss : List ByteArray} {k : Nat} : srtTo ss k = true ↔ ∀ i, i + 1 < k → ltB (atS ss i) (atS ss (i + 1)) = true := by
  unfold srtTo
  rw [List.all_eq_true]
  constructor
  · intro h i hi
    have := h (i + 1) (List.mem_range.2 hi)
    simpa using this
  · intro h i hi
    have := List.mem_range.1 hi
    cases i with
    | zero => rfl
    | succ i => simpa using h i this
/-- Does each stand behind the one ahead? -/
def sortedB (ss : List ByteArray) : Bool := srtTo ss ss.length
theorem sorted_no {ss : List ByteArray} {k : Nat} (hk : k + 1 < ss.length) (h : ltB (atS ss k) (atS ss (k + 1)) = false) : sortedB ss = false := by
  refine Bool.eq_false_iff.2 fun h2 => ?_
  have := srtTo_iff.1 h2 k hk
  rw [h] at this; cases this
/-- All texts of the first k, each once, as they come. -/
def distL (ss : List ByteArray) : Nat → List ByteArray
  | 0 => []
  | k + 1 => distL ss k ++ if findI (distL ss k) (atS ss k) < 0 then [atS ss k] else []
theorem distL_add (ss : List ByteArray) (k j : Nat) : distL ss k <+: distL ss (k + j) := by
  induction j with
  | zero => exact List.prefix_refl _
  | succ j ih => exact ih.trans (List.prefix_append _ _)
theorem distL_le (ss : List ByteArray) {k j : Nat} (h : k ≤ j) : distL ss k <+: distL ss j := by
  obtain ⟨d, rfl⟩ : ∃ d, j = k + d := ⟨j - k, by omega⟩
  exact distL_add ss k d
theorem distL_length (ss : List ByteArray) (k : Nat) : (distL ss k).length ≤ k := by
  induction k with
  | zero => exact Nat.le_refl _
  | succ k ih => rw [distL, List.length_append]; split <;> simp <;> omega
theorem mem_distL {ss : List ByteArray} {x : ByteArray} : ∀ {k : Nat}, x ∈ distL ss k ↔ ∃ i, i < k ∧ atS ss i = x
  | 0 => by simp [distL]
  | k + 1 => by
    rw [distL, List.mem_append, mem_distL]
    constructor
    · rintro (⟨i, h1, h2⟩ | h)
      · exact ⟨i, by omega, h2⟩
      · split at h
        · rw [List.mem_singleton] at h
          exact ⟨k, by omega, h.symm⟩
        · cases h
    · rintro ⟨i, h1, h2⟩
      by_cases e : i = k
      · subst e
        by_cases h3 : atS ss i ∈ distL ss i
        · left; rw [h2] at h3; exact mem_distL.1 h3
        · right; rw [if_pos (find_neg.2 h3), h2]; simp
      · left; exact ⟨i, by omega, h2⟩
theorem distL_nodup (ss : List ByteArray) : ∀ k, (distL ss k).Nodup
  | 0 => List.nodup_nil
  | k + 1 => by
    rw [distL]
    split
    · rename_i h
      rw [List.nodup_append]
      exact ⟨distL_nodup ss k, by simp, fun a ha b hb e => by rw [List.mem_singleton] at hb; rw [e, hb] at ha; exact find_neg.1 h ha⟩
    · rw [List.append_nil]; exact distL_nodup ss k
def distD (ss : List ByteArray) : List ByteArray := distL ss ss.length
theorem mem_distD {ss : List ByteArray} {x : ByteArray} : x ∈ distD ss ↔ x ∈ ss := by
  unfold distD; rw [mem_distL, mem_atS]
theorem distD_fits {ss : List ByteArray} (h : ∀ s ∈ ss, s.size ≤ maxLen) : ∀ s ∈ distD ss, s.size ≤ maxLen := fun s hs => h s (mem_distD.1 hs)
/-- In a list without doubles each text is found where it stands. -/
theorem find_nodup {ss : List ByteArray} (h : ss.Nodup) {i : Nat} (hi : i < ss.length) : findI ss (atS ss i) = (i : Int) := by
  refine find_hit hi (fun j hj e => ?_) rfl
  have h1 : ss[j]'(by omega) = ss[i] := by
    have e1 : atS ss j = ss[j]'(by omega) := by simp [atS, List.getD, show j < ss.length by omega]
    have e2 : atS ss i = ss[i] := by simp [atS, List.getD, hi]
    rw [← e1, ← e2, e]
  exact List.pairwise_iff_getElem.1 h j i (by omega) hi hj h1
theorem distD_sorted {ss : List ByteArray} (h : sortedB ss = true) : distD ss = ss := by
  have hs := srtTo_iff.1 h
  have lt : ∀ d i, i + d + 1 < ss.length → ltB (atS ss i) (atS ss (i + d + 1)) = true := fun d => by
    induction d with
    | zero => exact fun i hi => hs i hi
    | succ d ih =>
      intro i hi
      have h1 := ih i (by omega)
      have h2 := hs (i + d + 1) (by omega)
      rw [ltB_eq, decide_eq_true_eq] at *
      exact List.lt_trans h1 h2
  have key : ∀ k, k ≤ ss.length → distL ss k = ss.take k := fun k => by
    induction k with
    | zero => exact fun _ => rfl
    | succ k ih =>
      intro hk
      have hno : atS ss k ∉ distL ss k := fun hm => by
        obtain ⟨i, hi, he⟩ := mem_distL.1 hm
        have := lt (k - i - 1) i (by omega)
        rw [show i + (k - i - 1) + 1 = k by omega, he, ltB_eq, decide_eq_true_eq] at this
        exact absurd this (List.lt_irrefl _)
      rw [distL, if_pos (find_neg.2 hno), ih (by omega), List.take_succ_eq_append_getElem (by omega)]
      congr 1
      simp [atS, List.getD, show k < ss.length by omega]
  rw [distD, key _ (Nat.le_refl _), List.take_length]
/-- As many without doubles are no more than all. -/
theorem nodup_le {α : Type} [BEq α] [LawfulBEq α] : ∀ {l u : List α}, l.Nodup → (∀ x ∈ l, x ∈ u) → l.length ≤ u.length
  | [], u, _, _ => Nat.zero_le _
  | x :: l, u, h, hs => by
    have hx := hs x (List.mem_cons_self ..)
    obtain ⟨h1, h2⟩ := List.nodup_cons.1 h
    have ih := nodup_le (l := l) (u := u.erase x) h2 (fun y hy => (List.mem_erase_of_ne (fun e => h1 (by rw [← e]; exact hy))).2 (hs y (List.mem_cons_of_mem _ hy)))
    have h3 := List.length_erase_of_mem hx
    have h4 := List.length_pos_of_mem hx
    simp only [List.length_cons]
    omega
end Go.Proofs.YtmilchkemobchaaDoor
