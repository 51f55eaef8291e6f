/- Plain: the rows of a table of what is between two. -/
import Derived.Test.YtjcmeacgfflfmaaGreatGj
import Derived.Test.YtjcmeacgfflfmaaGreatTq
set_option linter.unusedVariables false
set_option linter.unusedSectionVars false
namespace Go.Proofs.YtjcmeacgfflfmaaGreat
open Go.RowKit Rk

/-- A row of a table: what is more than nothing. -/
def rowOf (n : Nat) (f : Nat → Int) : List (Int × Int) := (List.range n).filterMap (fun b => if 0 < f b then some ((b : Int), f b) else none)
theorem rowOf_succ (n : Nat) (f : Nat → Int) : rowOf (n + 1) f = rowOf n f ++ (if 0 < f n then [((n : Int), f n)] else []) := by
  unfold rowOf
  rw [List.range_succ, List.filterMap_append]
  congr 1
  by_cases h : 0 < f n <;> simp [h]
theorem rowOf_length (n : Nat) (f : Nat → Int) : (rowOf n f).length ≤ n := by
  induction n with
  | zero => simp [rowOf]
  | succ n ih =>
    rw [rowOf_succ, List.length_append]
    split <;> simp <;> omega
theorem mem_rowOf {n : Nat} {f : Nat → Int} {p : Int × Int} : p ∈ rowOf n f ↔ ∃ b : Nat, b < n ∧ 0 < f b ∧ p = ((b : Int), f b) := by
  unfold rowOf
  rw [List.mem_filterMap]
  constructor
  · rintro ⟨b, hb, h⟩
    split at h
    · rename_i h0
      cases h
      exact ⟨b, List.mem_range.1 hb, h0, rfl⟩
    · cases h
  · rintro ⟨b, hb, h0, rfl⟩
    exact ⟨b, List.mem_range.2 hb, by rw [if_pos h0]⟩
theorem rowOf_srt (n : Nat) (f : Nat → Int) : Srt ltI (rowOf n f) := by
  induction n with
  | zero => exact List.Pairwise.nil
  | succ n ih =>
    rw [rowOf_succ]
    refine List.pairwise_append.2 ⟨ih, ?_, ?_⟩
    · split
      · exact List.pairwise_singleton _ _
      · exact List.Pairwise.nil
    · intro p hp q hq
      obtain ⟨b, hb, _, rfl⟩ := mem_rowOf.1 hp
      split at hq
      · cases List.mem_singleton.1 hq
        simp [ltI]; omega
      · cases hq
theorem get_rowOf (n : Nat) (f : Nat → Int) (x : Int) : get ltI x (rowOf n f) = if 0 ≤ x ∧ x < (n : Int) ∧ 0 < f x.toNat then some (f x.toNat) else none := by
  split
  · rename_i h
    have hx : ((x.toNat : Nat) : Int) = x := by omega
    have hm : (x, f x.toNat) ∈ rowOf n f := mem_rowOf.2 ⟨x.toNat, by omega, h.2.2, by rw [hx]⟩
    exact get_of_mem linI (rowOf_srt n f) hm
  · rename_i h
    cases hg : get ltI x (rowOf n f) with
    | none => rfl
    | some v =>
      obtain ⟨b, hb, h0, he⟩ := mem_rowOf.1 (mem_of_get linI hg)
      cases he
      exact absurd ⟨by omega, by omega, by simpa using h0⟩ h
def upd (f : Nat → Int) (b : Nat) (v : Int) : Nat → Int := fun c => if c = b then v else f c
theorem ins_rowOf (n : Nat) (f : Nat → Int) (b : Nat) (v : Int) (hb : b < n) (hv : 0 < v) : ins ltI (b : Int) v (rowOf n f) = rowOf n (upd f b v) := by
  refine ext_get linI _ _ (ins_srt linI _ _ _ (rowOf_srt n f)) (rowOf_srt n _) fun x => ?_
  rw [get_ins linI, get_rowOf, get_rowOf]
  by_cases hx : x = (b : Int)
  · subst hx
    rw [if_pos rfl, if_pos ⟨by omega, by omega, by simpa [upd] using hv⟩]
    simp [upd]
  · rw [if_neg hx]
    by_cases h0 : 0 ≤ x
    · have hne : x.toNat ≠ b := by omega
      simp only [upd, if_neg hne]
    · rw [if_neg (by omega), if_neg (by omega)]
theorem drop_rk (k : Int) : ∀ l : List (Int × Int), Srt ltI l → l.drop (rk ltI k l) = l.filter (fun p => !ltI p.1 k)
  | [], _ => rfl
  | p :: r, h => by
    obtain ⟨h1, h2⟩ := List.pairwise_cons.1 h
    by_cases hp : ltI p.1 k = true
    · have e : rk ltI k (p :: r) = rk ltI k r + 1 := by simp [rk, hp]
      rw [e, List.drop_succ_cons, drop_rk k r h2, List.filter_cons, if_neg (by simp [hp])]
    · have hp' : ltI p.1 k = false := by simpa using hp
      have hall : ∀ q ∈ p :: r, ltI q.1 k = false := by
        intro q hq
        rcases List.mem_cons.1 hq with rfl | hq
        · exact hp'
        · have := h1 q hq
          simp [ltI] at this hp' ⊢; omega
      rw [rk_none hall, List.drop_zero, List.filter_eq_self.2 (fun q hq => by simp [hall q hq])]
/-- What stands from one place on. -/
def above (k : Int) (f : Nat → Int) : Nat → Int := fun b => if (b : Int) < k then 0 else f b
theorem rowOf_filter (k : Int) (n : Nat) (f : Nat → Int) : (rowOf n f).filter (fun p => !ltI p.1 k) = rowOf n (above k f) := by
  induction n with
  | zero => rfl
  | succ n ih =>
    rw [rowOf_succ, rowOf_succ, List.filter_append, ih]
    congr 1
    by_cases h : (n : Int) < k
    · rw [show above k f n = 0 by simp [above, h]]
      by_cases h0 : 0 < f n <;> simp [h0, ltI, h]
    · rw [show above k f n = f n by simp [above, h]]
      by_cases h0 : 0 < f n <;> simp [h0, ltI] <;> omega
theorem drop_rowOf (k : Int) (n : Nat) (f : Nat → Int) : (rowOf n f).drop (rk ltI k (rowOf n f)) = rowOf n (above k f) := by
  rw [drop_rk k _ (rowOf_srt n f), rowOf_filter]
theorem rowOf_congr {n : Nat} {f g : Nat → Int} (h : ∀ b, b < n → f b = g b) : rowOf n f = rowOf n g := by
  induction n with
  | zero => rfl
  | succ n ih => rw [rowOf_succ, rowOf_succ, ih (fun b hb => h b (by omega)), h n (by omega)]
/-- All of a row together. -/
def sumTo : Nat → (Nat → Int) → Int
  | 0, _ => 0
  | n + 1, f => sumTo n f + f n
theorem sumTo_congr {n : Nat} {f g : Nat → Int} (h : ∀ b, b < n → f b = g b) : sumTo n f = sumTo n g := by
  induction n with
  | zero => rfl
  | succ n ih => rw [sumTo, sumTo, ih (fun b hb => h b (by omega)), h n (by omega)]
def vals (l : List (Int × Int)) : Int := (l.map (·.2)).sum
theorem vals_append (l m : List (Int × Int)) : vals (l ++ m) = vals l + vals m := by simp [vals, List.sum_append]
theorem vals_rowOf (n : Nat) (f : Nat → Int) (h : ∀ b, b < n → 0 ≤ f b) : vals (rowOf n f) = sumTo n f := by
  induction n with
  | zero => rfl
  | succ n ih =>
    rw [rowOf_succ, vals_append, ih (fun b hb => h b (by omega)), sumTo]
    have := h n (by omega)
    by_cases h0 : 0 < f n <;> simp [h0, vals] <;> omega
/-- A table of what is between two. -/
structure Tab (n : Nat) (F : Nat → Nat → Int) : Prop where
  lo : ∀ a b, 0 ≤ F a b
  hi : ∀ a b, F a b ≤ 1099511627776
  sym : ∀ a b, F a b = F b a
  diag : ∀ a, F a a = 0
  out : ∀ a b, n ≤ b → F a b = 0
def noTab : Nat → Nat → Int := fun _ _ => 0
theorem Tab.none (n : Nat) : Tab n noTab := ⟨fun _ _ => Int.le_refl _, fun _ _ => by simp [noTab], fun _ _ => rfl, fun _ => rfl, fun _ _ _ => rfl⟩
def joinT (F : Nat → Nat → Int) (a b : Nat) (v : Int) : Nat → Nat → Int := fun x y => if (x = a ∧ y = b) ∨ (x = b ∧ y = a) then v else F x y
theorem Tab.join {n : Nat} {F : Nat → Nat → Int} (h : Tab n F) {a b : Nat} {v : Int} (ha : a < n) (hb : b < n) (hab : a ≠ b) (h0 : 0 ≤ v) (h1 : v ≤ 1099511627776) : Tab n (joinT F a b v) := by
  refine ⟨fun x y => ?_, fun x y => ?_, fun x y => ?_, fun x => ?_, fun x y hy => ?_⟩ <;> unfold joinT
  · split
    · exact h0
    · exact h.lo x y
  · split
    · exact h1
    · exact h.hi x y
  · by_cases e : (x = a ∧ y = b) ∨ (x = b ∧ y = a)
    · rw [if_pos e, if_pos (by rcases e with ⟨e1, e2⟩ | ⟨e1, e2⟩ <;> simp [e1, e2])]
    · rw [if_neg e, if_neg (by intro e'; apply e; rcases e' with ⟨e1, e2⟩ | ⟨e1, e2⟩ <;> simp [e1, e2]), h.sym]
  · rw [if_neg (by rintro (⟨e1, e2⟩ | ⟨e1, e2⟩) <;> omega), h.diag]
  · rw [if_neg (by rintro (⟨e1, e2⟩ | ⟨e1, e2⟩) <;> omega), h.out x y hy]
theorem join_row (F : Nat → Nat → Int) (a b : Nat) (v : Int) (hab : a ≠ b) (c : Nat) : joinT F a b v c = if c = a then upd (F a) b v else if c = b then upd (F b) a v else F c := by
  funext y
  unfold joinT
  by_cases h1 : c = a
  · subst h1
    by_cases h2 : y = b <;> simp [h2, upd, hab]
  · by_cases h3 : c = b
    · subst h3
      by_cases h2 : y = a <;> simp [h1, h2, upd]
    · simp [h1, h3]
/-- What is between two, whichever numbers. -/
def btw (n : Nat) (F : Nat → Nat → Int) (a b : Int) : Int := if 0 ≤ a ∧ a < (n : Int) ∧ 0 ≤ b ∧ b < (n : Int) then F a.toNat b.toNat else 0
theorem getD_rowOf (n : Nat) (f : Nat → Int) (x : Int) (h : ∀ b, 0 ≤ f b) : (get ltI x (rowOf n f)).getD 0 = if 0 ≤ x ∧ x < (n : Int) then f x.toNat else 0 := by
  rw [get_rowOf]
  have := h x.toNat
  by_cases h1 : 0 ≤ x ∧ x < (n : Int)
  · rw [if_pos h1]
    by_cases h2 : 0 < f x.toNat
    · rw [if_pos ⟨h1.1, h1.2, h2⟩]; rfl
    · rw [if_neg (by omega)]; show (0 : Int) = _; omega
  · rw [if_neg h1, if_neg (by omega)]; rfl
end Go.Proofs.YtjcmeacgfflfmaaGreat
