/- Plain: one more behind a row; what comes out is in order; a row in order stays; the mirror. No program in this text. -/
import Derived.Test.YtfghcjhfbbdanaaHn
set_option linter.unusedVariables false
set_option linter.unusedSectionVars false
namespace Go.Proofs.Ytfghcjhfbbdanaa.Hm

section
variable {X : Type} [Inhabited X] {kf : X → Int}
theorem getD_snoc_lt (row : List X) (x : X) {i : Nat} (h : i < row.length) : (row ++ [x]).getD i default = row.getD i default := by
  simp [List.getD, List.getElem?_append_left h]
theorem getD_snoc_eq (row : List X) (x : X) : (row ++ [x]).getD row.length default = x := by simp [List.getD]
theorem top_key (row : List X) (h : row.length ≠ 0) : ∀ i, i < row.length → kf (top kf row) ≤ kf (row.getD i default) := by
  intro i hi
  have hf := first_is (kf := kf) (row := row) (by intro e; subst e; exact h rfl)
  unfold top
  by_cases hc : i < first kf row
  · exact Int.le_of_lt (hf.ahead i hc)
  · exact hf.behind i (by omega) hi
/-- Behind one more: it comes first if it is less than all. -/
theorem top_snoc_new (row : List X) (x : X) (h : row.length = 0 ∨ kf x < kf (top kf row)) : top kf (row ++ [x]) = x := by
  have hF : IsFirst kf (row ++ [x]) row.length := by
    refine ⟨by simp, fun i hi => ?_, fun i h1 h2 => ?_⟩
    · rw [getD_snoc_eq, getD_snoc_lt row x hi]
      have := top_key (kf := kf) row (by omega) i hi
      omega
    · have : i = row.length := by simp at h2; omega
      subst this
      exact Int.le_refl _
  show (row ++ [x]).getD (first kf (row ++ [x])) default = x
  rw [(first_is (by simp)).uniq hF, getD_snoc_eq]
theorem top_snoc_old (row : List X) (x : X) (h : row.length ≠ 0) (hk : kf (top kf row) ≤ kf x) : top kf (row ++ [x]) = top kf row := by
  have hf := first_is (kf := kf) (row := row) (by intro e; subst e; exact h rfl)
  have hl := hf.lt
  have hF : IsFirst kf (row ++ [x]) (first kf row) := by
    refine ⟨by simp; omega, fun i hi => ?_, fun i h1 h2 => ?_⟩
    · rw [getD_snoc_lt row x hl, getD_snoc_lt row x (by omega)]
      exact hf.ahead i hi
    · rw [getD_snoc_lt row x hl]
      by_cases hc : i < row.length
      · rw [getD_snoc_lt row x hc]; exact hf.behind i h1 hc
      · have : i = row.length := by simp at h2; omega
        subst this
        rw [getD_snoc_eq]
        exact hk
  show (row ++ [x]).getD (first kf (row ++ [x])) default = top kf row
  rw [(first_is (by simp)).uniq hF, getD_snoc_lt row x hl]
  rfl
theorem top_mem (row : List X) (h : row.length ≠ 0) : top kf row ∈ row := by
  have hl := first_lt (kf := kf) h
  unfold top
  simp [List.getD, hl]
theorem perm_rest (row : List X) (h : row.length ≠ 0) : (top kf row :: rest kf row).Perm row := by
  have hl := first_lt (kf := kf) h
  have h1 := getD_set_erase (X := Unit) (es := row.map (fun x => ((), (0 : Int)))) (j := first kf row) (by simpa using hl)
  clear h1
  unfold top rest
  have e : row.getD (first kf row) default = row[first kf row] := by simp [List.getD, hl]
  rw [e, List.eraseIdx_eq_take_drop_succ]
  have h1 : row.take (first kf row) ++ row[first kf row] :: row.drop (first kf row + 1) = row := by rw [List.getElem_cons_drop, List.take_append_drop]
  have h2 : (row.take (first kf row) ++ row[first kf row] :: row.drop (first kf row + 1)).Perm (row[first kf row] :: (row.take (first kf row) ++ row.drop (first kf row + 1))) := List.perm_middle
  rw [h1] at h2
  exact h2.symm
theorem srt_nil : srt kf ([] : List X) = [] := rfl
theorem srt_perm : ∀ (n : Nat) (row : List X), row.length = n → (srt kf row).Perm row
  | 0, row, h => by rw [nil_of h]; exact List.Perm.refl _
  | n + 1, row, h => by
    rw [srt_succ row (by omega)]
    have ih := srt_perm n (rest kf row) (by rw [rest_length (by omega)]; omega)
    exact (ih.cons _).trans (perm_rest row (by omega))
theorem rest_sub (row : List X) : (rest kf row).Sublist row := List.eraseIdx_sublist _ _
theorem mem_key (row : List X) (h : row.length ≠ 0) {y : X} (hy : y ∈ row) : kf (top kf row) ≤ kf y := by
  obtain ⟨i, hi, rfl⟩ := List.getElem_of_mem hy
  have := top_key (kf := kf) row h i hi
  simpa [List.getD, hi] using this
/-- What comes out rises. -/
theorem srt_rises : ∀ (n : Nat) (row : List X), row.length = n → (srt kf row).Pairwise (fun a b => kf a ≤ kf b)
  | 0, row, h => by rw [nil_of h, srt_nil]; exact List.Pairwise.nil
  | n + 1, row, h => by
    rw [srt_succ row (by omega)]
    have hl : (rest kf row).length = n := by rw [rest_length (by omega)]; omega
    refine List.Pairwise.cons (fun y hy => ?_) (srt_rises n _ hl)
    exact mem_key row (by omega) ((rest_sub row).subset ((srt_perm n _ hl).mem_iff.1 hy))
/-- A row in order stays as it is. -/
theorem srt_same : ∀ (row : List X), row.Pairwise (fun a b => kf a ≤ kf b) → srt kf row = row
  | [], _ => rfl
  | x :: r, h => by
    obtain ⟨h1, h2⟩ := List.pairwise_cons.1 h
    have hF : IsFirst kf (x :: r) 0 := by
      refine ⟨by simp, fun i hi => by omega, fun i _ hi => ?_⟩
      match i, hi with
      | 0, _ => exact Int.le_refl _
      | j + 1, hj =>
        have hj' : j < r.length := by simpa using hj
        have := h1 _ (List.getElem_mem hj')
        simpa [List.getD, hj'] using this
    have h0 : first kf (x :: r) = 0 := (first_is (by simp)).uniq hF
    rw [srt_succ _ (by simp)]
    have ht : top kf (x :: r) = x := by unfold top; rw [h0]; rfl
    have hr : rest kf (x :: r) = r := by unfold rest; rw [h0]; rfl
    rw [ht, hr, srt_same r h2]
/-- Of things told apart by a rising number: equal ones come out as they stood. -/
theorem srt_lex (tag : X → Int) : ∀ (n : Nat) (row : List X), row.length = n → row.Pairwise (fun a b => tag a < tag b) → (srt kf row).Pairwise (fun a b => kf a < kf b ∨ (kf a = kf b ∧ tag a < tag b))
  | 0, row, h, _ => by rw [nil_of h, srt_nil]; exact List.Pairwise.nil
  | n + 1, row, h, ht => by
    have hne : row.length ≠ 0 := by omega
    rw [srt_succ row hne]
    have hl : (rest kf row).length = n := by rw [rest_length hne]; omega
    refine List.Pairwise.cons (fun y hy => ?_) (srt_lex tag n _ hl (ht.sublist (rest_sub row)))
    have hy' := (srt_perm n _ hl).mem_iff.1 hy
    have hf := first_is (kf := kf) (row := row) (by intro e; subst e; exact hne rfl)
    have hfl := hf.lt
    unfold rest at hy'
    obtain ⟨j, hj, rfl⟩ := List.getElem_of_mem hy'
    rw [List.getElem_eraseIdx]
    have et : top kf row = row[first kf row] := by unfold top; simp [List.getD, hfl]
    rw [List.length_eraseIdx, if_pos hfl] at hj
    split
    · next hc =>
      have h1 := hf.ahead j hc
      have e1 : row.getD (first kf row) default = row[first kf row] := by simp [List.getD, hfl]
      have e2 : row.getD j default = row[j]'(by omega) := by simp [List.getD, show j < row.length by omega]
      rw [e1, e2] at h1
      rw [et]
      exact .inl h1
    · next hc =>
      have h1 := hf.behind (j + 1) (by omega) (by omega)
      have e1 : row.getD (first kf row) default = row[first kf row] := by simp [List.getD, hfl]
      have e2 : row.getD (j + 1) default = row[j + 1]'(by omega) := by simp [List.getD, show j + 1 < row.length by omega]
      rw [e1, e2] at h1
      have h2 := List.pairwise_iff_getElem.1 ht (first kf row) (j + 1) hfl (by omega) (by omega)
      rw [et]
      rcases Int.lt_or_eq_of_le h1 with c | c
      · exact .inl c
      · exact .inr ⟨c, h2⟩
/-- Two rows of numbers, both rising, of the same numbers: the same row. -/
theorem rises_eq : ∀ (l m : List Int), l.Pairwise (· ≤ ·) → m.Pairwise (· ≤ ·) → l.Perm m → l = m
  | [], m, _, _, h => by rw [List.nil_perm] at h; exact h.symm
  | x :: l, [], _, _, h => by simp at h
  | x :: l, y :: m, hl, hm, h => by
    obtain ⟨l1, l2⟩ := List.pairwise_cons.1 hl
    obtain ⟨m1, m2⟩ := List.pairwise_cons.1 hm
    have e : x = y := by
      have h1 : x ∈ y :: m := h.mem_iff.1 (List.mem_cons_self ..)
      have h2 : y ∈ x :: l := h.mem_iff.2 (List.mem_cons_self ..)
      rcases List.mem_cons.1 h1 with h1 | h1
      · exact h1
      rcases List.mem_cons.1 h2 with h2 | h2
      · exact h2.symm
      exact Int.le_antisymm (l1 y h2) (m1 x h1)
    subst e
    rw [rises_eq l m l2 m2 h.cons_inv]
/-- Backwards by what is greater: the keys turned round. -/
theorem mirror (row : List X) : (srt (fun x => - kf x) row).map kf = ((srt kf row).map kf).reverse := by
  have h1 := srt_rises (kf := kf) row.length row rfl
  have h2 := srt_rises (kf := fun x => - kf x) row.length row rfl
  have p1 := (srt_perm (kf := kf) row.length row rfl).map kf
  have p2 := (srt_perm (kf := fun x => - kf x) row.length row rfl).map kf
  have e := rises_eq ((srt (fun x => - kf x) row).map kf).reverse ((srt kf row).map kf)
    (by rw [List.pairwise_reverse, List.pairwise_map]; exact h2.imp fun h => by omega)
    (by rw [List.pairwise_map]; exact h1)
    ((List.reverse_perm _).trans (p2.trans p1.symm))
  rw [← e, List.reverse_reverse]
end
end Go.Proofs.Ytfghcjhfbbdanaa.Hm
