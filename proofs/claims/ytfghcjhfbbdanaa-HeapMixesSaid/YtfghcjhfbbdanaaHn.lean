/- Plain: what comes out of a row, one behind the other. No program in this text. -/
import Derived.Test.YtfghcjhfbbdanaaHm
set_option linter.unusedVariables false
set_option linter.unusedSectionVars false
namespace Go.Proofs.Ytfghcjhfbbdanaa.Hm

section
variable {X : Type} [Inhabited X] (kf : X → Int)
/-- The one that comes out. -/
def top (row : List X) : X := row.getD (first kf row) default
/-- The row without it. -/
def rest (row : List X) : List X := row.eraseIdx (first kf row)
variable {kf}
theorem first_lt {row : List X} (h : row.length ≠ 0) : first kf row < row.length := (first_is (by intro e; subst e; exact h rfl)).lt
theorem rest_length {row : List X} (h : row.length ≠ 0) : (rest kf row).length = row.length - 1 := by
  unfold rest; rw [List.length_eraseIdx, if_pos (first_lt h)]
theorem rest_length' (row : List X) : (rest kf row).length = row.length - 1 := by
  by_cases h : row.length = 0
  · have : row = [] := List.length_eq_zero_iff.1 h
    subst this; rfl
  · exact rest_length h
theorem outs_zero (row : List X) : outs kf 0 row = [] := rfl
theorem outs_succ (k : Nat) (row : List X) (h : row.length ≠ 0) : outs kf (k + 1) row = top kf row :: outs kf k (rest kf row) := by
  rw [outs, if_neg h]; rfl
theorem left_zero (row : List X) : left kf 0 row = row := rfl
theorem left_succ (k : Nat) (row : List X) (h : row.length ≠ 0) : left kf (k + 1) row = left kf k (rest kf row) := by
  rw [left, if_neg h]; rfl
theorem outs_nil (k : Nat) : outs kf k ([] : List X) = [] := by cases k <;> simp [outs]
theorem left_nil (k : Nat) : left kf k ([] : List X) = [] := by cases k <;> simp [left]
theorem nil_of {row : List X} (h : row.length = 0) : row = [] := List.length_eq_zero_iff.1 h
theorem left_length : ∀ (k : Nat) (row : List X), (left kf k row).length = row.length - k
  | 0, row => rfl
  | k + 1, row => by
    by_cases h : row.length = 0
    · rw [nil_of h, left_nil]; simp
    · rw [left_succ k row h, left_length k, rest_length h]; omega
theorem outs_length : ∀ (k : Nat) (row : List X), (outs kf k row).length = min k row.length
  | 0, row => by simp [outs]
  | k + 1, row => by
    by_cases h : row.length = 0
    · rw [nil_of h, outs_nil]; simp
    · rw [outs_succ k row h, List.length_cons, outs_length k, rest_length h]; omega
/-- One more. -/
theorem outs_snoc : ∀ (k : Nat) (row : List X), k < row.length → outs kf (k + 1) row = outs kf k row ++ [top kf (left kf k row)]
  | 0, row, h => by rw [outs_succ 0 row (by omega)]; rfl
  | k + 1, row, h => by
    have hr := rest_length (kf := kf) (row := row) (by omega)
    rw [outs_succ (k + 1) row (by omega), outs_snoc k _ (by omega), outs_succ k row (by omega), left_succ k row (by omega)]
    rfl
theorem left_snoc : ∀ (k : Nat) (row : List X), k < row.length → left kf (k + 1) row = rest kf (left kf k row)
  | 0, row, h => by rw [left_succ 0 row (by omega)]; rfl
  | k + 1, row, h => by
    have hr := rest_length (kf := kf) (row := row) (by omega)
    rw [left_succ (k + 1) row (by omega), left_snoc k _ (by omega), left_succ k row (by omega)]
theorem outs_all : ∀ (k : Nat) (row : List X), row.length ≤ k → outs kf k row = srt kf row
  | k, row, h => by
    have key : ∀ (n k : Nat) (row : List X), row.length = n → n ≤ k → outs kf k row = outs kf n row := by
      intro n
      induction n with
      | zero => intro k row hl _; rw [nil_of hl, outs_nil, outs_nil]
      | succ n ih =>
        intro k row hl hk
        obtain ⟨k, rfl⟩ : ∃ j, k = j + 1 := ⟨k - 1, by omega⟩
        rw [outs_succ k row (by omega), outs_succ n row (by omega), ih k _ (by rw [rest_length (by omega)]; omega) (by omega)]
    exact key _ k row rfl h
theorem outs_take : ∀ (k m : Nat) (row : List X), k ≤ m → (outs kf m row).take k = outs kf k row
  | 0, m, row, _ => by simp [outs]
  | k + 1, m, row, h => by
    obtain ⟨m, rfl⟩ : ∃ j, m = j + 1 := ⟨m - 1, by omega⟩
    by_cases h0 : row.length = 0
    · rw [nil_of h0, outs_nil, outs_nil]; rfl
    · rw [outs_succ m row h0, outs_succ k row h0, List.take_succ_cons, outs_take k m _ (by omega)]
theorem srt_take (k : Nat) (row : List X) : (srt kf row).take k = outs kf k row := by
  by_cases h : k ≤ row.length
  · exact outs_take k _ row h
  · rw [outs_all k row (by omega), List.take_of_length_le]
    unfold srt; rw [outs_length]; omega
theorem srt_length (row : List X) : (srt kf row).length = row.length := by unfold srt; rw [outs_length]; omega
theorem srt_succ (row : List X) (h : row.length ≠ 0) : srt kf row = top kf row :: srt kf (rest kf row) := by
  obtain ⟨n, hn⟩ : ∃ n, row.length = n + 1 := ⟨row.length - 1, by omega⟩
  have hr := rest_length (kf := kf) h
  unfold srt
  rw [hn, outs_succ n row h, show (rest kf row).length = n by omega]
/-- In two parts. -/
theorem outs_left : ∀ (k : Nat) (row : List X), outs kf k row ++ srt kf (left kf k row) = srt kf row
  | 0, row => rfl
  | k + 1, row => by
    by_cases h : row.length = 0
    · rw [nil_of h, outs_nil, left_nil]; rfl
    · rw [outs_succ k row h, left_succ k row h, srt_succ row h, List.cons_append, outs_left k]
end
end Go.Proofs.Ytfghcjhfbbdanaa.Hm
