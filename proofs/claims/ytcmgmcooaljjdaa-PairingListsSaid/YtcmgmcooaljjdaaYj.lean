/- Plain: the document's search for a mate is the program's. -/
import Derived.Test.YtcmgmcooaljjdaaYq
set_option linter.unusedVariables false
set_option linter.unusedSectionVars false
namespace Go.Proofs.Ytcmgmcooaljjdaa
open Go.RowKit Rk

/-- The best of the first b, by the document: none yet is -1. -/
def toF (ms : List Int) (F : Nat → Nat → Int) (i b : Nat) : Int := if 0 < (hvR ms i (rowOf b (F i))).2 then (hvR ms i (rowOf b (F i))).1 else -1
theorem hvR_of (ms : List Int) {F : Nat → Nat → Int} (i : Nat) : ∀ b : Nat, hvR ms i (rowOf b (F i)) = ((i : Int), 0) ∨ ∃ t : Nat, t < b ∧ hvR ms i (rowOf b (F i)) = ((t : Int), F i t) ∧ 0 < F i t
  | 0 => .inl rfl
  | b + 1 => by
    have ih := hvR_of ms (F := F) i b
    rw [rowOf_succ]
    by_cases hp : 0 < F i b
    · rw [if_pos hp, hvR_snoc]
      by_cases hc : ms.getD ((b : Int)).toNat 0 = (b : Int) ∧ (hvR ms i (rowOf b (F i))).2 < F i b
      · rw [show hvS ms (hvR ms i (rowOf b (F i))) ((b : Int), F i b) = ((b : Int), F i b) from if_pos hc]
        exact .inr ⟨b, by omega, rfl, hp⟩
      · rw [show hvS ms (hvR ms i (rowOf b (F i))) ((b : Int), F i b) = hvR ms i (rowOf b (F i)) from if_neg hc]
        exact ih.imp id (fun ⟨t, h1, h2, h3⟩ => ⟨t, by omega, h2, h3⟩)
    · rw [if_neg hp, List.append_nil]
      exact ih.imp id (fun ⟨t, h1, h2, h3⟩ => ⟨t, by omega, h2, h3⟩)
theorem toF_cases (ms : List Int) {F : Nat → Nat → Int} (i b : Nat) : toF ms F i b = -1 ∧ (hvR ms i (rowOf b (F i))) = ((i : Int), 0) ∨ ∃ t : Nat, t < b ∧ toF ms F i b = (t : Int) ∧ hvR ms i (rowOf b (F i)) = ((t : Int), F i t) ∧ 0 < F i t := by
  rcases hvR_of ms (F := F) i b with h | ⟨t, h1, h2, h3⟩
  · exact .inl ⟨by unfold toF; rw [h]; exact if_neg (Int.lt_irrefl 0), h⟩
  · exact .inr ⟨t, h1, by unfold toF; rw [h2]; exact if_pos h3, h2, h3⟩
/-- The next one is taken. -/
theorem toF_take (ms : List Int) {F : Nat → Nat → Int} (i b : Nat) (h1 : ms.getD b 0 = (b : Int)) (h2 : 0 < F i b) (h3 : (hvR ms i (rowOf b (F i))).2 < F i b) : toF ms F i (b + 1) = (b : Int) := by
  unfold toF
  rw [rowOf_succ, if_pos h2, hvR_snoc, show hvS ms (hvR ms i (rowOf b (F i))) ((b : Int), F i b) = ((b : Int), F i b) from if_pos ⟨by rw [Int.toNat_natCast]; exact h1, h3⟩]
  exact if_pos h2
theorem toF_skip (ms : List Int) {F : Nat → Nat → Int} (i b : Nat) (h : ¬ (ms.getD b 0 = (b : Int) ∧ 0 < F i b ∧ (hvR ms i (rowOf b (F i))).2 < F i b)) : toF ms F i (b + 1) = toF ms F i b := by
  unfold toF
  rw [rowOf_succ]
  by_cases h2 : 0 < F i b
  · rw [if_pos h2, hvR_snoc, show hvS ms (hvR ms i (rowOf b (F i))) ((b : Int), F i b) = hvR ms i (rowOf b (F i)) from if_neg (fun h3 => h ⟨by have := h3.1; rwa [Int.toNat_natCast] at this, h2, h3.2⟩)]
  · rw [if_neg h2, List.append_nil]
/-- A thing's mate, by the document's search over all. -/
theorem toF_all {n : Nat} {F : Nat → Nat → Int} {mf : Nat → Int} {k : Nat} (hk : k < n) (hs : mf k = (k : Int)) :
    (toF (matesL n mf) F k n = -1 ∧ upd (upd mf k (hvF (matesL n mf) n F k)) (hvF (matesL n mf) n F k).toNat (k : Int) = mf) ∨ ∃ t : Nat, t < n ∧ toF (matesL n mf) F k n = (t : Int) ∧ hvF (matesL n mf) n F k = (t : Int) := by
  rcases toF_cases (matesL n mf) (F := F) k n with ⟨h1, h2⟩ | ⟨t, h1, h2, h3, _⟩
  · refine .inl ⟨h1, ?_⟩
    have e : hvF (matesL n mf) n F k = (k : Int) := by unfold hvF; rw [h2]
    rw [e, Int.toNat_natCast]
    funext c
    unfold upd
    by_cases e : c = k
    · rw [if_pos e, e, hs]
    · rw [if_neg e, if_neg e]
  · exact .inr ⟨t, h1, h2, by unfold hvF; rw [h3]⟩
theorem matesL_set (n : Nat) (mf : Nat → Int) (i : Nat) (v : Int) : (matesL n mf).set i v = matesL n (upd mf i v) := by
  apply List.ext_getElem
  · simp [matesL]
  · intro j h1 h2
    simp only [matesL, List.getElem_set, List.getElem_map, List.getElem_range]
    unfold upd
    by_cases e : i = j
    · rw [if_pos e, if_pos e.symm]
    · rw [if_neg e, if_neg (fun h => e h.symm)]
/-- Each one alone. -/
def selfL (j : Nat) : List Int := (List.range j).map (fun i : Nat => (i : Int))
theorem selfL_succ (j : Nat) : selfL (j + 1) = selfL j ++ [(j : Int)] := by simp [selfL, List.range_succ]
theorem selfL_length (j : Nat) : (selfL j).length = j := by simp [selfL]
theorem selfL_mates (n : Nat) (F : Nat → Nat → Int) : selfL n = matesL n (hyAt n F 0) := rfl
end Go.Proofs.Ytcmgmcooaljjdaa
