/- Plain facts of layer 3: fields that are whole, or cut, are read as they stand. -/
import Derived.Test.YtnkhpmpoemodiaaRf
set_option linter.unusedVariables false
namespace Go.Proofs.Ytnkhpmpoemodiaa
open Go.RowKit

theorem get_cut (f : Nat) : ∀ (n i a d : Nat), i + f ≤ 9 → d < (putL f n).length → getGo ((putL f n).take d) i a = (0, 0, 20) := by
  induction f with
  | zero =>
    intro n i a d hi hd
    simp only [putL, List.length_cons, List.length_nil] at hd
    obtain rfl : d = 0 := by omega
    rfl
  | succ f ih =>
    intro n i a d hi hd
    simp only [putL] at hd ⊢
    split
    · rename_i h
      rw [if_pos h] at hd
      simp only [List.length_cons, List.length_nil] at hd
      obtain rfl : d = 0 := by omega
      rfl
    · rename_i h
      rw [if_neg h] at hd
      cases d with
      | zero => rfl
      | succ d =>
        simp only [List.length_cons] at hd
        rw [List.take_succ_cons]
        simp only [getGo]
        rw [if_neg (by omega), if_neg (by omega)]
        exact ih _ _ _ _ (by omega) (by omega)
theorem get_cutF (n d : Nat) (h : d < (putF n).length) : getF ((putF n).take d) = (0, 0, 20) := get_cut 9 n 0 0 d (by omega) h

/-! ### one field, whole and cut -/
theorem drop_front {α : Type} (front l : List α) : (front ++ l).drop front.length = l := by simp
def s0 (n : Nat) : RS := ⟨n, 0, 0⟩
theorem take_good (front xs back : List Int) : rtake (front ++ (xs ++ back)) 0 xs.length (s0 front.length) = (s0 (front.length + xs.length), xs) := by
  unfold rtake s0
  rw [if_pos rfl, if_neg (by simp only [List.length_append]; omega)]
  simp only [Nat.add_zero]
  rw [drop_front, List.take_left]
theorem take_cut (front xs : List Int) (n : Nat) (h : xs.length < n) : rtake (front ++ xs) 0 n (s0 front.length) = (⟨front.length, 20, front.length⟩, []) := by
  unfold rtake s0
  rw [if_pos rfl, if_pos (by simp only [List.length_append]; omega)]
  rfl
theorem word_fix (n : Int) (h0 : 0 ≤ n) (h1 : n ≤ 4294967295) : wordK (fixF n) 4 = n := by
  simp only [wordK, fixF, List.getD_cons_zero, List.getD_cons_succ]
  omega
theorem fixed_good (front back : List Int) (n : Int) (h0 : 0 ≤ n) (h1 : n ≤ 4294967295) : rfixed (front ++ (fixF n ++ back)) (s0 front.length) = (s0 (front.length + 4), n) := by
  have := take_good front (fixF n) back
  rw [fixF_length] at this
  unfold rfixed
  rw [this]
  simp only
  rw [if_neg (by rw [fixF_length]; decide), word_fix n h0 h1]
theorem fixed_cut (front xs : List Int) (h : xs.length < 4) : (rfixed (front ++ xs) (s0 front.length)).1 = ⟨front.length, 20, front.length⟩ := by
  unfold rfixed
  rw [take_cut front xs 4 h]
theorem num_good (front back : List Int) (n : Nat) (h : n ≤ 18446744073709551615) : rnum (front ++ (putF n ++ back)) (s0 front.length) = (s0 front.length, n, (putF n).length) := by
  unfold rnum s0
  simp only [drop_front, get_putF n back h]
  rfl
theorem num_cut (front : List Int) (n d : Nat) (h : d < (putF n).length) : rnum (front ++ (putF n).take d) (s0 front.length) = (⟨front.length, 20, front.length⟩, 0, 0) := by
  unfold rnum s0
  simp only [drop_front, get_cutF n d h]
  rfl
theorem bnd_good (front back : List Int) (n : Nat) (most : Int) (h : (n : Int) ≤ most) (hm : most ≤ 9223372036854775807) : rbnd (front ++ (putF n ++ back)) most (s0 front.length) = (s0 front.length, n, (putF n).length) := by
  unfold rbnd
  rw [num_good front back n (by omega), if_neg (by simp only; omega)]
theorem bnd_cut (front : List Int) (n d : Nat) (most : Int) (h : d < (putF n).length) (hm : 0 ≤ most) : rbnd (front ++ (putF n).take d) most (s0 front.length) = (⟨front.length, 20, front.length⟩, 0, 0) := by
  unfold rbnd
  rw [num_cut front n d h, if_neg (by simp only; omega)]
theorem rstep0 (s : RS) : rstep s 0 = s := rfl
end Go.Proofs.Ytnkhpmpoemodiaa
