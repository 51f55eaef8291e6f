/- Plain: sums over rows and tables. -/
import Derived.Test.YtjpgkocffceeoaaGm
set_option linter.unusedVariables false
set_option linter.unusedSectionVars false
namespace Go.Proofs.Ytjpgkocffceeoaa
open Go.RowKit Rk

theorem sumTo_add (n : Nat) (f g : Nat → Int) : sumTo n (fun a => f a + g a) = sumTo n f + sumTo n g := by
  induction n with
  | zero => rfl
  | succ n ih => simp only [sumTo, ih]; omega
theorem sumTo_sub (n : Nat) (f g : Nat → Int) : sumTo n (fun a => f a - g a) = sumTo n f - sumTo n g := by
  induction n with
  | zero => rfl
  | succ n ih => simp only [sumTo, ih]; omega
theorem sumTo_neg (n : Nat) (f : Nat → Int) : sumTo n (fun a => - f a) = - sumTo n f := by
  induction n with
  | zero => rfl
  | succ n ih => simp only [sumTo, ih]; omega
theorem sumTo_zero (n : Nat) {f : Nat → Int} (h : ∀ b, b < n → f b = 0) : sumTo n f = 0 := by
  rw [sumTo_congr (g := fun _ => 0) h]
  clear h
  induction n with
  | zero => rfl
  | succ n ih => simp only [sumTo, ih]; omega
theorem sumTo_nonneg (n : Nat) {f : Nat → Int} (h : ∀ b, b < n → 0 ≤ f b) : 0 ≤ sumTo n f := by
  induction n with
  | zero => exact Int.le_refl _
  | succ n ih =>
    have h1 := ih (fun b hb => h b (by omega))
    have h2 := h n (by omega)
    simp only [sumTo]; omega
theorem sumTo_le (n : Nat) {f g : Nat → Int} (h : ∀ b, b < n → f b ≤ g b) : sumTo n f ≤ sumTo n g := by
  induction n with
  | zero => exact Int.le_refl _
  | succ n ih =>
    have h1 := ih (fun b hb => h b (by omega))
    have h2 := h n (by omega)
    simp only [sumTo]; omega
theorem sumTo_mono {f : Nat → Int} {k : Nat} (h : ∀ b, b < k → 0 ≤ f b) : ∀ j, j ≤ k → sumTo j f ≤ sumTo k f := by
  intro j hj
  obtain ⟨d, rfl⟩ : ∃ d, k = j + d := ⟨k - j, by omega⟩
  clear hj
  induction d with
  | zero => exact Int.le_refl _
  | succ d ih =>
    have h1 := ih (fun b hb => h b (by omega))
    have h2 := h (j + d) (by omega)
    show sumTo j f ≤ sumTo (j + d) f + f (j + d)
    omega
/-- A table that is the same from either side, and nothing at itself: twice what stands above. -/
theorem twiceG {G : Nat → Nat → Int} (hs : ∀ a b, G a b = G b a) (hd : ∀ a, G a a = 0) (m : Nat) : sumTo m (fun a => sumTo m (G a)) = 2 * sumTo m (fun a => sumTo m (above ((a : Int) + 1) (G a))) := by
  induction m with
  | zero => rfl
  | succ m ih =>
    have e1 : sumTo m (fun a => sumTo (m + 1) (G a)) = sumTo m (fun a => sumTo m (G a)) + sumTo m (fun a => G a m) := by
      rw [← sumTo_add]; rfl
    have e2 : sumTo m (fun a => sumTo (m + 1) (above ((a : Int) + 1) (G a))) = sumTo m (fun a => sumTo m (above ((a : Int) + 1) (G a))) + sumTo m (fun a => G a m) := by
      rw [← sumTo_add]
      refine sumTo_congr fun a ha => ?_
      show sumTo m _ + above ((a : Int) + 1) (G a) m = _
      rw [show above ((a : Int) + 1) (G a) m = G a m by unfold above; rw [if_neg (by omega)]]
    have e3 : sumTo m (fun a => G a m) = sumTo m (G m) := sumTo_congr fun a _ => hs a m
    have e4 : sumTo (m + 1) (above ((m : Int) + 1) (G m)) = 0 := sumTo_zero _ fun b hb => by unfold above; rw [if_pos (by omega)]
    show sumTo m (fun a => sumTo (m + 1) (G a)) + (sumTo m (G m) + G m m) = 2 * (sumTo m (fun a => sumTo (m + 1) (above ((a : Int) + 1) (G a))) + sumTo (m + 1) (above ((m : Int) + 1) (G m)))
    rw [e1, e2, e3, e4, ih, hd]
    omega
theorem sumTo_one (n i : Nat) (hi : i < n) (f : Nat → Int) (h : ∀ b, b < n → b ≠ i → f b = 0) : sumTo n f = f i := by
  induction n with
  | zero => omega
  | succ n ih =>
    simp only [sumTo]
    by_cases e : i = n
    · subst e
      rw [sumTo_zero i (fun b hb => h b (by omega) (by omega))]; omega
    · rw [ih (by omega) (fun b hb hn => h b (by omega) hn), h n (by omega) (Ne.symm e)]; omega
end Go.Proofs.Ytjpgkocffceeoaa
