/- Contract: the example that each statement of layer 2 begins with returns true, and makes memory alone. -/
import Derived.Test.YtiajpffdnjeafaaVh
set_option linter.unusedVariables false
namespace Go.Proofs.Ytiajpffdnjeafaa
open Go.RowKit

theorem fresh_ints (k : IntKind) (w : World) (e : TypeId) (zs : List Int) (g n : Nat) (hg : g = w.heap.size) (hn : zs.length = n) (hm : n ≤ maxLen) (hf : ∀ x ∈ zs, (Lit.int k x).wf = true) :
    IntsAt k (g + 1) (w.alloc (.cells (ivals k zs).toArray e)) (some ⟨g, 0, none⟩) g 0 n zs := by
  subst hg
  refine ⟨.inr rfl, hn, hm, .inr (by omega), fun i hi => ?_, hf⟩
  rw [Nat.zero_add, World.cell?_alloc_at _ _ _ _ rfl]
  unfold ivals
  rw [List.getElem?_toArray, List.getElem?_map, List.getElem?_eq_getElem (by omega)]
  simp [List.getD, show i < zs.length by omega]
theorem c_get1 (W : World) (g : Nat) (hg : g = W.heap.size) :
    Calls Try.prog 29 #[.slice (some ⟨g, 0, none⟩) 3 3] (W.alloc (.cells #[.int .u8 172, .int .u8 2, .int .u8 9] 5)) fun e w' => e = .returned (.tuple #[.int .u64 300, .int .i64 2, .int .i64 0]) ∧ W.alloc (.cells #[.int .u8 172, .int .u8 2, .int .u8 9] 5) = w' := by
  have := get_any [172, 2, 9] _ _ _ _ 3 3 _ (fresh_ints .u8 W 5 [172, 2, 9] g 3 hg rfl (by decide) (by decide)) (Nat.le_refl _)
  rwa [show getF [172, 2, 9] = (300, 2, 0) by decide] at this
theorem c_get2 (W : World) (g : Nat) (hg : g = W.heap.size) :
    Calls Try.prog 29 #[.slice (some ⟨g, 0, none⟩) 1 1] (W.alloc (.cells #[.int .u8 128] 5)) fun e w' => e = .returned (.tuple #[.int .u64 0, .int .i64 0, .int .i64 20]) ∧ W.alloc (.cells #[.int .u8 128] 5) = w' := by
  have := get_any [128] _ _ _ _ 1 1 _ (fresh_ints .u8 W 5 [128] g 1 hg rfl (by decide) (by decide)) (Nat.le_refl _)
  rwa [show getF [128] = (0, 0, 20) by decide] at this
theorem c_get3 (W : World) (g : Nat) (hg : g = W.heap.size) :
    Calls Try.prog 29 #[.slice (some ⟨g, 0, none⟩) 2 2] (W.alloc (.cells #[.int .u8 128, .int .u8 0] 5)) fun e w' => e = .returned (.tuple #[.int .u64 0, .int .i64 0, .int .i64 21]) ∧ W.alloc (.cells #[.int .u8 128, .int .u8 0] 5) = w' := by
  have := get_any [128, 0] _ _ _ _ 2 2 _ (fresh_ints .u8 W 5 [128, 0] g 2 hg rfl (by decide) (by decide)) (Nat.le_refl _)
  rwa [show getF [128, 0] = (0, 0, 21) by decide] at this
theorem c_put (W : World) : Calls Try.prog 31 #[.int .u64 300] W fun e w' => ∃ a cap, e = .returned (.slice a 2 cap) ∧ (convert 33 9 (.slice a 2 cap)).run Try.prog w' = .ok (.string ⟨#[172, 2]⟩) w' ∧ Below W.heap.size W w' := by
  have h := put_any 300 W (by decide)
  refine h.mono ?_
  rintro e w' ⟨v, rfl, hg, hB⟩
  rw [show putF 300 = [172, 2] by decide] at hg
  obtain ⟨a, cap, b, rfl, _, _, _, HS⟩ := hg.ints rfl (by decide)
  exact ⟨a, cap, rfl, conv_ints HS cap, hB⟩
theorem c_len1 (W : World) : Calls Try.prog 34 #[.int .u64 300] W fun e w' => e = .returned (.int .i64 2) ∧ W = w' := by
  have := len_any 300 W (by decide)
  rwa [show (putF 300).length = 2 by decide] at this
theorem c_len2 (W : World) : Calls Try.prog 34 #[.int .u64 0] W fun e w' => e = .returned (.int .i64 1) ∧ W = w' := by
  have := len_any 0 W (by decide)
  rwa [show (putF 0).length = 1 by decide] at this
theorem c_fold (W : World) : Calls Try.prog 35 #[.int .i64 (-1)] W fun e w' => e = .returned (.int .u64 1) ∧ W = w' := by
  have := fold_any (-1) W (by decide) (by decide)
  rwa [show foldF (-1) = 1 by decide] at this
theorem c_unfold (W : World) : Calls Try.prog 37 #[.int .u64 2] W fun e w' => e = .returned (.int .i64 1) ∧ W = w' := by
  have := unfold_any 2 W (by decide) (by decide)
  rwa [show unfoldF 2 = 1 by decide] at this
theorem c_list (W : World) (g : Nat) (hg : g = W.heap.size) :
    Calls Try.prog 39 #[.slice (some ⟨g, 0, none⟩) 4 4, .int .i64 9] (W.alloc (.cells #[.int .u8 1, .int .u8 172, .int .u8 2, .int .u8 128] 5)) fun e w' => ∃ a cap, e = .returned (.slice a 2 cap) ∧ Below W.heap.size W w' := by
  have := list_any 9 (fresh_ints .u8 W 5 [1, 172, 2, 128] g 4 hg rfl (by decide) (by decide)) (cap := 4) (fun h => by cases h) (by decide) (by decide) (by simp; omega)
  refine this.mono ?_
  rintro e w' ⟨v, rfl, hgat, hB⟩
  rw [show ((itemsF [1, 172, 2, 128]).take 9) = [(0, 1), (1, 300)] by decide] at hgat
  obtain ⟨a, cap, rfl⟩ := hgat.slice
  exact ⟨a, cap, rfl, ((Below.refl _ W).alloc (Nat.le_refl _) _).trans (hB.mono (by simp))⟩

theorem valive_any (w : World) :
    Calls Try.prog 28 #[] w fun e w' => e = .returned (.bool true) ∧ Below w.heap.size w w' := by
  go_enter Try.func28, Try.ntmps28
  go_wp2_with fail
  refine (c_get1 _ _ rfl).mono ?_
  rintro e w' ⟨rfl, rfl⟩
  go_wp2_with fail
  refine (c_get2 _ _ (by simp)).mono ?_
  rintro e w' ⟨rfl, rfl⟩
  go_wp2_with fail
  refine (c_get3 _ _ (by simp)).mono ?_
  rintro e w' ⟨rfl, rfl⟩
  go_wp2_with fail
  refine (c_put _).mono ?_
  rintro e w1 ⟨a1, k1, rfl, hconv, hB1⟩
  have hB0 : Below w.heap.size w w1 := ((((Below.refl _ w).alloc (Nat.le_refl _) _).alloc (by simp) _).alloc (by simp; omega) _).trans (hB1.mono (by simp; omega))
  have HB0 := Lib.hid hB0
  clear hB1 hB0
  go_wp2_with fail
  refine (c_len1 _).mono ?_
  rintro e w2 ⟨rfl, rfl⟩
  go_wp2_with fail
  refine (c_len2 _).mono ?_
  rintro e w2 ⟨rfl, rfl⟩
  go_wp2_with (first
    | (go_at_call 35; refine (c_fold _).mono ?_; rintro e w2 ⟨rfl, rfl⟩)
    | (go_at_call 37; refine (c_unfold _).mono ?_; rintro e w2 ⟨rfl, rfl⟩)
    | (go_at_call 39; refine (c_list _ _ rfl).mono ?_; rintro e w2 ⟨a2, k2, rfl, hB2⟩))
  go_ret
  exact ⟨rfl, HB0.out.trans (hB2.mono HB0.out.size)⟩
end Go.Proofs.Ytiajpffdnjeafaa
