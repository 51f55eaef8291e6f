/- Plain: all degrees together are twice all edges. -/
import Derived.Test.YtgidfgafnihblaaPa
set_option linter.unusedVariables false
set_option linter.unusedSectionVars false
namespace Go.Proofs.Ytgidfgafnihblaa
open Go.RowKit Rk

theorem sumTo_add (n : Nat) (f g : Nat → Int) : sumTo n (fun a => f a + g a) = sumTo n f + sumTo n g := by
  induction n with
  | zero => rfl
  | succ n ih => simp only [sumTo, ih]; omega
theorem sumTo_zero (n : Nat) {f : Nat → Int} (h : ∀ b, b < n → f b = 0) : sumTo n f = 0 := by
  rw [sumTo_congr (g := fun _ => 0) h]
  clear h
  induction n with
  | zero => rfl
  | succ n ih => simp only [sumTo, ih]; omega
theorem sumTo_bd (n : Nat) {f : Nat → Int} {B : Int} (h : ∀ b, b < n → 0 ≤ f b ∧ f b ≤ B) : 0 ≤ sumTo n f ∧ sumTo n f ≤ B * (n : Int) := by
  induction n with
  | zero => simp [sumTo]
  | succ n ih =>
    obtain ⟨h1, h2⟩ := ih (fun b hb => h b (by omega))
    obtain ⟨h3, h4⟩ := h n (by omega)
    refine ⟨by simp only [sumTo]; omega, ?_⟩
    simp only [sumTo]
    have e : B * ((n + 1 : Nat) : Int) = B * (n : Int) + B := by rw [Int.natCast_add]; simp [Int.mul_add]
    rw [e]
    omega
theorem twice {n : Nat} {F : Nat → Nat → Int} (h : Tab n F) (m : Nat) : sumTo m (fun a => sumTo m (F a)) = 2 * sumTo m (fun a => sumTo m (above ((a : Int) + 1) (F a))) := by
  induction m with
  | zero => rfl
  | succ m ih =>
    have e1 : sumTo m (fun a => sumTo (m + 1) (F a)) = sumTo m (fun a => sumTo m (F a)) + sumTo m (fun a => F a m) := by
      rw [← sumTo_add]; rfl
    have e2 : sumTo m (fun a => sumTo (m + 1) (above ((a : Int) + 1) (F a))) = sumTo m (fun a => sumTo m (above ((a : Int) + 1) (F a))) + sumTo m (fun a => F a m) := by
      rw [← sumTo_add]
      refine sumTo_congr fun a ha => ?_
      show sumTo m _ + above ((a : Int) + 1) (F a) m = _
      rw [show above ((a : Int) + 1) (F a) m = F a m by unfold above; rw [if_neg (by omega)]]
    have e3 : sumTo m (fun a => F a m) = sumTo m (F m) := sumTo_congr fun a _ => h.sym a m
    have e4 : sumTo (m + 1) (above ((m : Int) + 1) (F m)) = 0 := sumTo_zero _ fun b hb => by unfold above; rw [if_pos (by omega)]
    show sumTo m (fun a => sumTo (m + 1) (F a)) + (sumTo m (F m) + F m m) = 2 * (sumTo m (fun a => sumTo (m + 1) (above ((a : Int) + 1) (F a))) + sumTo (m + 1) (above ((m : Int) + 1) (F m)))
    rw [e1, e2, e3, e4, ih, h.diag]
    omega
/-- All numbers of some edges together. -/
def esum (l : List Edg) : Int := (l.map (·.2.2)).sum
theorem esum_append (l m : List Edg) : esum (l ++ m) = esum l + esum m := by simp [esum, List.sum_append]
theorem esum_tag (a : Nat) (l : List (Int × Int)) : esum (l.map (tag a)) = vals l := by simp [esum, vals, List.map_map]; rfl
theorem above_lo {k : Int} {f : Nat → Int} (h : ∀ b, 0 ≤ f b) (b : Nat) : 0 ≤ above k f b := by unfold above; split; exact Int.le_refl _; exact h b
theorem esum_upTo {n : Nat} {F : Nat → Nat → Int} (h : Tab n F) (k : Nat) : esum (upTo n F k) = sumTo k (fun a => sumTo n (above ((a : Int) + 1) (F a))) := by
  induction k with
  | zero => rfl
  | succ k ih =>
    rw [upTo, esum_append, ih, esum_tag]
    show _ + vals (rowOf n (above ((k : Int) + 1) (F k))) = _
    rw [vals_rowOf n _ (fun b _ => above_lo (h.lo k) b)]
    rfl
theorem degrees_edges {n : Nat} {F : Nat → Nat → Int} (h : Tab n F) : sumTo n (fun a => vals (nearD n F (a : Int))) = 2 * esum (edgesD n F) := by
  rw [edgesD, esum_upTo h, ← twice h]
  refine sumTo_congr fun a ha => ?_
  rw [nearD_nat F ha, vals_rowOf n _ (fun b _ => h.lo a b)]
theorem vals_near_bd {n : Nat} {F : Nat → Nat → Int} (h : Tab n F) {a : Nat} (ha : a < n) : 0 ≤ vals (nearD n F (a : Int)) ∧ vals (nearD n F (a : Int)) ≤ 1099511627776 * (n : Int) := by
  rw [nearD_nat F ha, vals_rowOf n _ (fun b _ => h.lo a b)]
  exact sumTo_bd n fun b _ => ⟨h.lo a b, h.hi a b⟩
theorem mem_upTo {n : Nat} {F : Nat → Nat → Int} {x : Edg} : ∀ {k : Nat}, x ∈ upTo n F k → ∃ a b : Nat, a < k ∧ a < b ∧ b < n ∧ 0 < F a b ∧ x = ((a : Int), (b : Int), F a b)
  | 0, h => by cases h
  | k + 1, h => by
    rcases List.mem_append.1 h with h | h
    · obtain ⟨a, b, h1, h2⟩ := mem_upTo h
      exact ⟨a, b, by omega, h2⟩
    · obtain ⟨p, hp, rfl⟩ := List.mem_map.1 h
      obtain ⟨b, hb, h0, rfl⟩ := mem_rowOf.1 hp
      unfold above at h0
      split at h0
      · omega
      · refine ⟨k, b, by omega, by omega, hb, h0, ?_⟩
        show ((k : Int), (b : Int), above _ _ _) = _
        rw [show above ((k : Int) + 1) (F k) b = F k b by unfold above; rw [if_neg (by omega)]]
theorem upTo_length (n : Nat) (F : Nat → Nat → Int) (k : Nat) : (upTo n F k).length ≤ k * n := by
  induction k with
  | zero => simp [upTo]
  | succ k ih =>
    rw [upTo, List.length_append, List.length_map]
    have := rowOf_length n (above ((k : Int) + 1) (F k))
    show _ + (rowOf n _).length ≤ _
    rw [Nat.add_mul]
    omega
theorem edgesD_length {n : Nat} (F : Nat → Nat → Int) (hn : n ≤ 30) : (edgesD n F).length ≤ 900 := by
  refine Nat.le_trans (upTo_length n F n) ?_
  exact Nat.mul_le_mul hn hn
theorem edge_at {n : Nat} {F : Nat → Nat → Int} (h : Tab n F) {k : Nat} (hk : k < (edgesD n F).length) : ∃ a b : Nat, a < b ∧ 0 < F a b ∧ F a b ≤ 1099511627776 ∧ (edgesD n F).getD k default = ((a : Int), (b : Int), F a b) := by
  have hm : (edgesD n F).getD k default ∈ edgesD n F := by
    rw [List.getD_eq_getElem?_getD, List.getElem?_eq_getElem hk]
    exact List.getElem_mem hk
  obtain ⟨a, b, _, h2, _, h4, h5⟩ := mem_upTo hm
  exact ⟨a, b, h2, h4, h.hi a b, h5⟩
theorem esum_take {l : List Edg} {k : Nat} (hk : k < l.length) : esum (l.take (k + 1)) = esum (l.take k) + (l.getD k default).2.2 := by
  rw [List.take_succ_eq_append_getElem hk, esum_append, List.getD_eq_getElem?_getD, List.getElem?_eq_getElem hk]
  simp [esum]
/-- What is between two is so from either side. -/
theorem btw_sym {n : Nat} {F : Nat → Nat → Int} (h : Tab n F) (a b : Int) : btw n F a b = btw n F b a := by
  unfold btw
  by_cases e : 0 ≤ a ∧ a < (n : Int) ∧ 0 ≤ b ∧ b < (n : Int)
  · rw [if_pos e, if_pos ⟨e.2.2.1, e.2.2.2, e.1, e.2.1⟩, h.sym]
  · rw [if_neg e, if_neg (fun e' => e ⟨e'.2.2.1, e'.2.2.2, e'.1, e'.2.1⟩)]
/-- What a join does to what is between the two. -/
theorem btw_join {n : Nat} {F : Nat → Nat → Int} {a b x : Int} (h : joinE n F a b x = 0) : may x = true ∧ btw n (joinF n F a b x) a b = btw n F a b + x := by
  have h' := h
  unfold joinE at h'
  split at h'
  · cases h'
  · rename_i hc
    split at h'
    · cases h'
    · rename_i hc2
      have ha : hasN n a = true := by cases e : hasN n a; exact absurd (.inl e) hc; rfl
      have hb : hasN n b = true := by cases e : hasN n b; exact absurd (.inr (.inl e)) hc; rfl
      obtain ⟨i, rfl, hi⟩ := hasN_t ha
      obtain ⟨j, rfl, hj⟩ := hasN_t hb
      refine ⟨by cases e : may x; exact absurd (.inl e) hc2; rfl, ?_⟩
      rw [joinF_yes h hi hj, btw_nat _ _ hi hj, btw_nat _ _ hi hj]
      simp [joinT]
end Go.Proofs.Ytgidfgafnihblaa
