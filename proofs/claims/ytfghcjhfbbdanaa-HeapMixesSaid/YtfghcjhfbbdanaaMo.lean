/- HeapOrders: the facts ahead of the walk. -/
import Derived.Test.YtfghcjhfbbdanaaKe
import Derived.Test.YtfghcjhfbbdanaaMn
import Derived.Test.YtfghcjhfbbdanaaMp
set_option linter.unusedVariables false
namespace Go.Proofs.Ytfghcjhfbbdanaa
open Go.RowKit

theorem Gath.sits {w : World} {base : Nat} {a : Option Addr} {cap : Nat} {n : Nat} {l : List (Int × Int)} (h : Gath w base 26 2 (.slice a n cap) n (its l)) (hn : l.length = n) : ∃ b, ItsAt w.heap.size w a b n l ∧ n ≤ cap := by
  obtain ⟨a', cap', b, hv, hc, _, hI⟩ := Gath.itsAt h hn
  cases hv
  exact ⟨b, hI, hc⟩
theorem ordMore : IsOrd 8 (fun x => - x.1) := .inr ⟨rfl, rfl⟩
theorem tg_getElem (zs : List Int) (k i : Nat) (h : i < (tg zs k).length) : (tg zs k)[i] = (zs.getD i 0, (i : Int)) := by
  have h1 := tg_at zs k i (by rw [tg_length] at h; exact h)
  rw [← h1]
  simp [List.getD, h]
theorem tg_tags (zs : List Int) (k : Nat) : (tg zs k).Pairwise (fun a b => a.2 < b.2) := by
  rw [List.pairwise_iff_getElem]
  intro i j hi hj hij
  rw [tg_getElem, tg_getElem]
  simp; omega
/-- What stands at a place of the row in order: a key with its place; in order with the one ahead; told apart from all ahead. -/
theorem srt_facts (zs : List Int) (k j : Nat) (hj : j < k) : ∃ m : Nat, m < k ∧ (Hm.srt kk (tg zs k)).getD j default = (zs.getD m 0, (m : Int)) ∧
    (∀ i, i < j → ((Hm.srt kk (tg zs k)).getD i default).1 < zs.getD m 0 ∨ (((Hm.srt kk (tg zs k)).getD i default).1 = zs.getD m 0 ∧ ((Hm.srt kk (tg zs k)).getD i default).2 < (m : Int))) := by
  have hl := Hm.srt_length (kf := kk) (tg zs k)
  rw [tg_length] at hl
  have hp := Hm.srt_perm (kf := kk) (tg zs k).length (tg zs k) rfl
  have hx := Hm.srt_lex (kf := kk) (fun a => a.2) (tg zs k).length (tg zs k) rfl (tg_tags zs k)
  generalize Hm.srt kk (tg zs k) = S at *
  have hjS : j < S.length := by omega
  have hm : S[j] ∈ tg zs k := hp.mem_iff.1 (List.getElem_mem hjS)
  obtain ⟨m, hm1, hm2⟩ := List.getElem_of_mem hm
  rw [tg_getElem] at hm2
  rw [tg_length] at hm1
  have eg : ∀ i (h : i < S.length), S.getD i default = S[i] := fun i h => by simp [List.getD, h]
  refine ⟨m, hm1, by rw [eg j hjS, ← hm2], fun i hi => ?_⟩
  have h1 := List.pairwise_iff_getElem.1 hx i j (by omega) hjS hi
  rw [eg i (by omega)]
  simp only [← hm2] at h1
  exact h1
theorem seen_next (S : List (Int × Int)) (j : Nat) (hj : j < S.length) (y : Int) : (if y = (S.getD j default).2 then true else decide (y ∈ (S.take j).map Prod.snd)) = decide (y ∈ (S.take (j + 1)).map Prod.snd) := by
  have e : S.take (j + 1) = S.take j ++ [S.getD j default] := by
    rw [List.take_succ_eq_append_getElem hj]
    simp [List.getD, hj]
  rw [e]
  clear e
  generalize S.getD j default = d
  by_cases h : y = d.2
  · simp [h]
  · rw [if_neg h, List.map_append, List.map_singleton]
    congr 1
    simp only [List.mem_append, List.mem_singleton, h, or_false]
theorem unseen (S : List (Int × Int)) (j : Nat) (hj : j ≤ S.length) (m k : Int) (h : ∀ i, i < j → (S.getD i default).1 < k ∨ ((S.getD i default).1 = k ∧ (S.getD i default).2 < m)) (hd : ∀ i, i < j → (S.getD i default).2 ≠ m) : decide (m ∈ (S.take j).map Prod.snd) = false := by
  simp only [decide_eq_false_iff_not]
  intro hmem
  obtain ⟨p, hp, rfl⟩ := List.mem_map.1 hmem
  obtain ⟨i, hi, rfl⟩ := List.getElem_of_mem hp
  rw [List.length_take] at hi
  have := hd i (by omega)
  apply this
  simp [List.getD, show i < S.length by omega]
theorem srt_tags (zs : List Int) (k i j : Nat) (hi : i < j) (hj : j < k) : ((Hm.srt kk (tg zs k)).getD i default).2 ≠ ((Hm.srt kk (tg zs k)).getD j default).2 := by
  have hl := Hm.srt_length (kf := kk) (tg zs k)
  rw [tg_length] at hl
  have hp := Hm.srt_perm (kf := kk) (tg zs k).length (tg zs k) rfl
  have hn : (tg zs k).Pairwise (fun a b => a.2 ≠ b.2) := (tg_tags zs k).imp fun h => by omega
  have hS := (hp.symm.pairwise_iff (R := fun (a b : Int × Int) => a.2 ≠ b.2) (fun h e => h e.symm)).1 hn
  have h1 := List.pairwise_iff_getElem.1 hS i j (by omega) (by omega) hi
  simpa [List.getD, show i < (Hm.srt kk (tg zs k)).length by omega, show j < (Hm.srt kk (tg zs k)).length by omega] using h1
/-- Backwards: the keys turned round. -/
theorem back_keys (zs : List Int) (k i : Nat) (hi : i < k) : ((Hm.srt (fun x => - x.1) (tg zs k)).getD i default).1 = ((Hm.srt kk (tg zs k)).getD (k - 1 - i) default).1 := by
  have h := Hm.mirror (kf := kk) (tg zs k)
  have l1 := Hm.srt_length (kf := kk) (tg zs k)
  have l2 := Hm.srt_length (kf := fun x : Int × Int => - x.1) (tg zs k)
  rw [tg_length] at l1 l2
  have h1 : ((Hm.srt (fun x => - kk x) (tg zs k)).map kk)[i]? = (((Hm.srt kk (tg zs k)).map kk).reverse)[i]? := by rw [h]
  rw [List.getElem?_reverse (by simp; omega), List.length_map, l1] at h1
  simp only [List.getElem?_map] at h1
  have e : (fun x : Int × Int => - kk x) = fun x => - x.1 := rfl
  rw [e] at h1
  rw [List.getElem?_eq_getElem (by omega), List.getElem?_eq_getElem (by omega)] at h1
  simp only [Option.map_some, Option.some.injEq] at h1
  simpa [List.getD, show i < (Hm.srt (fun x : Int × Int => - x.1) (tg zs k)).length by omega, show k - 1 - i < (Hm.srt kk (tg zs k)).length by omega, kk] using h1
theorem srt_again (zs : List Int) (k : Nat) : Hm.srt kk (Hm.srt kk (tg zs k)) = Hm.srt kk (tg zs k) := Hm.srt_same _ (Hm.srt_rises _ _ rfl)
end Go.Proofs.Ytfghcjhfbbdanaa
