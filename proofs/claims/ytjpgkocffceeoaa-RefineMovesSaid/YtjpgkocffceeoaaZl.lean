/- Plain: what a thing gains is what the cut falls by; all parts together weigh what the graph does. -/
import Derived.Test.YtjpgkocffceeoaaZd
import Derived.Test.YtjpgkocffceeoaaZe
import Derived.Test.YtjpgkocffceeoaaZs
set_option linter.unusedVariables false
set_option linter.unusedSectionVars false
namespace Go.Proofs.Ytjpgkocffceeoaa
open Go.RowKit Rk

theorem sumTo_upd {k p : Nat} (f : Nat → Int) (v : Int) (hp : p < k) : sumTo k (upd f p v) = sumTo k f + (v - f p) := by
  induction k with
  | zero => omega
  | succ k ih =>
    simp only [sumTo]
    by_cases e : p = k
    · subst e
      rw [sumTo_congr (g := f) (fun b hb => by unfold upd; rw [if_neg (by omega)])]
      unfold upd
      rw [if_pos rfl]; omega
    · rw [ih (by omega)]
      unfold upd
      rw [if_neg (Ne.symm e)]; omega
/-- All parts together weigh what the graph does. -/
theorem wtsT_sum {ws ms : List Int} {k : Nat} (hl : ms.length = ws.length) (hp : ∀ p ∈ ms, 0 ≤ p ∧ p < (k : Int)) : ∀ j, j ≤ ws.length → sumTo k (wtsT ws ms j) = (ws.take j).sum
  | 0, _ => by simp [wtsT, sumTo_zero]
  | j + 1, hj => by
    have h1 := wtsT_sum hl hp j (by omega)
    have hjm : j < ms.length := by omega
    have h4 := hp (ms.getD j 0) (by rw [List.getD_eq_getElem?_getD, List.getElem?_eq_getElem hjm]; exact List.getElem_mem _)
    simp only [wtsT]
    rw [sumTo_upd _ _ (by omega), h1, sum_take_succ (by omega)]
    omega
theorem wtsT_all {ws ms : List Int} {k : Nat} (hl : ms.length = ws.length) (hp : ∀ p ∈ ms, 0 ≤ p ∧ p < (k : Int)) : sumTo k (wtsT ws ms ws.length) = ws.sum := by
  rw [wtsT_sum hl hp _ (Nat.le_refl _), List.take_length]
theorem sum_rowOf (n : Nat) (f : Nat → Int) (φ : Int × Int → Int) : ((rowOf n f).map φ).sum = sumTo n (fun b => if 0 < f b then φ ((b : Int), f b) else 0) := by
  induction n with
  | zero => rfl
  | succ n ih =>
    rw [rowOf_succ, List.map_append, List.sum_append, ih]
    simp only [sumTo]
    split <;> simp
/-- What is cut between two. -/
def cutC (m : Nat → Int) (F : Nat → Nat → Int) (a b : Nat) : Int := if m a = m b then 0 else F a b
def mOf (ms : List Int) (a : Nat) : Int := ms.getD a 0
theorem cuS_append (ms : List Int) (l l' : List Edg) : cuS ms (l ++ l') = cuS ms l + cuS ms l' := by simp [cuS, List.sum_append]
theorem cuS_upTo {n : Nat} {F : Nat → Nat → Int} (h : Tab n F) (ms : List Int) (k : Nat) : cuS ms (upTo n F k) = sumTo k (fun a => sumTo n (above ((a : Int) + 1) (cutC (mOf ms) F a))) := by
  induction k with
  | zero => rfl
  | succ k ih =>
    rw [upTo, cuS_append, ih]
    show _ + cuS ms ((rowOf n (above ((k : Int) + 1) (F k))).map (tag k)) = _ + _
    congr 1
    unfold cuS
    rw [List.map_map, sum_rowOf]
    refine sumTo_congr fun b hb => ?_
    have hlo := h.lo k b
    unfold above
    by_cases e : (b : Int) < (k : Int) + 1
    · simp [if_pos e]
    · simp only [if_neg e]
      unfold cutC mOf
      show (if 0 < F k b then cu1 ms (tag k ((b : Int), F k b)) else 0) = _
      by_cases e2 : 0 < F k b
      · rw [if_pos e2]
        simp [cu1, tag]
      · rw [if_neg e2]
        split
        · rfl
        · omega
theorem above_sub (k : Int) (f g : Nat → Int) (b : Nat) : above k (fun c => f c - g c) b = above k f b - above k g b := by
  unfold above
  split
  · rfl
  · rfl
/-- Where one thing alone differs, what is above is what is in its row. -/
theorem row_only {G : Nat → Nat → Int} (hs : ∀ a b, G a b = G b a) (hd : ∀ a, G a a = 0) {n i : Nat} (hi : i < n) (h : ∀ a b, a ≠ i → b ≠ i → G a b = 0) : sumTo n (fun a => sumTo n (above ((a : Int) + 1) (G a))) = sumTo n (G i) := by
  have h1 := twiceG hs hd n
  have h2 : sumTo n (fun a => sumTo n (G a)) = sumTo n (G i) + sumTo n (G i) := by
    have e : sumTo n (fun a => sumTo n (G a)) = sumTo n (fun a => (if a = i then sumTo n (G i) else 0) + G a i) := by
      refine sumTo_congr fun a ha => ?_
      by_cases e : a = i
      · subst e; rw [if_pos rfl, hd]; omega
      · rw [if_neg e, sumTo_one n i hi (G a) (fun b _ hb => h a b e hb)]; omega
    rw [e, sumTo_add, sumTo_one n i hi (fun a => if a = i then sumTo n (G i) else 0) (fun b _ hb => if_neg hb), if_pos rfl]
    congr 1
    exact sumTo_congr fun a _ => hs a i
  omega
theorem gnS_row {n : Nat} {F : Nat → Nat → Int} (h : Tab n F) (ms : List Int) (i : Nat) (tq : Int) : gnS ms i tq (rowOf n (F i)) = sumTo n (fun b => (if mOf ms b = tq then F i b else 0) - (if mOf ms b = mOf ms i then F i b else 0)) := by
  unfold gnS
  rw [sum_rowOf]
  refine sumTo_congr fun b _ => ?_
  have hlo := h.lo i b
  by_cases e : 0 < F i b
  · rw [if_pos e]; simp [gn1, mOf]
  · rw [if_neg e]; split <;> split <;> omega
/-- What the cut falls by. -/
theorem cut_gain {n : Nat} {F : Nat → Nat → Int} (h : Tab n F) {ms ms' : List Int} {i : Nat} {tq : Int} (hi : i < n) (h1 : mOf ms' i = tq) (h2 : ∀ b, b ≠ i → mOf ms' b = mOf ms b) : cuS ms (edgesD n F) - cuS ms' (edgesD n F) = gnS ms i tq (rowOf n (F i)) := by
  rw [edgesD, cuS_upTo h, cuS_upTo h, gnS_row h, ← sumTo_sub]
  have e : sumTo n (fun a => sumTo n (above ((a : Int) + 1) (cutC (mOf ms) F a)) - sumTo n (above ((a : Int) + 1) (cutC (mOf ms') F a))) = sumTo n (fun a => sumTo n (above ((a : Int) + 1) (fun b => cutC (mOf ms) F a b - cutC (mOf ms') F a b))) := by
    refine sumTo_congr fun a _ => ?_
    rw [← sumTo_sub]
    exact sumTo_congr fun b _ => (above_sub _ _ _ b).symm
  rw [e, row_only (G := fun a b => cutC (mOf ms) F a b - cutC (mOf ms') F a b) (fun a b => ?_) (fun a => ?_) hi (fun a b ha hb => ?_)]
  · refine sumTo_congr fun b _ => ?_
    have hd := h.diag i
    unfold cutC
    by_cases e : b = i
    · subst e; simp [hd]
    · rw [h1, h2 b e]
      by_cases e1 : mOf ms i = mOf ms b
      · by_cases e2 : tq = mOf ms b
        · rw [if_pos e1, if_pos e2, if_pos e2.symm, if_pos e1.symm]; omega
        · rw [if_pos e1, if_neg e2, if_neg (fun e => e2 e.symm), if_pos e1.symm]
      · by_cases e2 : tq = mOf ms b
        · rw [if_neg e1, if_pos e2, if_pos e2.symm, if_neg (fun e => e1 e.symm)]
        · rw [if_neg e1, if_neg e2, if_neg (fun e => e2 e.symm), if_neg (fun e => e1 e.symm)]; omega
  · simp only [cutC, h.sym a b, eq_comm (a := mOf ms a), eq_comm (a := mOf ms' a)]
  · simp [cutC]
  · simp [cutC, h2 a ha, h2 b hb]
/-- There and back is nothing. -/
theorem gain_back {n : Nat} {F : Nat → Nat → Int} (h : Tab n F) {ms ms' : List Int} {i : Nat} {tq : Int} (h1 : mOf ms' i = tq) (h2 : ∀ b, b ≠ i → mOf ms' b = mOf ms b) : gnS ms' i (mOf ms i) (rowOf n (F i)) = - gnS ms i tq (rowOf n (F i)) := by
  rw [gnS_row h, gnS_row h, ← sumTo_neg]
  refine sumTo_congr fun b _ => ?_
  have hd := h.diag i
  by_cases e : b = i
  · subst e; rw [hd]; simp
  · rw [h1, h2 b e]; split <;> split <;> omega
/-- All in one part. -/
theorem cut_one {n : Nat} {F : Nat → Nat → Int} (h : Tab n F) {ms : List Int} (hm : ∀ a b, a < n → b < n → mOf ms a = mOf ms b) : cuS ms (edgesD n F) = 0 := by
  rw [edgesD, cuS_upTo h]
  refine sumTo_zero _ fun a ha => sumTo_zero _ fun b hb => ?_
  unfold above cutC
  rw [if_pos (hm a b ha hb)]
  split <;> rfl
end Go.Proofs.Ytjpgkocffceeoaa
