/- A heap of numbers in memory. -/
import Derived.Test.YtfghcjhfbbdanaaIa
import Derived.Test.YtfghcjhfbbdanaaHo
set_option linter.unusedVariables false
namespace Go.Proofs.Ytfghcjhfbbdanaa.Ii
open Go.RowKit

abbrev Ent := Int × Int
/-- Things with their turns, as cells. -/
def encs : List Ent → List Value
  | [] => []
  | e :: r => .int .i64 e.1 :: .int .i64 e.2 :: encs r
theorem encs_length : ∀ L : List Ent, (encs L).length = L.length * 2
  | [] => rfl
  | e :: r => by simp only [encs, List.length_cons, encs_length r]; omega
theorem encs_append : ∀ L M : List Ent, encs (L ++ M) = encs L ++ encs M
  | [], M => rfl
  | e :: r, M => by simp only [encs, List.cons_append, encs_append r M]
theorem encs_at : ∀ (L : List Ent) (i : Nat), i < L.length → (encs L)[i * 2]? = some (.int .i64 (Hm.g L i).1) ∧ (encs L)[i * 2 + 1]? = some (.int .i64 (Hm.g L i).2)
  | [], i, h => by simp at h
  | e :: r, 0, h => ⟨rfl, rfl⟩
  | e :: r, i + 1, h => by
    have ih := encs_at r i (by simpa using h)
    have e1 : (i + 1) * 2 = i * 2 + 1 + 1 := by omega
    rw [e1]
    simp only [encs, List.getElem?_cons_succ]
    exact ih
theorem encs_set : ∀ (L : List Ent) (i : Nat) (x : Ent), i < L.length → encs (L.set i x) = ((encs L).set (i * 2) (.int .i64 x.1)).set (i * 2 + 1) (.int .i64 x.2)
  | [], i, x, h => by simp at h
  | e :: r, 0, x, h => rfl
  | e :: r, i + 1, x, h => by
    have ih := encs_set r i x (by simpa using h)
    have e1 : (i + 1) * 2 = i * 2 + 1 + 1 := by omega
    rw [e1]
    simp only [List.set_cons_succ, encs, ih]
theorem encs_one (L : List Ent) : ∀ u ∈ encs L, u.oneCell' = true := by
  induction L with
  | nil => intro u h; simp [encs] at h
  | cons e r ih =>
    intro u h
    simp only [encs, List.mem_cons] at h
    rcases h with rfl | rfl | h
    · rfl
    · rfl
    · exact ih u h

/-- A heap in block hb, its list in block lb. -/
structure HMem (K lo hb lb : Nat) (w : World) (v : Value) (L : List Ent) (puts : Int) : Prop where
  box : w.heap[hb]? = some (.cells #[.func (.func K) #[] #[], v, .int .i64 puts] 63 (0, 0))
  own : w.ownsRow lo 65 2 v L.length (encs L)
  row : ∀ g, v.ownBlock = some g → g = lb
  low : lo ≤ hb
  lt : lb < w.heap.size
theorem HMem.turned {K lo hb lb : Nat} {w w' : World} {v : Value} {L : List Ent} {puts : Int} (h : HMem K lo hb lb w v L puts) {R : Nat → Prop} (ht : Turned R w w') (h1 : ¬ R hb) (h2 : ¬ R lb) : HMem K lo hb lb w' v L puts :=
  ⟨ht.old h.box h1, ht.owns h.own (fun g hg => by rw [h.row g hg]; exact h2), h.row, h.low, Nat.lt_of_lt_of_le h.lt ht.size⟩
theorem HMem.below {K lo hb lb : Nat} {w w' : World} {v : Value} {L : List Ent} {puts : Int} (h : HMem K lo hb lb w v L puts) (hb' : Below w.heap.size w w') : HMem K lo hb lb w' v L puts :=
  h.turned (R := fun _ => False) (Turned.of_below hb') id id
theorem HMem.shape {K lo hb lb : Nat} {w : World} {v : Value} {L : List Ent} {puts : Int} (h : HMem K lo hb lb w v L puts) : (v = .slice none 0 0 ∧ L = []) ∨ ∃ cap cur, v = .slice (some ⟨lb, 0, none⟩) L.length cap ∧ lo ≤ lb ∧ w.heap[lb]? = some (.cells cur 65 (0, 0)) ∧ L.length ≤ cap ∧ cap ≤ maxLen ∧ cur.size = cap * 2 ∧ cur.toList.take (L.length * 2) = encs L ∧ lb ≠ hb := by
  rcases h.own.2 with ⟨h1, h2⟩ | ⟨g, cap, cur, hv, hb', hg, r⟩
  · exact .inl ⟨h1, List.length_eq_zero_iff.1 h2⟩
  · have : g = lb := h.row g (by rw [hv]; rfl)
    subst this
    refine .inr ⟨cap, cur, hv, hb', hg, r.1, r.2.1, r.2.2.1, r.2.2.2, fun e => ?_⟩
    subst e
    have := h.box
    rw [hg] at this
    simp at this
theorem HMem.cells {K lo hb lb : Nat} {w : World} {v : Value} {L : List Ent} {puts : Int} (h : HMem K lo hb lb w v L puts) {i : Nat} (hi : i < L.length) :
    w.cell? ⟨lb, i * 2, none⟩ = some (.int .i64 (Hm.g L i).1) ∧ w.cell? ⟨lb, i * 2 + 1, none⟩ = some (.int .i64 (Hm.g L i).2) := by
  rcases h.shape with ⟨_, rfl⟩ | ⟨cap, cur, rfl, _, hg, hn, _, hcs, ht, _⟩
  · simp at hi
  · obtain ⟨e1, e2⟩ := encs_at L i hi
    have key : ∀ j u, j < L.length * 2 → (encs L)[j]? = some u → w.cell? ⟨lb, j, none⟩ = some u := by
      intro j u hj hu
      refine heap_cell hg ?_
      rw [← ht, List.getElem?_take_of_lt hj] at hu
      simpa using hu
    exact ⟨key _ _ (by omega) e1, key _ _ (by omega) e2⟩
/-- The list has one thing stored at a place. -/
theorem HMem.stored {K lo hb lb : Nat} {w : World} {v : Value} {L : List Ent} {puts : Int} (h : HMem K lo hb lb w v L puts) {i : Nat} (hi : i < L.length) (x : Ent) :
    HMem K lo hb lb ((w.setCell ⟨lb, i * 2, none⟩ (.int .i64 x.1)).setCell ⟨lb, i * 2 + 1, none⟩ (.int .i64 x.2)) v (L.set i x) puts ∧
    Turned (fun k => k = lb) w ((w.setCell ⟨lb, i * 2, none⟩ (.int .i64 x.1)).setCell ⟨lb, i * 2 + 1, none⟩ (.int .i64 x.2)) := by
  rcases h.shape with ⟨_, rfl⟩ | ⟨cap, cur, rfl, hlo, hg, hn, hm, hcs, ht, hne⟩
  · simp at hi
  · have s1 := heap_set hg (i * 2) (.int .i64 x.1)
    have s2 := heap_set s1 (i * 2 + 1) (.int .i64 x.2)
    have g3 := (grown_set w lb (i * 2) (.int .i64 x.1)).trans (grown_set _ lb (i * 2 + 1) (.int .i64 x.2))
    refine ⟨⟨?_, ⟨by rw [encs_length], .inr ⟨lb, cap, _, by rw [List.length_set], hlo, s2, by rw [List.length_set]; exact hn, hm, by simpa using hcs, ?_⟩⟩, h.row, h.low, Nat.lt_of_lt_of_le h.lt g3.size⟩, (Turned.of_grown g3).mono (fun k _ e => by simpa using e)⟩
    · exact (g3.block hb (heap_lt h.box) (by simp; exact fun e => hne e.symm)).trans h.box
    · rw [List.length_set, encs_set L i x hi, ← ht]
      simp only [Array.toList_setIfInBounds, List.take_set]
/-- The count is another. -/
theorem HMem.counted {K lo hb lb : Nat} {w : World} {v : Value} {L : List Ent} {puts : Int} (h : HMem K lo hb lb w v L puts) (p : Int) :
    HMem K lo hb lb (w.setCell ⟨hb, 2, none⟩ (.int .i64 p)) v L p ∧ Turned (fun k => k = hb) w (w.setCell ⟨hb, 2, none⟩ (.int .i64 p)) := by
  have ht : Turned (fun k => k = hb) w (w.setCell ⟨hb, 2, none⟩ (.int .i64 p)) := (Turned.of_grown (grown_set w hb 2 (.int .i64 p))).mono (fun k _ e => by simpa using e)
  refine ⟨⟨heap_set h.box 2 (.int .i64 p), ht.owns h.own (fun g hg e => ?_), h.row, h.low, Nat.lt_of_lt_of_le h.lt ht.size⟩, ht⟩
  have h1 := h.row g hg
  rcases h.shape with ⟨rfl, _⟩ | ⟨cap, cur, rfl, _, _, _, _, _, _, hne⟩
  · simp [Value.ownBlock] at hg
  · exact hne (by rw [← h1, e])
/-- The list is another one. -/
theorem HMem.appended {K lo hb lb g cap : Nat} {V w1 : World} {v : Value} {L : List Ent} {p : Int} {x : Ent} (h : HMem K lo hb lb V v L p)
    (hown : w1.ownsRow lo 65 2 (.slice (some ⟨g, 0, none⟩) (L.length + 1) cap) (L.length + 1) (encs L ++ encs [x])) (hg : V.grownBy w1 v.ownBlock) (hw : v.ownBlock = some g ∨ V.heap.size ≤ g) :
    w1.heap[hb]? = some (.cells #[.func (.func K) #[] #[], v, .int .i64 p] 63 (0, 0)) ∧
    HMem K lo hb g (w1.setCell ⟨hb, 1, none⟩ (.slice (some ⟨g, 0, none⟩) (L.length + 1) cap)) (.slice (some ⟨g, 0, none⟩) (L.length + 1) cap) (L ++ [x]) p ∧ (g = lb ∨ V.heap.size ≤ g) ∧
    Turned (fun k => k = hb ∨ k = lb) V (w1.setCell ⟨hb, 1, none⟩ (.slice (some ⟨g, 0, none⟩) (L.length + 1) cap)) := by
  have hne : v.ownBlock ≠ some hb := by
    intro e
    have h1 := h.row hb e
    rcases h.shape with ⟨rfl, _⟩ | ⟨_, _, _, _, _, _, _, _, _, hn⟩
    · simp [Value.ownBlock] at e
    · exact hn h1.symm
  have hbox := heap_kept h.box hg (fun e => hne e.symm)
  have hgh : ∃ cur, w1.heap[g]? = some (.cells cur 65 (0, 0)) := by
    rcases hown.2 with ⟨h1, _⟩ | ⟨g', _, cur, h1, _, h2, _⟩
    · simp at h1
    · simp at h1; rw [h1.1]; exact ⟨cur, h2⟩
  obtain ⟨cur, hcur⟩ := hgh
  have hgb : g ≠ hb := by
    intro e
    subst e
    rw [hcur] at hbox
    simp at hbox
  have t1 : Turned (fun k => k = hb ∨ k = lb) V w1 := (Turned.of_grown hg).mono (fun k _ e => .inr (h.row k e.symm))
  have t2 : Turned (fun k => k = hb) w1 (w1.setCell ⟨hb, 1, none⟩ (.slice (some ⟨g, 0, none⟩) (L.length + 1) cap)) := (Turned.of_grown (grown_set w1 hb 1 _)).mono (fun k _ e => by simpa using e)
  refine ⟨hbox, ⟨heap_set hbox 1 _, ?_, fun j hj => by simp [Value.ownBlock] at hj; exact hj.symm, h.low, Nat.lt_of_lt_of_le (heap_lt hcur) t2.size⟩, hw.imp (fun e => h.row g e) id, t1.trans t2 (fun _ _ e => e) (fun _ _ e => .inl e)⟩
  rw [encs_append, List.length_append]
  exact t2.owns hown (fun j hj e => hgb (by simp [Value.ownBlock] at hj; rw [hj, e]))
end Go.Proofs.Ytfghcjhfbbdanaa.Ii
