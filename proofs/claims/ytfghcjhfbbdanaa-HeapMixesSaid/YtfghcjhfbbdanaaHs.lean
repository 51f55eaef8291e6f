/- A heap in memory: a block with an order, a list and a count; the list's block. -/
import Derived.Test.YtfghcjhfbbdanaaHa
import Derived.Test.YtfghcjhfbbdanaaTwo
import Derived.Test.YtfghcjhfbbdanaaRg
set_option linter.unusedVariables false
namespace Go.Proofs.Ytfghcjhfbbdanaa
open Go.RowKit

abbrev Ent := (Int × Int) × Int
/-- Things with their turns, as cells. -/
def encs : List Ent → List Value
  | [] => []
  | e :: r => .int .i64 e.1.1 :: .int .i64 e.1.2 :: .int .i64 e.2 :: encs r
theorem encs_length : ∀ L : List Ent, (encs L).length = L.length * 3
  | [] => rfl
  | e :: r => by simp only [encs, List.length_cons, encs_length r]; omega
theorem encs_append : ∀ L M : List Ent, encs (L ++ M) = encs L ++ encs M
  | [], M => rfl
  | e :: r, M => by simp only [encs, List.cons_append, encs_append r M]
theorem encs_at : ∀ (L : List Ent) (i : Nat), i < L.length → (encs L)[i * 3]? = some (.int .i64 (Hm.g L i).1.1) ∧ (encs L)[i * 3 + 1]? = some (.int .i64 (Hm.g L i).1.2) ∧ (encs L)[i * 3 + 2]? = some (.int .i64 (Hm.g L i).2)
  | [], i, h => by simp at h
  | e :: r, 0, h => ⟨rfl, rfl, rfl⟩
  | e :: r, i + 1, h => by
    have ih := encs_at r i (by simpa using h)
    have e1 : (i + 1) * 3 = i * 3 + 1 + 1 + 1 := by omega
    rw [e1]
    simp only [encs, List.getElem?_cons_succ, show i * 3 + 1 + 1 + 1 + 1 = (i * 3 + 1) + 1 + 1 + 1 from rfl, show i * 3 + 1 + 1 + 1 + 2 = (i * 3 + 2) + 1 + 1 + 1 from rfl]
    exact ih
theorem encs_set : ∀ (L : List Ent) (i : Nat) (x : Ent), i < L.length → encs (L.set i x) = (((encs L).set (i * 3) (.int .i64 x.1.1)).set (i * 3 + 1) (.int .i64 x.1.2)).set (i * 3 + 2) (.int .i64 x.2)
  | [], i, x, h => by simp at h
  | e :: r, 0, x, h => rfl
  | e :: r, i + 1, x, h => by
    have ih := encs_set r i x (by simpa using h)
    have e1 : (i + 1) * 3 = i * 3 + 1 + 1 + 1 := by omega
    rw [e1]
    simp only [List.set_cons_succ, encs, show i * 3 + 1 + 1 + 1 + 1 = (i * 3 + 1) + 1 + 1 + 1 from rfl, show i * 3 + 1 + 1 + 1 + 2 = (i * 3 + 2) + 1 + 1 + 1 from rfl, ih]
theorem encs_take (L : List Ent) (n : Nat) (h : n ≤ L.length) : encs (L.take n) = (encs L).take (n * 3) := by
  have h1 := encs_append (L.take n) (L.drop n)
  rw [List.take_append_drop] at h1
  rw [h1, List.take_left' (by rw [encs_length, List.length_take]; omega)]
theorem encs_one (L : List Ent) : ∀ u ∈ encs L, u.oneCell' = true := by
  induction L with
  | nil => intro u h; simp [encs] at h
  | cons e r ih =>
    intro u h
    simp only [encs, List.mem_cons] at h
    rcases h with rfl | rfl | rfl | h
    · rfl
    · rfl
    · rfl
    · exact ih u h

theorem Turned.refl (R : Nat → Prop) (w : World) : Turned R w w := ⟨rfl, rfl, rfl, Nat.le_refl _, fun _ _ _ => rfl⟩
theorem Turned.trans {R S T : Nat → Prop} {a b c : World} (h : Turned R a b) (k : Turned S b c) (h1 : ∀ i, i < a.heap.size → R i → T i) (h2 : ∀ i, i < a.heap.size → S i → T i) : Turned T a c :=
  ⟨k.os.trans h.os, k.tape.trans h.tape, k.output.trans h.output, Nat.le_trans h.size k.size, fun i hi hn =>
    (k.block i (Nat.lt_of_lt_of_le hi h.size) (fun e => hn (h2 i hi e))).trans (h.block i hi (fun e => hn (h1 i hi e)))⟩
theorem Turned.of_below {R : Nat → Prop} {w w' : World} (h : Below w.heap.size w w') : Turned R w w' := ⟨h.os, h.tape, h.output, h.size, fun k hk _ => h.block k hk⟩
theorem Turned.of_grown {w w' : World} {row : Option Nat} (h : w.grownBy w' row) : Turned (fun k => some k = row) w w' := ⟨h.os, h.tape, h.output, h.size, fun k hk hn => h.block k hk hn⟩
theorem Turned.mono {R S : Nat → Prop} {w w' : World} (h : Turned R w w') (hs : ∀ i, i < w.heap.size → R i → S i) : Turned S w w' := ⟨h.os, h.tape, h.output, h.size, fun k hk hn => h.block k hk (fun e => hn (hs k hk e))⟩
theorem Turned.below {R : Nat → Prop} {w w' : World} (h : Turned R w w') {B : Nat} (hB : ∀ k, k < B → ¬ R k) (hs : B ≤ w.heap.size) : Below B w w' := ⟨h.os, h.tape, h.output, h.size, fun k hk => h.block k (Nat.lt_of_lt_of_le hk hs) (hB k hk)⟩
theorem Turned.owns {R : Nat → Prop} {w w' : World} (h : Turned R w w') {base : Nat} {e : TypeId} {size : Nat} {v : Value} {n : Nat} {xs : List Value} (ho : w.ownsRow base e size v n xs) (hn : ∀ g, v.ownBlock = some g → ¬ R g) : w'.ownsRow base e size v n xs := by
  refine ⟨ho.1, ?_⟩
  rcases ho.2 with h1 | ⟨g, cap, cur, rfl, hb, hg, r⟩
  · exact .inl h1
  · exact .inr ⟨g, cap, cur, rfl, hb, h.old hg (hn g rfl), r⟩
theorem Turned.gath {R : Nat → Prop} {w w' : World} (h : Turned R w w') {base : Nat} {e : TypeId} {size : Nat} {v : Value} {n : Nat} {xs : List Value} (ho : Gath w base e size v n xs) (hn : ∀ g, w.ownsRow base e size v n xs → v.ownBlock = some g → ¬ R g) : Gath w' base e size v n xs := by
  rcases ho with h1 | h1
  · exact .inl h1
  · exact .inr (h.owns h1 (fun g => hn g h1))

/-- A heap in block hb, its list in block lb. -/
structure HMem (K lo hb lb : Nat) (w : World) (v : Value) (L : List Ent) (puts : Int) : Prop where
  box : w.heap[hb]? = some (.cells #[.func (.func K) #[] #[], v, .int .i64 puts] 48 (0, 0))
  own : w.ownsRow lo 50 3 v L.length (encs L)
  row : ∀ g, v.ownBlock = some g → g = lb
  low : lo ≤ hb
  lt : lb < w.heap.size
  real : v.ownBlock = some lb ∨ lb = hb
theorem HMem.turned {K lo hb lb : Nat} {w w' : World} {v : Value} {L : List Ent} {puts : Int} (h : HMem K lo hb lb w v L puts) {R : Nat → Prop} (ht : Turned R w w') (h1 : ¬ R hb) (h2 : ¬ R lb) : HMem K lo hb lb w' v L puts :=
  ⟨ht.old h.box h1, ht.owns h.own (fun g hg => by rw [h.row g hg]; exact h2), h.row, h.low, Nat.lt_of_lt_of_le h.lt ht.size, h.real⟩
theorem HMem.below {K lo hb lb : Nat} {w w' : World} {v : Value} {L : List Ent} {puts : Int} (h : HMem K lo hb lb w v L puts) (hb' : Below w.heap.size w w') : HMem K lo hb lb w' v L puts :=
  h.turned (R := fun _ => False) (Turned.of_below hb') id id
theorem HMem.shape {K lo hb lb : Nat} {w : World} {v : Value} {L : List Ent} {puts : Int} (h : HMem K lo hb lb w v L puts) : (v = .slice none 0 0 ∧ L = []) ∨ ∃ cap cur, v = .slice (some ⟨lb, 0, none⟩) L.length cap ∧ lo ≤ lb ∧ w.heap[lb]? = some (.cells cur 50 (0, 0)) ∧ L.length ≤ cap ∧ cap ≤ maxLen ∧ cur.size = cap * 3 ∧ cur.toList.take (L.length * 3) = encs L ∧ lb ≠ hb := by
  rcases h.own.2 with ⟨h1, h2⟩ | ⟨g, cap, cur, hv, hb', hg, r⟩
  · exact .inl ⟨h1, List.length_eq_zero_iff.1 h2⟩
  · have : g = lb := h.row g (by rw [hv]; rfl)
    subst this
    refine .inr ⟨cap, cur, hv, hb', hg, r.1, r.2.1, r.2.2.1, r.2.2.2, fun e => ?_⟩
    subst e
    have := h.box
    rw [hg] at this
    simp at this
theorem HMem.cells {K lo hb lb : Nat} {w : World} {v : Value} {L : List Ent} {puts : Int} (h : HMem K lo hb lb w v L puts) {i : Nat} (hi : i < L.length) :
    w.cell? ⟨lb, i * 3, none⟩ = some (.int .i64 (Hm.g L i).1.1) ∧ w.cell? ⟨lb, i * 3 + 1, none⟩ = some (.int .i64 (Hm.g L i).1.2) ∧ w.cell? ⟨lb, i * 3 + 2, none⟩ = some (.int .i64 (Hm.g L i).2) := by
  rcases h.shape with ⟨_, rfl⟩ | ⟨cap, cur, rfl, _, hg, hn, _, hcs, ht, _⟩
  · simp at hi
  · obtain ⟨e1, e2, e3⟩ := encs_at L i hi
    have key : ∀ j u, j < L.length * 3 → (encs L)[j]? = some u → w.cell? ⟨lb, j, none⟩ = some u := by
      intro j u hj hu
      refine heap_cell hg ?_
      rw [← ht, List.getElem?_take_of_lt hj] at hu
      simpa using hu
    exact ⟨key _ _ (by omega) e1, key _ _ (by omega) e2, key _ _ (by omega) e3⟩
/-- The list has one thing stored at a place. -/
theorem HMem.stored {K lo hb lb : Nat} {w : World} {v : Value} {L : List Ent} {puts : Int} (h : HMem K lo hb lb w v L puts) {i : Nat} (hi : i < L.length) (x : Ent) :
    HMem K lo hb lb (((w.setCell ⟨lb, i * 3, none⟩ (.int .i64 x.1.1)).setCell ⟨lb, i * 3 + 1, none⟩ (.int .i64 x.1.2)).setCell ⟨lb, i * 3 + 2, none⟩ (.int .i64 x.2)) v (L.set i x) puts ∧
    Turned (fun k => k = lb) w (((w.setCell ⟨lb, i * 3, none⟩ (.int .i64 x.1.1)).setCell ⟨lb, i * 3 + 1, none⟩ (.int .i64 x.1.2)).setCell ⟨lb, i * 3 + 2, none⟩ (.int .i64 x.2)) := by
  rcases h.shape with ⟨_, rfl⟩ | ⟨cap, cur, rfl, hlo, hg, hn, hm, hcs, ht, hne⟩
  · simp at hi
  · have s1 := heap_set hg (i * 3) (.int .i64 x.1.1)
    have s2 := heap_set s1 (i * 3 + 1) (.int .i64 x.1.2)
    have s3 := heap_set s2 (i * 3 + 2) (.int .i64 x.2)
    have g3 := ((grown_set w lb (i * 3) (.int .i64 x.1.1)).trans (grown_set _ lb (i * 3 + 1) (.int .i64 x.1.2))).trans (grown_set _ lb (i * 3 + 2) (.int .i64 x.2))
    refine ⟨⟨?_, ⟨by rw [encs_length], .inr ⟨lb, cap, _, by rw [List.length_set], hlo, s3, by rw [List.length_set]; exact hn, hm, by simpa using hcs, ?_⟩⟩, h.row, h.low, Nat.lt_of_lt_of_le h.lt g3.size, h.real⟩, (Turned.of_grown g3).mono (fun k _ e => by simpa using e)⟩
    · exact (g3.block hb (heap_lt h.box) (by simp; exact fun e => hne e.symm)).trans h.box
    · rw [List.length_set, encs_set L i x hi, ← ht]
      simp only [Array.toList_setIfInBounds, List.take_set]
/-- The count is another. -/
theorem HMem.counted {K lo hb lb : Nat} {w : World} {v : Value} {L : List Ent} {puts : Int} (h : HMem K lo hb lb w v L puts) (p : Int) :
    HMem K lo hb lb (w.setCell ⟨hb, 2, none⟩ (.int .i64 p)) v L p ∧ Turned (fun k => k = hb) w (w.setCell ⟨hb, 2, none⟩ (.int .i64 p)) := by
  have ht : Turned (fun k => k = hb) w (w.setCell ⟨hb, 2, none⟩ (.int .i64 p)) := (Turned.of_grown (grown_set w hb 2 (.int .i64 p))).mono (fun k _ e => by simpa using e)
  refine ⟨⟨heap_set h.box 2 (.int .i64 p), ht.owns h.own (fun g hg e => ?_), h.row, h.low, Nat.lt_of_lt_of_le h.lt ht.size, h.real⟩, ht⟩
  have h1 := h.row g hg
  rcases h.shape with ⟨rfl, _⟩ | ⟨cap, cur, rfl, _, _, _, _, _, _, hne⟩
  · simp [Value.ownBlock] at hg
  · exact hne (by rw [← h1, e])
/-- The list is another one. -/
theorem HMem.appended {K lo hb lb g cap : Nat} {V w1 : World} {v : Value} {L : List Ent} {p : Int} {x : Ent} (h : HMem K lo hb lb V v L p)
    (hown : w1.ownsRow lo 50 3 (.slice (some ⟨g, 0, none⟩) (L.length + 1) cap) (L.length + 1) (encs L ++ encs [x])) (hg : V.grownBy w1 v.ownBlock) (hw : v.ownBlock = some g ∨ V.heap.size ≤ g) :
    w1.heap[hb]? = some (.cells #[.func (.func K) #[] #[], v, .int .i64 p] 48 (0, 0)) ∧
    HMem K lo hb g (w1.setCell ⟨hb, 1, none⟩ (.slice (some ⟨g, 0, none⟩) (L.length + 1) cap)) (.slice (some ⟨g, 0, none⟩) (L.length + 1) cap) (L ++ [x]) p ∧ (g = lb ∨ V.heap.size ≤ g) ∧
    Turned (fun k => k = hb ∨ k = lb) V (w1.setCell ⟨hb, 1, none⟩ (.slice (some ⟨g, 0, none⟩) (L.length + 1) cap)) := by
  have hne : v.ownBlock ≠ some hb := by
    intro e
    have h1 := h.row hb e
    rcases h.shape with ⟨rfl, _⟩ | ⟨_, _, _, _, _, _, _, _, _, hn⟩
    · simp [Value.ownBlock] at e
    · exact hn h1.symm
  have hbox := heap_kept h.box hg (fun e => hne e.symm)
  have hgh : ∃ cur, w1.heap[g]? = some (.cells cur 50 (0, 0)) := by
    rcases hown.2 with ⟨h1, _⟩ | ⟨g', _, cur, h1, _, h2, _⟩
    · simp at h1
    · simp at h1; rw [h1.1]; exact ⟨cur, h2⟩
  obtain ⟨cur, hcur⟩ := hgh
  have hgb : g ≠ hb := by
    intro e
    subst e
    rw [hcur] at hbox
    simp at hbox
  have t1 : Turned (fun k => k = hb ∨ k = lb) V w1 := (Turned.of_grown hg).mono (fun k _ e => .inr (h.row k e.symm))
  have t2 : Turned (fun k => k = hb) w1 (w1.setCell ⟨hb, 1, none⟩ (.slice (some ⟨g, 0, none⟩) (L.length + 1) cap)) := (Turned.of_grown (grown_set w1 hb 1 _)).mono (fun k _ e => by simpa using e)
  refine ⟨hbox, ⟨heap_set hbox 1 _, ?_, fun j hj => by simp [Value.ownBlock] at hj; exact hj.symm, h.low, Nat.lt_of_lt_of_le (heap_lt hcur) t2.size, .inl rfl⟩, hw.imp (fun e => h.row g e) id, t1.trans t2 (fun _ _ e => e) (fun _ _ e => .inl e)⟩
  rw [encs_append, List.length_append]
  exact t2.owns hown (fun j hj e => hgb (by simp [Value.ownBlock] at hj; rw [hj, e]))
/-- What is no part of the heap. -/
theorem HMem.other {K lo hb lb : Nat} {w : World} {v : Value} {L : List Ent} {puts : Int} (h : HMem K lo hb lb w v L puts) {k : Nat} {o : Obj} (ho : w.heap[k]? = some o)
    (h1 : ∀ cs fr, o ≠ .cells cs 48 fr) (h2 : ∀ cs fr, o ≠ .cells cs 50 fr) : ¬ (k = hb ∨ k = lb) := by
  have hk : k ≠ hb := by
    intro e
    subst e
    rw [h.box] at ho
    cases ho
    exact h1 _ _ rfl
  rintro (e | e)
  · exact hk e
  · rcases h.real with hr | hr
    · rcases h.shape with ⟨rfl, _⟩ | ⟨cap, cur, rfl, _, hg, _⟩
      · simp [Value.ownBlock] at hr
      · subst e
        rw [hg] at ho
        cases ho
        exact h2 _ _ rfl
    · exact hk (e.trans hr)
end Go.Proofs.Ytfghcjhfbbdanaa
