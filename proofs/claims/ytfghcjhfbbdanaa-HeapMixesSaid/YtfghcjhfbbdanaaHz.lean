/- Contracts: what is taken out, and a list in order. -/
import Derived.Test.YtfghcjhfbbdanaaHy
import Derived.Maps.AppendAt
set_option linter.unusedVariables false
namespace Go.Proofs.Ytfghcjhfbbdanaa
open Go.RowKit Go.Shelf

attribute [local go_sem] Oper.semAt_some

/-- Things as cells. -/
def its : List (Int × Int) → List Value
  | [] => []
  | x :: r => .int .i64 x.1 :: .int .i64 x.2 :: its r
theorem its_length : ∀ l : List (Int × Int), (its l).length = l.length * 2
  | [] => rfl
  | x :: r => by simp only [its, List.length_cons, its_length r]; omega
theorem its_append : ∀ l m : List (Int × Int), its (l ++ m) = its l ++ its m
  | [], m => rfl
  | x :: r, m => by simp only [its, List.cons_append, its_append r m]
theorem its_one (x : Int × Int) : ∀ u ∈ its [x], u.oneCell' = true := by
  intro u h
  simp [its] at h
  rcases h with rfl | rfl <;> rfl
theorem cell_two (w : World) (x : Int × Int) (e : TypeId) : ∀ j u, (its [x])[j]? = some u → (w.alloc (.cells #[.int .i64 x.1, .int .i64 x.2] e)).cell? ((⟨w.heap.size, 0, none⟩ : Addr).add j) = some u := by
  intro j u hj
  match j, hj with
  | 0, hj => simp [its] at hj; subst hj; simp [Addr.add, go_sem]
  | 1, hj => simp [its] at hj; subst hj; simp [Addr.add, go_sem]
  | j + 2, hj => simp [its] at hj

/-- What has come lies in a slice of its own. -/
structure DrI (w : World) (hb lb hi B5 : Nat) (pre : List (Int × Int)) (W : World) : Prop where
  box : ∃ v, Boxed W B5 24 v ∧ Gath W hi 26 2 v pre.length (its pre)
  frame : Turned (fun k => k = hb ∨ k = lb) w W
  size : hi ≤ W.heap.size
theorem DrI.own {w : World} {hb lb hi B5 : Nat} (hw : w.heap.size ≤ hi) : OwnFrom hi (fun pre W => DrI w hb lb hi B5 pre W) := by
  intro pre A B row h hg hr
  obtain ⟨⟨v, h1, h2⟩, h3, h4⟩ := h
  refine ⟨⟨v, boxed_kept h1 hg (fun r e => (hr r e).2), gath_kept h2 hg (fun r e => (hr r e).2)⟩, ?_, Nat.le_trans h4 hg.size⟩
  exact h3.trans (Turned.of_grown hg) (fun _ _ e => e) (fun i hi' e => by have := (hr i e.symm).1; omega)
theorem gath_turned {R : Nat → Prop} {A B : World} {hi : Nat} {e : TypeId} {size : Nat} {v : Value} {n : Nat} {xs : List Value} (h : Gath A hi e size v n xs) (ht : Turned R A B) (hR : ∀ k, R k → k < hi) : Gath B hi e size v n xs :=
  ht.gath h (fun g ho hg e => by
    rcases ho.2 with ⟨rfl, _⟩ | ⟨g', _, _, rfl, hb, _⟩
    · simp [Value.ownBlock] at hg
    · have : g' = g := by simpa [Value.ownBlock] using hg
      have := hR g e
      omega)
theorem boxed_turned {R : Nat → Prop} {A B : World} {b : Nat} {t : TypeId} {v : Value} (h : Boxed A b t v) (ht : Turned R A B) (hb : ¬ R b) : Boxed B b t v := ht.old h hb
theorem DrI.turned {w : World} {hb lb hi B5 : Nat} {pre : List (Int × Int)} {A B : World} (h : DrI w hb lb hi B5 pre A) (ht : Turned (fun k => k = hb ∨ k = lb) A B) (h1 : hb < hi) (h2 : lb < hi) (h3 : B5 ≠ hb) (h4 : B5 ≠ lb) : DrI w hb lb hi B5 pre B := by
  obtain ⟨⟨v, k1, k2⟩, k3, k4⟩ := h
  exact ⟨⟨v, boxed_turned k1 ht (fun e => e.elim h3 h4), gath_turned k2 ht (fun k e => by rcases e with e | e <;> omega)⟩, k3.trans ht (fun _ _ e => e) (fun _ _ e => e), Nat.le_trans k4 ht.size⟩
theorem DrI.new {w : World} {hb lb hi B5 : Nat} {pre : List (Int × Int)} {A : World} (h : DrI w hb lb hi B5 pre A) (o : Obj) : DrI w hb lb hi B5 pre (A.alloc o) := by
  obtain ⟨⟨v, k1, k2⟩, k3, k4⟩ := h
  exact ⟨⟨v, k1.alloc o, k2.alloc o⟩, k3.trans (Turned.of_below (R := fun _ => False) ((Below.refl _ A).alloc (Nat.le_refl _) o)) (fun _ _ e => e) (fun _ _ e => e.elim), by simp; omega⟩
/-- Behind an append and the store back. -/
theorem DrI.appended {w : World} {hb lb hi B5 : Nat} {pre : List (Int × Int)} {x : Int × Int} {W w1 : World} {v v' : Value} {tmp : Obj} {row : Option Nat}
    (hv : Boxed W B5 24 v) (hf : Turned (fun k => k = hb ∨ k = lb) w W) (hs : hi ≤ W.heap.size) (hB : B5 < hi) (hw : w.heap.size ≤ B5)
    (hown : w1.ownsRow hi 26 2 v' (pre.length + 1) (its pre ++ its [x])) (hgrow : (W.alloc tmp).grownBy w1 row) (hrow : ∀ g, row = some g → hi ≤ g ∧ ∃ o : Obj, (W.alloc tmp).heap[g]? = some o ∧ o.isCells = true) :
    Boxed w1 B5 24 v ∧ DrI w hb lb hi B5 (pre ++ [x]) (w1.setCell ⟨B5, 0, none⟩ v') ∧ KeepsOthers W (w1.setCell ⟨B5, 0, none⟩ v') ∧ W.heap.size ≤ (w1.setCell ⟨B5, 0, none⟩ v').heap.size ∧ (∀ k, k < hi → k ≠ B5 → (w1.setCell ⟨B5, 0, none⟩ v').heap[k]? = W.heap[k]?) := by
  have hne : ∀ j, j < hi → some j ≠ row := fun j hj e => by have := (hrow j e.symm).1; omega
  have hb1 : Boxed w1 B5 24 v := (hv.alloc tmp).kept hgrow (hne _ hB)
  have hset := grownBy_setCell' w1 B5 v'
  have hown2 : (w1.setCell ⟨B5, 0, none⟩ v').ownsRow hi 26 2 v' (pre.length + 1) (its pre ++ its [x]) := by
    refine hown.kept hset ?_
    rcases hown.2 with ⟨rfl, _⟩ | ⟨g, cap, cur, rfl, hg, _⟩
    · exact .inl rfl
    · refine .inr fun e => ?_
      have : g = B5 := by simpa [Value.ownBlock] using e
      omega
  have hsz : W.heap.size ≤ (w1.setCell ⟨B5, 0, none⟩ v').heap.size := by
    have h1 := hgrow.size
    have h2 := hset.size
    simp at h1
    omega
  have hblk : ∀ k, k < hi → k ≠ B5 → (w1.setCell ⟨B5, 0, none⟩ v').heap[k]? = W.heap[k]? := by
    intro k hk hne'
    have e1 := hset.block k (by have := hgrow.size; simp at this; omega) (fun e => hne' (by cases e; rfl))
    have e2 := hgrow.block k (by simp; omega) (hne k hk)
    exact e1.trans (e2.trans (Below.heap_alloc W tmp k (by omega)))
  have hta : Turned (fun _ => False) W (W.alloc tmp) := Turned.of_below ((Below.refl W.heap.size W).alloc (Nat.le_refl _) tmp)
  refine ⟨hb1, ⟨⟨v', hb1.set v', .inr (by rw [List.length_append, List.length_singleton, its_append]; exact hown2)⟩, ?_, by omega⟩, ?_, hsz, hblk⟩
  · refine ((hf.trans hta (T := fun k => k = hb ∨ k = lb) (fun _ _ e => e) (fun _ _ e => e.elim)).trans (Turned.of_grown hgrow) (T := fun k => k = hb ∨ k = lb) (fun _ _ e => e) (fun i hi' e => ?_)).trans (Turned.of_grown hset) (fun _ _ e => e) (fun i hi' e => ?_)
    · have := (hrow i e.symm).1; omega
    · have : i = B5 := by cases e; rfl
      omega
  · refine ((KeepsOthers.alloc W tmp).trans (KeepsOthers.of_grownBy hgrow fun j o ej hj => ?_)).trans (KeepsOthers.setCell _ _ _)
    obtain ⟨_, o', ho', hc'⟩ := hrow j ej
    rw [hj] at ho'; cases ho'; exact hc'
theorem Try.infoItem : (Try.prog.info? 26).map (fun i => (i.zero, i.size, i.bytes)) = some (some (.agg #[.int .i64 0, .int .i64 0]), 2, 16) := by kernel_rfl
end Go.Proofs.Ytfghcjhfbbdanaa
