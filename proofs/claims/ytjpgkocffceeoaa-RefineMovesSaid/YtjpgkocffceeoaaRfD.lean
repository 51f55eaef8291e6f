/- The law's own functions. -/
import Derived.Test.YtjpgkocffceeoaaRfC
import Derived.Test.YtjpgkocffceeoaaRu
import Derived.Test.YtjpgkocffceeoaaGbr
import Derived.Test.YtjpgkocffceeoaaBo
import Derived.Test.YtjpgkocffceeoaaZpa
import Derived.OpenShut
set_option linter.unusedVariables false
set_option linter.unusedSectionVars false
namespace Go.Proofs.Ytjpgkocffceeoaa.L13
open Go.RowKit Go.Shelf Rk

theorem mid_set {lo hi B o : Nat} {W : World} (h : B < lo) (u : Value) : Mid lo hi W (W.setCell ⟨B, o, none⟩ u) := Mid.set W B o u (.inl h)
/-- While pairs are gathered: what the two boxes hold, and what is gathered. -/
structure PrH (w : World) (M : Nat) (mo : Int) (lo hi : Nat) (W0 : World) (u1 u2 v1 v2 : Value) (xs ys : List Int) (b1 b2 : Option Nat) (W : World) : Prop where
  bx : Boxed W (M + 1 + 1 + 1 + 1 + 1) 24 u1
  by_ : Boxed W (M + 1 + 1 + 1 + 1 + 1 + 1) 22 u2
  bm : Boxed W M 3 (.int .i64 mo)
  br1 : Boxed W (M + 1) 24 (.slice none 0 0)
  br2 : Boxed W (M + 1 + 1) 22 (.slice none 0 0)
  g1 : GB W hi 3 1 v1 xs.length (ivals .i64 xs) b1
  g2 : GB W hi 2 1 v2 ys.length (ivals .i64 ys) b2
  ne : ∀ g, b1 = some g → b2 ≠ some g
  below : Below w.heap.size w W
  size : hi ≤ W.heap.size
  l1 : M + 1 + 1 + 1 + 1 + 1 + 1 + 1 ≤ lo
  l2 : lo ≤ hi
  wM : w.heap.size ≤ M
  bl : Below w.heap.size W0 W
  ko : KeepsOthers W0 W
  md : Mid lo hi W0 W
section
variable {w : World} {M : Nat} {mo : Int} {lo hi : Nat} {W0 W W' : World} {u1 u2 v1 v2 : Value} {xs ys : List Int} {b1 b2 : Option Nat}
theorem PrH.fresh (h : PrH w M mo lo hi W0 u1 u2 v1 v2 xs ys b1 b2 W) (W0' : World) (hb : Below w.heap.size W0' W) (hk : KeepsOthers W0' W) (hm : Mid lo hi W0' W) : PrH w M mo lo hi W0' u1 u2 v1 v2 xs ys b1 b2 W :=
  { h with ko := hk, md := hm, bl := hb }
theorem PrH.alloc (h : PrH w M mo lo hi W0 u1 u2 v1 v2 xs ys b1 b2 W) (o : Obj) : PrH w M mo lo hi W0 u1 u2 v1 v2 xs ys b1 b2 (W.alloc o) :=
  ⟨h.bx.alloc o, h.by_.alloc o, h.bm.alloc o, h.br1.alloc o, h.br2.alloc o, h.g1.alloc o, h.g2.alloc o, h.ne, h.below.alloc (by have := h.size; have := h.l1; have := h.l2; have := h.wM; omega) o, by rw [World.size_alloc]; have := h.size; omega, h.l1, h.l2, h.wM, h.bl.alloc (by have := h.size; have := h.l1; have := h.l2; have := h.wM; omega) o, h.ko.trans (KeepsOthers.alloc W o), h.md.trans (Mid.of_below ((Below.refl W.heap.size W).alloc (Nat.le_refl _) o) h.size)⟩
theorem PrH.drew (h : PrH w M mo lo hi W0 u1 u2 v1 v2 xs ys b1 b2 W) : PrH w M mo lo hi W0 u1 u2 v1 v2 xs ys b1 b2 W.drew :=
  ⟨h.bx, h.by_, h.bm, h.br1, h.br2, h.g1.below (Below.refl _ _).drew, h.g2.below (Below.refl _ _).drew, h.ne, h.below.drew, h.size, h.l1, h.l2, h.wM, h.bl.drew, h.ko.trans (KeepsOthers.drew _), ⟨h.md.size, h.md.block⟩⟩
/-- Memory grown but for a row of its own. -/
theorem PrH.grown {row : Option Nat} (h : PrH w M mo lo hi W0 u1 u2 v1 v2 xs ys b1 b2 W) (hg : W.grownBy W' row) (hr : ∀ r, row = some r → hi ≤ r ∧ ∃ o : Obj, W.heap[r]? = some o ∧ o.isCells = true) :
    Boxed W' (M + 1 + 1 + 1 + 1 + 1) 24 u1 ∧ Boxed W' (M + 1 + 1 + 1 + 1 + 1 + 1) 22 u2 ∧ Boxed W' M 3 (.int .i64 mo) ∧ Boxed W' (M + 1) 24 (.slice none 0 0) ∧ Boxed W' (M + 1 + 1) 22 (.slice none 0 0) ∧ Below w.heap.size w W' ∧ hi ≤ W'.heap.size ∧ KeepsOthers W0 W' ∧ Mid lo hi W0 W' ∧ Below w.heap.size W0 W' := by
  have hs := h.size
  have hl := h.l1
  have hl2 := h.l2
  have hwM := h.wM
  have hne : ∀ j, j < hi → some j ≠ row := fun j hj e => by have := (hr j e.symm).1; omega
  refine ⟨h.bx.kept hg (hne _ (by omega)), h.by_.kept hg (hne _ (by omega)), h.bm.kept hg (hne _ (by omega)), h.br1.kept hg (hne _ (by omega)), h.br2.kept hg (hne _ (by omega)), h.below.grown hg (by omega) (fun r e => by have := (hr r e).1; omega), Nat.le_trans hs hg.size, h.ko.trans (KeepsOthers.of_grownBy hg fun j o ej hj => ?_), h.md.trans ⟨hg.size, fun j h1 h2 => hg.block j (by omega) (hne j h2)⟩, h.bl.grown hg (by omega) (fun r e => by have := (hr r e).1; omega)⟩
  obtain ⟨_, o', ho', hc'⟩ := hr j ej
  rw [hj] at ho'; cases ho'; exact hc'
theorem gb_cells {W : World} {base : Nat} {e : TypeId} {size : Nat} {v : Value} {n : Nat} {xs : List Value} {b : Option Nat} (h : GB W base e size v n xs b) (r : Nat) (hr : b = some r) : base ≤ r ∧ ∃ o : Obj, W.heap[r]? = some o ∧ o.isCells = true := by
  obtain ⟨h1, _, cur, h2⟩ := h.lt r hr
  exact ⟨h1, _, h2, rfl⟩
theorem PrH.app1 {x : Int} {g c : Nat} {row : Option Nat} (h : PrH w M mo lo hi W0 u1 u2 v1 v2 xs ys b1 b2 W) (hG : GB W' hi 3 1 (.slice (some ⟨g, 0, none⟩) (xs.length + 1) c) (xs.length + 1) (ivals .i64 xs ++ [.int .i64 x]) (some g)) (hg : W.grownBy W' row) (hr : row = none ∨ row = b1) (hgr : b1 = some g ∨ W.heap.size ≤ g) :
    PrH w M mo lo hi W0 u1 u2 (.slice (some ⟨g, 0, none⟩) (xs.length + 1) c) v2 (xs ++ [x]) ys (some g) b2 W' := by
  have hrow : ∀ r, row = some r → b1 = some r := fun r e => by rcases hr with e2 | e2; rw [e] at e2; cases e2; rw [← e2, e]
  obtain ⟨k1, k2, k3, k4, k5, k6, k7, k8, k9, k10⟩ := h.grown hg (fun r e => gb_cells h.g1 r (hrow r e))
  refine ⟨k1, k2, k3, k4, k5, by rw [ivals_snoc, List.length_append]; exact hG, h.g2.kept hg (fun r e e2 => h.ne r (hrow r e2) e), fun g' e e2 => ?_, k6, k7, h.l1, h.l2, h.wM, k10, k8, k9⟩
  cases e
  rcases hgr with e3 | e3
  · exact h.ne g e3 e2
  · have := (h.g2.lt g e2).2.1; omega
theorem PrH.app2 {x : Int} {g c : Nat} {row : Option Nat} (h : PrH w M mo lo hi W0 u1 u2 v1 v2 xs ys b1 b2 W) (hG : GB W' hi 2 1 (.slice (some ⟨g, 0, none⟩) (ys.length + 1) c) (ys.length + 1) (ivals .i64 ys ++ [.int .i64 x]) (some g)) (hg : W.grownBy W' row) (hr : row = none ∨ row = b2) (hgr : b2 = some g ∨ W.heap.size ≤ g) :
    PrH w M mo lo hi W0 u1 u2 v1 (.slice (some ⟨g, 0, none⟩) (ys.length + 1) c) xs (ys ++ [x]) b1 (some g) W' := by
  have hrow : ∀ r, row = some r → b2 = some r := fun r e => by rcases hr with e2 | e2; rw [e] at e2; cases e2; rw [← e2, e]
  obtain ⟨k1, k2, k3, k4, k5, k6, k7, k8, k9, k10⟩ := h.grown hg (fun r e => gb_cells h.g2 r (hrow r e))
  refine ⟨k1, k2, k3, k4, k5, h.g1.kept hg (fun r e e2 => h.ne r e (hrow r e2)), by rw [ivals_snoc, List.length_append]; exact hG, fun g' e e2 => ?_, k6, k7, h.l1, h.l2, h.wM, k10, k8, k9⟩
  cases e2
  rcases hgr with e3 | e3
  · exact h.ne g e e3
  · have := (h.g1.lt g e).2.1; omega
theorem set_row (W : World) (B : Nat) (u : Value) (hB : ∃ o : Obj, W.heap[B]? = some o ∧ o.isCells = true) : W.grownBy (W.setCell ⟨B, 0, none⟩ u) (some B) := grownBy_setCell' W B u
/-- Both boxes take what was gathered. -/
theorem PrH.store (h : PrH w M mo lo hi W0 u1 u2 v1 v2 xs ys b1 b2 W) (x1 x2 : Value) : PrH w M mo lo hi W0 x1 x2 v1 v2 xs ys b1 b2 ((W.setCell ⟨M + 1 + 1 + 1 + 1 + 1, 0, none⟩ x1).setCell ⟨M + 1 + 1 + 1 + 1 + 1 + 1, 0, none⟩ x2) := by
  have hl := h.l1
  have hl2 := h.l2
  have hwM := h.wM
  have e1 := grownBy_setCell' W (M + 1 + 1 + 1 + 1 + 1) x1
  have e2 := grownBy_setCell' (W.setCell ⟨M + 1 + 1 + 1 + 1 + 1, 0, none⟩ x1) (M + 1 + 1 + 1 + 1 + 1 + 1) x2
  refine ⟨(h.bx.set _).other (by omega) _, (h.by_.other (by omega) _).set _, (h.bm.other (by omega) _).other (by omega) _, (h.br1.other (by omega) _).other (by omega) _, (h.br2.other (by omega) _).other (by omega) _, (h.g1.kept e1 (fun g e e9 => ?_)).kept e2 (fun g e e9 => ?_), (h.g2.kept e1 (fun g e e9 => ?_)).kept e2 (fun g e e9 => ?_), h.ne, (h.below.setCell (p := ⟨M + 1 + 1 + 1 + 1 + 1, 0, none⟩) (by show w.heap.size ≤ M + 1 + 1 + 1 + 1 + 1; omega) _).setCell (p := ⟨M + 1 + 1 + 1 + 1 + 1 + 1, 0, none⟩) (by show w.heap.size ≤ M + 1 + 1 + 1 + 1 + 1 + 1; omega) _, Nat.le_trans h.size (Nat.le_trans e1.size e2.size), hl, hl2, h.wM, (h.bl.setCell (p := ⟨M + 1 + 1 + 1 + 1 + 1, 0, none⟩) (by show w.heap.size ≤ M + 1 + 1 + 1 + 1 + 1; omega) _).setCell (p := ⟨M + 1 + 1 + 1 + 1 + 1 + 1, 0, none⟩) (by show w.heap.size ≤ M + 1 + 1 + 1 + 1 + 1 + 1; omega) _, (h.ko.trans (KeepsOthers.setCell _ _ _)).trans (KeepsOthers.setCell _ _ _), (h.md.trans (mid_set (by omega) _)).trans (mid_set (by omega) _)⟩
  · cases e9; have := (h.g1.lt _ e).1; omega
  · cases e9; have := (h.g1.lt _ e).1; omega
  · cases e9; have := (h.g2.lt _ e).1; omega
  · cases e9; have := (h.g2.lt _ e).1; omega
/-- Both answers take what was gathered. -/
theorem PrH.answer (h : PrH w M mo lo hi W0 u1 u2 v1 v2 xs ys b1 b2 W) (x1 x2 : Value) :
    Boxed ((W.setCell ⟨M + 1, 0, none⟩ x1).setCell ⟨M + 1 + 1, 0, none⟩ x2) (M + 1) 24 x1 ∧ Boxed ((W.setCell ⟨M + 1, 0, none⟩ x1).setCell ⟨M + 1 + 1, 0, none⟩ x2) (M + 1 + 1) 22 x2 ∧
    Gath ((W.setCell ⟨M + 1, 0, none⟩ x1).setCell ⟨M + 1 + 1, 0, none⟩ x2) hi 3 1 v1 xs.length (ivals .i64 xs) ∧ Gath ((W.setCell ⟨M + 1, 0, none⟩ x1).setCell ⟨M + 1 + 1, 0, none⟩ x2) hi 2 1 v2 ys.length (ivals .i64 ys) ∧
    Below w.heap.size w ((W.setCell ⟨M + 1, 0, none⟩ x1).setCell ⟨M + 1 + 1, 0, none⟩ x2) ∧ KeepsOthers W0 ((W.setCell ⟨M + 1, 0, none⟩ x1).setCell ⟨M + 1 + 1, 0, none⟩ x2) ∧ Below w.heap.size W0 ((W.setCell ⟨M + 1, 0, none⟩ x1).setCell ⟨M + 1 + 1, 0, none⟩ x2) ∧ Mid lo hi W0 ((W.setCell ⟨M + 1, 0, none⟩ x1).setCell ⟨M + 1 + 1, 0, none⟩ x2) := by
  have hl := h.l1
  have hl2 := h.l2
  have hwM := h.wM
  exact ⟨(h.br1.set _).other (by omega) _, (h.br2.other (by omega) _).set _, gath_set (gath_set h.g1.gath (by omega) _) (by omega) _, gath_set (gath_set h.g2.gath (by omega) _) (by omega) _,
    (h.below.setCell (p := ⟨M + 1, 0, none⟩) (by show w.heap.size ≤ M + 1; omega) _).setCell (p := ⟨M + 1 + 1, 0, none⟩) (by show w.heap.size ≤ M + 1 + 1; omega) _, (h.ko.trans (KeepsOthers.setCell _ _ _)).trans (KeepsOthers.setCell _ _ _), (h.bl.setCell (p := ⟨M + 1, 0, none⟩) (by show w.heap.size ≤ M + 1; omega) _).setCell (p := ⟨M + 1 + 1, 0, none⟩) (by show w.heap.size ≤ M + 1 + 1; omega) _, (h.md.trans (mid_set (by omega) _)).trans (mid_set (by omega) _)⟩
/-- A block that is no cells is turned. -/
theorem PrH.turned {row : Option Nat} (h : PrH w M mo lo hi W0 u1 u2 v1 v2 xs ys b1 b2 W) (hg : W.grownBy W' row) (hr : ∀ r, row = some r → lo ≤ r ∧ ∃ o : Obj, W.heap[r]? = some o ∧ o.isCells = false) : PrH w M mo lo hi W' u1 u2 v1 v2 xs ys b1 b2 W' := by
  have hs := h.size
  have hl := h.l1
  have hl2 := h.l2
  have hwM := h.wM
  have hne : ∀ j, j < lo → some j ≠ row := fun j hj e => by have := (hr j e.symm).1; omega
  have hno : ∀ g, (∃ cur ty fr, W.heap[g]? = some (.cells cur ty fr)) → row ≠ some g := fun g ⟨cur, ty, fr, hc⟩ e => by
    obtain ⟨_, o, ho, hf⟩ := hr g e
    rw [hc] at ho; cases ho; cases hf
  exact ⟨h.bx.kept hg (hne _ (by omega)), h.by_.kept hg (hne _ (by omega)), h.bm.kept hg (hne _ (by omega)), h.br1.kept hg (hne _ (by omega)), h.br2.kept hg (hne _ (by omega)), h.g1.kept hg (fun g e => hno g (by obtain ⟨_, _, cur, h2⟩ := h.g1.lt g e; exact ⟨_, _, _, h2⟩)), h.g2.kept hg (fun g e => hno g (by obtain ⟨_, _, cur, h2⟩ := h.g2.lt g e; exact ⟨_, _, _, h2⟩)), h.ne, h.below.grown hg (by omega) (fun r e => by have := (hr r e).1; omega), Nat.le_trans hs hg.size, hl, hl2, h.wM, Below.refl _ _, KeepsOthers.refl _, Mid.refl _ _ _⟩
theorem gb_turned {W W' : World} {base : Nat} {e : TypeId} {size : Nat} {v : Value} {n : Nat} {xs : List Value} {b : Option Nat} (h : GB W base e size v n xs b) {R : Nat → Prop} (ht : Turned R W W') (hR : ∀ k, base ≤ k → ¬ R k) : GB W' base e size v n xs b := by
  rcases h with h | ⟨g, h1, h2, h3, h4⟩
  · exact .inl h
  · refine .inr ⟨g, h1, h2, h3, ?_⟩
    rcases h4 with h4 | ⟨g', cap, cur, hv, hb, hg, rest⟩
    · exact .inl h4
    · exact .inr ⟨g', cap, cur, hv, hb, ht.old hg (hR g' hb), rest⟩
/-- What lies between is turned. -/
theorem PrH.mid {lo2 : Nat} (h : PrH w M mo lo hi W0 u1 u2 v1 v2 xs ys b1 b2 W) (hl : lo ≤ lo2) (ht : Turned (fun k => lo2 ≤ k ∧ k < hi) W W') : PrH w M mo lo hi W' u1 u2 v1 v2 xs ys b1 b2 W' := by
  have hs := h.size
  have hl1 := h.l1
  have hb : ∀ k t u, k < lo → Boxed W k t u → Boxed W' k t u := fun k t u hk hb => ht.old hb (fun e => by omega)
  exact ⟨hb _ _ _ (by omega) h.bx, hb _ _ _ (by omega) h.by_, hb _ _ _ (by omega) h.bm, hb _ _ _ (by omega) h.br1, hb _ _ _ (by omega) h.br2, gb_turned h.g1 ht (fun k hk e => by omega), gb_turned h.g2 ht (fun k hk e => by omega), h.ne,
    ⟨ht.os.trans h.below.os, ht.tape.trans h.below.tape, ht.output.trans h.below.output, Nat.le_trans h.below.size ht.size, fun k hk => (ht.block k (by have := h.below.size; omega) (fun e => by have := h.wM; omega)).trans (h.below.block k hk)⟩,
    Nat.le_trans h.size ht.size, h.l1, h.l2, h.wM, Below.refl _ _, KeepsOthers.refl _, Mid.refl _ _ _⟩
end
end Go.Proofs.Ytjpgkocffceeoaa.L13

namespace Go.Proofs.Ytjpgkocffceeoaa.L13
open Go.RowKit Go.Shelf Rk

attribute [local go_sem] Oper.semAt_some

/-- What a call leaves: two rows of new memory. -/
def TwoPost (w : World) (T : List (Int × Int)) (e : Ending) (w' : World) : Prop :=
  ∃ v1 v2, e = .returned (.tuple #[v1, v2]) ∧ Gath w' w.heap.size 3 1 v1 T.length (ivals .i64 (T.map (·.1))) ∧ Gath w' w.heap.size 2 1 v2 T.length (ivals .i64 (T.map (·.2))) ∧ Below w.heap.size w w'
/-- A block of one cell, as an append reads it. -/
def CellAt (W : World) (bl : Nat) (u : Value) : Prop := ∀ j v, [u][j]? = some v → W.cell? ((⟨bl, 0, none⟩ : Addr).add j) = some v
theorem CellAt.kept {W W' : World} {bl : Nat} {u : Value} {row : Option Nat} (h : CellAt W bl u) (hg : W.grownBy W' row) (hne : row ≠ some bl) : CellAt W' bl u := fun j v hj => by
  have h1 := h j v hj
  have hlt := World.block_lt_of_cell? _ _ h1
  rw [addr_add] at h1 hlt ⊢
  rw [World.cell?_of_block (w := W) (hg.block bl hlt (fun e => hne e.symm))]
  exact h1
theorem CellAt.alloc {W : World} {bl : Nat} {u : Value} (h : CellAt W bl u) (o : Obj) : CellAt (W.alloc o) bl u :=
  h.kept (row := none) (grown_below ((Below.refl W.heap.size W).alloc (Nat.le_refl _) o) none) (fun e => by cases e)
/-- What is laid first. -/
structure Lay7 (v : World) (m : Int) (W : World) : Prop where
  bm : Boxed W v.heap.size 3 (.int .i64 m)
  br1 : Boxed W (v.heap.size + 1) 24 (.slice none 0 0)
  br2 : Boxed W (v.heap.size + 1 + 1) 22 (.slice none 0 0)
  bx : Boxed W (v.heap.size + 1 + 1 + 1 + 1 + 1) 24 (.slice (some ⟨v.heap.size + 1 + 1 + 1, 0, none⟩) 0 0)
  by_ : Boxed W (v.heap.size + 1 + 1 + 1 + 1 + 1 + 1) 22 (.slice (some ⟨v.heap.size + 1 + 1 + 1 + 1, 0, none⟩) 0 0)
  below : Below v.heap.size v W
  size : W.heap.size = v.heap.size + 1 + 1 + 1 + 1 + 1 + 1 + 1
theorem lay7 (v : World) (m : Int) : Lay7 v m (((((((v.alloc (.cells #[.int .i64 m] 3)).alloc (.cells #[.slice none 0 0] 24)).alloc (.cells #[.slice none 0 0] 22)).alloc (.cells #[] 3)).alloc (.cells #[] 2)).alloc (.cells #[.slice (some ⟨v.heap.size + 1 + 1 + 1, 0, none⟩) 0 0] 24)).alloc (.cells #[.slice (some ⟨v.heap.size + 1 + 1 + 1 + 1, 0, none⟩) 0 0] 22)) := by
  refine ⟨Boxed.alloc (Boxed.alloc (Boxed.alloc (Boxed.alloc (Boxed.alloc (Boxed.alloc (Boxed.new v _ _) _) _) _) _) _) _, ?_, ?_, ?_, ?_, ?_, by simp only [World.size_alloc]⟩
  · refine Boxed.alloc (Boxed.alloc (Boxed.alloc (Boxed.alloc (Boxed.alloc ?_ _) _) _) _) _
    have := Boxed.new (v.alloc (.cells #[.int .i64 m] 3)) 24 (.slice none 0 0)
    simpa only [World.size_alloc] using this
  · refine Boxed.alloc (Boxed.alloc (Boxed.alloc (Boxed.alloc ?_ _) _) _) _
    have := Boxed.new ((v.alloc (.cells #[.int .i64 m] 3)).alloc (.cells #[.slice none 0 0] 24)) 22 (.slice none 0 0)
    simpa only [World.size_alloc] using this
  · refine Boxed.alloc ?_ _
    have := Boxed.new (((((v.alloc (.cells #[.int .i64 m] 3)).alloc (.cells #[.slice none 0 0] 24)).alloc (.cells #[.slice none 0 0] 22)).alloc (.cells #[] 3)).alloc (.cells #[] 2)) 24 (.slice (some ⟨v.heap.size + 1 + 1 + 1, 0, none⟩) 0 0)
    simpa only [World.size_alloc] using this
  · have := Boxed.new ((((((v.alloc (.cells #[.int .i64 m] 3)).alloc (.cells #[.slice none 0 0] 24)).alloc (.cells #[.slice none 0 0] 22)).alloc (.cells #[] 3)).alloc (.cells #[] 2)).alloc (.cells #[.slice (some ⟨v.heap.size + 1 + 1 + 1, 0, none⟩) 0 0] 24)) 22 (.slice (some ⟨v.heap.size + 1 + 1 + 1 + 1, 0, none⟩) 0 0)
    simpa only [World.size_alloc] using this
  · exact ((((((((Below.refl _ v).alloc (Nat.le_refl _) _).alloc (by simp) _).alloc (by simp; omega) _).alloc (by simp; omega) _).alloc (by simp; omega) _).alloc (by simp; omega) _).alloc (by simp; omega) _)
set_option maxRecDepth 100000 in
theorem none_any {w : World} {g : Nat} {a : Option Addr} {len cap : Nat} (b0 b1 m : Int) (hm : m ≤ 0) : Calls Try.prog 27 #[.pointer (some ⟨g, 0, none⟩), .slice a len cap, .agg #[.int .i64 b0, .int .i64 b1], .int .i64 m] w (TwoPost w []) := by
  have hd : decide (m ≤ 0) = true := by simpa using hm
  have HL := Lib.hid (lay7 (w.alloc (.cells #[.int .i64 b0, .int .i64 b1] 46)) m)
  have HB := Lib.hid ((Below.refl w.heap.size w).alloc (Nat.le_refl _) (.cells #[.int .i64 b0, .int .i64 b1] 46))
  have hz : (w.alloc (.cells #[.int .i64 b0, .int .i64 b1] 46)).heap.size = w.heap.size + 1 := by simp
  have HZ := Lib.hid hz
  refine (callsIn_wide (n := 3)).1 ?_
  refine callsIn_of_wp_marks Try.func27 rfl trivial ?_ rfl
  simp only [Try.ntmps27, List.size_toArray, List.length_cons, List.length_nil, Nat.reduceAdd, Nat.reduceSub, Array.replicate_succ, Array.replicate_zero, List.push_toArray, List.append_toArray, List.nil_append, List.cons_append]
  gi_wp2
  gi_region_with fail
  all_goals
    gi_wp2
    refine ⟨.tuple #[.slice (some ⟨w.heap.size + 1 + 1 + 1 + 1, 0, none⟩) 0 0, .slice (some ⟨w.heap.size + 1 + 1 + 1 + 1 + 1, 0, none⟩) 0 0], by simp [results, Try.f27, go_sem], _, _, rfl, .inl ⟨rfl, rfl, _, rfl⟩, .inl ⟨rfl, rfl, _, rfl⟩, ?_⟩
    exact (((((((((Below.refl _ w).alloc (Nat.le_refl _) _).alloc (by simp) _).alloc (by simp; omega) _).alloc (by simp; omega) _).alloc (by simp; omega) _).alloc (by simp; omega) _).alloc (by simp; omega) _).alloc (by simp; omega) _).drew
set_option maxRecDepth 100000 in
set_option maxHeartbeats 4000000 in
theorem some_any {w : World} {g nb : Nat} {ws : List Int} {F : Nat → Nat → Int} (h0 : IsG w g nb ws F) (hn : ws.length ≤ 1000) {a : Option Addr} {b off len cap : Nat} {zs : List Int} (hp : IntsAt .i64 w.heap.size w a b off len zs) (hpn : a = none → len = 0 ∧ cap = 0) (b0 b1 : Int) (m : Nat) (hm1 : 1 ≤ m) (hm : m ≤ 100000) :
    Calls Try.prog 27 #[.pointer (some ⟨g, 0, none⟩), .slice a len cap, .agg #[.int .i64 b0, .int .i64 b1], .int .i64 (m : Int)] w (TwoPost w ((encI (movesD ws F b0 b1 zs)).take m)) := by
  obtain ⟨i0, hi, hz0, hz1, hz2⟩ := info_parts Gc.Try.infoInt
  have HI := Lib.hid hi
  have HZ0 := Lib.hid hz0
  have HZ1 := Lib.hid hz1
  have HZ2 := Lib.hid hz2
  clear hi hz0 hz1 hz2
  obtain ⟨j0, hi, hz0, hz1, hz2⟩ := info_parts Try.infoI64
  have HJ := Lib.hid hi
  have HY0 := Lib.hid hz0
  have HY1 := Lib.hid hz1
  have HY2 := Lib.hid hz2
  clear hi hz0 hz1 hz2
  have hd : decide ((m : Int) ≤ 0) = false := by simp; omega
  have hL := lay7 (w.alloc (.cells #[.int .i64 b0, .int .i64 b1] 46)) (m : Int)
  have hzB : (w.alloc (.cells #[.int .i64 b0, .int .i64 b1] 46)).heap.size = w.heap.size + 1 := by simp
  have hbx : (w.alloc (.cells #[.int .i64 b0, .int .i64 b1] 46)).heap[w.heap.size]? = some (.cells #[.int .i64 b0, .int .i64 b1] 46 (0, 0)) := heap_new (w := w) _ rfl
  have hbB : Below w.heap.size w (w.alloc (.cells #[.int .i64 b0, .int .i64 b1] 46)) := (Below.refl _ w).alloc (Nat.le_refl _) _
  have hbx7 := heap_below hbx hL.below (heap_lt hbx)
  have hb7 := hbB.trans (hL.below.mono hbB.size)
  obtain ⟨l1, l2, l3, l4, l5, l6, l7⟩ := hL
  rw [hzB] at l1 l2 l3 l4 l5 l7 hbx7 hb7
  have HL := Lib.hid (And.intro l1 (And.intro l2 (And.intro l3 (And.intro l4 (And.intro l5 (And.intro l7 (And.intro hbx7 hb7)))))))
  obtain ⟨hL1, hL2, _, _⟩ := movesD_in h0.tab hn b0 b1 zs
  have HP := Lib.hid (hp.kept hb7 (Nat.le_refl _))
  have HG := Lib.hid h0
  have HPN := Lib.hid hpn
  clear l1 l2 l3 l4 l5 l6 l7 hbx hbB hbx7 hb7 hzB hp h0 hpn
  refine (callsIn_wide (n := 3)).1 ?_
  refine callsIn_of_wp_marks Try.func27 rfl trivial ?_ rfl
  simp only [Try.ntmps27, List.size_toArray, List.length_cons, List.length_nil, Nat.reduceAdd, Nat.reduceSub, Array.replicate_succ, Array.replicate_zero, List.push_toArray, List.append_toArray, List.nil_append, List.cons_append]
  refine wpIn_wide.2 ?_
  go_upto_region 4 with fail
  generalize ((((((((w.alloc (.cells #[.int .i64 b0, .int .i64 b1] 46)).alloc (.cells #[.int .i64 (m : Int)] 3)).alloc (.cells #[.slice none 0 0] 24)).alloc (.cells #[.slice none 0 0] 22)).alloc (.cells #[] 3)).alloc (.cells #[] 2)).alloc (.cells #[.slice (some ⟨w.heap.size + 1 + 1 + 1 + 1, 0, none⟩) 0 0] 24)).alloc (.cells #[.slice (some ⟨w.heap.size + 1 + 1 + 1 + 1 + 1, 0, none⟩) 0 0] 22)) = w0 at *
  obtain ⟨M, hM⟩ : ∃ M, w.heap.size + 1 = M := ⟨_, rfl⟩
  rw [hM] at HL ⊢
  have hwM : w.heap.size ≤ M := by omega
  clear hM
  obtain ⟨l1, l2, l3, l4, l5, hz0, hbx, hB0⟩ := HL.out
  have k0 := heap_cell hbx (i := 0) rfl
  have k1 := heap_cell hbx (i := 1) rfl
  simp only [List.getElem_toArray, List.getElem_cons_zero, List.getElem_cons_succ] at k0 k1
  have HMv := Lib.hid (moves_any (cap := cap) HG.out hB0 (HP.out.mono hB0.size) HPN.out b0 b1)
  have HDl : Hid ((encI (movesD ws F b0 b1 zs)).length ≤ 1000) := Lib.hid (by simp [encI]; omega)
  generalize encI (movesD ws F b0 b1 zs) = D at *
  clear l1 l2 l3 l4 l5 hbx hB0 hL1 hL2
  go_wp2_with fail
  refine HMv.out.mono ?_
  rintro e w1 ⟨u, rfl, ⟨gf, lb, rfl, hen, hsq⟩, hB1⟩
  have HSq := Lib.hid (hsq 2)
  have hsz := hB1.size
  have HB1 := Lib.hid hB1
  have hDl := HDl.out
  clear hsq hB1 HMv k0 k1
  go_wp2_with fail
  refine (wpIn_wide (n := 3)).1 ?_
  refine wpIn_rangeFunc_seqO rfl (by omega) (gf := gf) (lb := lb) rfl trivial hen HSq.out (by omega) (by omega) (Below.refl _ _) (fun _ => rfl)
    (fun hi pre W => pre.length < m ∧ ∃ v1 v2 b1 b2, PrH w M m w0.heap.size hi W v1 v2 v1 v2 (pre.map (·.1)) (pre.map (·.2)) b1 b2 W)
    (fun c hi pre W => c = .ret ∧ pre.length = m ∧ ∃ v1 v2, Boxed W (M + 1) 24 v1 ∧ Boxed W (M + 1 + 1) 22 v2 ∧ Gath W hi 3 1 v1 pre.length (ivals .i64 (pre.map (·.1))) ∧ Gath W hi 2 1 v2 pre.length (ivals .i64 (pre.map (·.2))) ∧ Below w.heap.size w W ∧ w.heap.size ≤ hi)
    (fun hi s A B row hs hg hr => ⟨hs.1, by obtain ⟨v1, v2, b1, b2, hP⟩ := hs.2; exact ⟨v1, v2, b1, b2, hP.turned hg (fun r e => ⟨by have := (hr r e).1; omega, (hr r e).2⟩)⟩⟩)
    (fun c hi s A B row hs hg hr => by
      obtain ⟨hc, e1, v1, v2, k1, k2, k3, k4, k5, k6⟩ := hs
      exact ⟨hc, e1, v1, v2, boxed_kept k1 hg (fun r e => (hr r e).2), boxed_kept k2 hg (fun r e => (hr r e).2), gath_kept k3 hg (fun r e => (hr r e).2), gath_kept k4 hg (fun r e => (hr r e).2), k5.grown hg k5.size (fun r e => by have := (hr r e).1; omega), k6⟩)
    (fun hi s A B hs ht => ⟨hs.1, by obtain ⟨v1, v2, b1, b2, hP⟩ := hs.2; exact ⟨v1, v2, b1, b2, hP.mid (lo2 := w1.heap.size + 2) (by omega) ht⟩⟩)
    (fun hi W1 hW1 h1 h2 => by
      obtain ⟨l1, l2, l3, l4, l5, hz0, hbx, hB0⟩ := HL.out
      have kp : ∀ k t u, k < w0.heap.size → Boxed w0 k t u → Boxed W1 k t u := fun k t u hk hb => heap_below (heap_below hb HB1.out hk) hW1 (by omega)
      exact ⟨by show 0 < m; omega, _, _, none, none, kp _ _ _ (by omega) l4, kp _ _ _ (by omega) l5, kp _ _ _ (by omega) l1, kp _ _ _ (by omega) l2, kp _ _ _ (by omega) l3, gb_nil _ _ _ _ _, gb_nil _ _ _ _ _, (fun g e => by cases e), (hB0.trans (HB1.out.mono hB0.size)).trans (hW1.mono (by omega)), h1, by omega, by omega, hwM, Below.refl _ _, KeepsOthers.refl _, Mid.refl _ _ _⟩)
    (fun x a' W => a' = { tmps := #[.pointer (some ⟨g, 0, none⟩), .slice a len cap, .agg #[.int .i64 b0, .int .i64 b1], .int .i64 (m : Int), undef, undef, .pointer (some ⟨w.heap.size, 0, none⟩), .pointer (some ⟨M, 0, none⟩), .pointer (some ⟨M + 1, 0, none⟩), .pointer (some ⟨M + 1 + 1, 0, none⟩), .pointer (some ⟨M + 1 + 1 + 1 + 1 + 1, 0, none⟩), .pointer (some ⟨M + 1 + 1 + 1 + 1 + 1 + 1, 0, none⟩), .int .i64 x.1, .int .i64 x.2, .slice (some ⟨M + 1 + 1 + 1, 0, none⟩) 0 0, .slice (some ⟨M + 1 + 1 + 1 + 1, 0, none⟩) 0 0, .int .i64 (m : Int), .bool false, undef, undef, .pointer (some ⟨g, 0, none⟩), .slice a len cap, .agg #[.int .i64 b0, .int .i64 b1], .func (.func gf) #[] lb, .int .i64 x.1, .int .i64 x.2, undef, undef, undef, undef, undef, undef, undef, undef, undef, undef, undef, undef, undef, undef, undef, undef], defers := [] })
    (fun x a' W l o o' hs hl ho hc => hs) ?assign ?body ?done ?stop
  case assign =>
    rintro l hi pre x W K hI hK
    unfold encP
    gi_wp2
    exact hK _ _ (KeepsFrom.refl _ _) ⟨Below.refl _ _, Mid.refl _ _ _, Mid.refl _ _ _⟩ hI rfl
  case body =>
    rintro l hi pre x a' W hlo hszW ⟨hpm, v1, v2, b1, b2, hP⟩ rfl hpre
    have hpl60 : pre.length + 1 ≤ 1000 := by
      have := hpre.length_le
      simp at this
      omega
    have HP := Lib.hid hP
    obtain ⟨x1, x2⟩ := x
    gi_wp2
    refine region_round_T (fun X => X.cell? ⟨M + 1 + 1 + 1 + 1 + 1, 0, none⟩ = some v1 ∧ X.cell? ⟨M + 1 + 1 + 1 + 1 + 1 + 1, 0, none⟩ = some v2) (fun j => decide (j < 8)) rfl (by kernel_rfl) rfl ?_
    change AnyT _ _ _ _ _ _ _ _ 10 _ _ (World.drew _)
    have hX := (hP.fresh W (Below.refl _ _) (KeepsOthers.refl _) (Mid.refl _ _ _)).drew
    generalize W.drew = X at hX ⊢
    clear hP
    obtain ⟨xs, hxs⟩ : ∃ xs, pre.map (·.1) = xs := ⟨_, rfl⟩
    obtain ⟨ys, hys⟩ : ∃ ys, pre.map (·.2) = ys := ⟨_, rfl⟩
    have hxl : xs.length = pre.length := by rw [← hxs, List.length_map]
    have hyl : ys.length = pre.length := by rw [← hys, List.length_map]
    rw [hxs, hys] at hX
    have HXS := Lib.hid hxs
    have HYS := Lib.hid hys
    have HXL := Lib.hid hxl
    have HYL := Lib.hid hyl
    have hlx : xs.length + 1 ≤ 60000 := by omega
    have hly : ys.length + 1 ≤ 60000 := by omega
    obtain ⟨a1, c1, rfl⟩ := hX.g1.slice
    obtain ⟨a2, c2, rfl⟩ := hX.g2.slice
    clear HP hxs hys hxl hyl
    refine AnyT.take (i := 0) (v := .slice a1 xs.length c1) rfl rfl (by kernel_rfl) (by kernel_rfl) (by kernel_rfl) (by kernel_rfl) (by kernel_rfl) (fun _ _ _ h => h) (by kernel_rfl) (fun x hx => by have c := hx.1; go_simp) (fun _ => rfl) ⟨hX.bx.cell, hX.by_.cell⟩ ?_
    try simp only [List.getElem_toArray, List.getElem_cons_zero, List.getElem_cons_succ, Act.put, List.setIfInBounds_toArray, List.set_cons_zero, List.set_cons_succ]
    refine AnyT.take (i := 1) (v := .int .i64 x1) rfl rfl (by kernel_rfl) (by kernel_rfl) (by kernel_rfl) (by kernel_rfl) (by kernel_rfl) (fun _ _ _ h => h) (by kernel_rfl) (fun x hx => by go_simp) (fun _ => rfl) ⟨hX.bx.cell, hX.by_.cell⟩ ?_
    try simp only [List.getElem_toArray, List.getElem_cons_zero, List.getElem_cons_succ, Act.put, List.setIfInBounds_toArray, List.set_cons_zero, List.set_cons_succ]
    refine AnyT.take (i := 4) (v := .slice a2 ys.length c2) rfl rfl (by kernel_rfl) (by kernel_rfl) (by kernel_rfl) (by kernel_rfl) (by kernel_rfl) (fun _ _ _ h => h) (by kernel_rfl) (fun x hx => by have c := hx.2; go_simp) (fun _ => rfl) ⟨hX.bx.cell, hX.by_.cell⟩ ?_
    try simp only [List.getElem_toArray, List.getElem_cons_zero, List.getElem_cons_succ, Act.put, List.setIfInBounds_toArray, List.set_cons_zero, List.set_cons_succ]
    refine AnyT.take (i := 5) (v := .int .i64 x2) rfl rfl (by kernel_rfl) (by kernel_rfl) (by kernel_rfl) (by kernel_rfl) (by kernel_rfl) (fun _ _ _ h => h) (by kernel_rfl) (fun x hx => by go_simp) (fun _ => rfl) ⟨hX.bx.cell, hX.by_.cell⟩ ?_
    try simp only [List.getElem_toArray, List.getElem_cons_zero, List.getElem_cons_succ, Act.put, List.setIfInBounds_toArray, List.set_cons_zero, List.set_cons_succ]
    refine AnyT.ready (rs := [2, 6]) (by kernel_rfl) (by simp) ?_
    refine ReadyT.cons rfl (fun K hK => ?_) ?_
    · go_simp
      have hX1 := hX.alloc (.cells #[.int .i64 x1] 3)
      have e1 : CellAt (X.alloc (.cells #[.int .i64 x1] 3)) X.heap.size (.int .i64 x1) := cell_one _ _ _
      refine hK _ _ (fun _ => ⟨hX1.bx.cell, hX1.by_.cell⟩) ?_
      clear hK K
      try simp only [List.getElem_toArray, List.getElem_cons_zero, List.getElem_cons_succ, Act.put, List.setIfInBounds_toArray, List.set_cons_zero, List.set_cons_succ]
      have X1z : X.heap.size < (X.alloc (.cells #[.int .i64 x1] 3)).heap.size := by rw [World.size_alloc]; omega
      generalize X.alloc (.cells #[.int .i64 x1] 3) = X1 at *
      refine AnyT.ready (rs := [3, 6]) (by kernel_rfl) (by simp) ?_
      refine ReadyT.cons rfl (fun K hK => ?_) ?_
      · refine stepIn_append_GB rfl _ _ 24 rfl hi 3 i0 (.int .i64 0) 1 8 Try.underlying24 HI.out HZ0.out HZ1.out HZ2.out rfl (by decide) _ xs.length _ _ rfl hX1.g1 ⟨X.heap.size, 0, none⟩ 1 1 [.int .i64 x1] rfl rfl e1 (one_val rfl) (by decide) (by unfold maxLen; omega) (by omega) hX1.size ?_
        intro p1 kp1 X2 rowp1 hGp1 hgp1 hrp1 hwp1
        have hX2 := hX1.app1 hGp1 hgp1 hrp1 hwp1
        refine hK _ _ (fun _ => ⟨hX2.bx.cell, hX2.by_.cell⟩) ?_
        clear hK K
        try simp only [List.getElem_toArray, List.getElem_cons_zero, List.getElem_cons_succ, Act.put, List.setIfInBounds_toArray, List.set_cons_zero, List.set_cons_succ]
        refine AnyT.ready (rs := [6]) (by kernel_rfl) (by simp) ?_
        refine ReadyT.cons rfl (fun K hK => ?_) ?_
        · go_simp
          have hX3 := hX2.alloc (.cells #[.int .i64 x2] 2)
          have e2 : CellAt (X2.alloc (.cells #[.int .i64 x2] 2)) X2.heap.size (.int .i64 x2) := cell_one _ _ _
          refine hK _ _ (fun _ => ⟨hX3.bx.cell, hX3.by_.cell⟩) ?_
          clear hK K
          try simp only [List.getElem_toArray, List.getElem_cons_zero, List.getElem_cons_succ, Act.put, List.setIfInBounds_toArray, List.set_cons_zero, List.set_cons_succ]
          have X3z : X2.heap.size < (X2.alloc (.cells #[.int .i64 x2] 2)).heap.size := by rw [World.size_alloc]; omega
          generalize X2.alloc (.cells #[.int .i64 x2] 2) = X3 at *
          refine AnyT.ready (rs := [7]) (by kernel_rfl) (by simp) ?_
          refine ReadyT.cons rfl (fun K hK => ?_) ?_
          · refine stepIn_append_GB rfl _ _ 22 rfl hi 2 j0 (.int .i64 0) 1 8 Try.underlying22 HJ.out HY0.out HY1.out HY2.out rfl (by decide) _ ys.length _ _ rfl hX3.g2 ⟨X2.heap.size, 0, none⟩ 1 1 [.int .i64 x2] rfl rfl e2 (one_val rfl) (by decide) (by unfold maxLen; omega) (by omega) hX3.size ?_
            intro p2 kp2 X4 rowp2 hGp2 hgp2 hrp2 hwp2
            have hX4 := hX3.app2 hGp2 hgp2 hrp2 hwp2
            refine hK _ _ (fun _ => ⟨hX4.bx.cell, hX4.by_.cell⟩) ?_
            clear hK K
            try simp only [List.getElem_toArray, List.getElem_cons_zero, List.getElem_cons_succ, Act.put, List.setIfInBounds_toArray, List.set_cons_zero, List.set_cons_succ]
            refine AnyT.ready (rs := [8]) (by kernel_rfl) (by simp) (ReadyT.cons rfl (fun K hK => ?_) ReadyT.nil)
            have c5 := hX4.bx.cell
            have f5 := hX4.bx.frozen
            go_simp
            refine hK _ _ (fun h => absurd h (by decide)) ?_
            clear hK K c5 f5
            try simp only [List.getElem_toArray, List.getElem_cons_zero, List.getElem_cons_succ, Act.put, List.setIfInBounds_toArray, List.set_cons_zero, List.set_cons_succ]
            refine AnyT.ready (rs := [9]) (by kernel_rfl) (by simp) (ReadyT.cons rfl (fun K hK => ?_) ReadyT.nil)
            have c5 := (hX4.by_.other (B' := M + 1 + 1 + 1 + 1 + 1) (by omega) (.slice (some ⟨p1, 0, none⟩) (xs.length + 1) kp1)).cell
            have f5 := (hX4.by_.other (B' := M + 1 + 1 + 1 + 1 + 1) (by omega) (.slice (some ⟨p1, 0, none⟩) (xs.length + 1) kp1)).frozen
            go_simp
            refine hK _ _ (fun h => absurd h (by decide)) ?_
            clear hK K c5 f5
            try simp only [List.getElem_toArray, List.getElem_cons_zero, List.getElem_cons_succ, Act.put, List.setIfInBounds_toArray, List.set_cons_zero, List.set_cons_succ]
            have hF := hX4.store (.slice (some ⟨p1, 0, none⟩) (xs.length + 1) kp1) (.slice (some ⟨p2, 0, none⟩) (ys.length + 1) kp2)
            refine AnyT.done (by kernel_rfl) ?_ _
            generalize ((X4.setCell ⟨M + 1 + 1 + 1 + 1 + 1, 0, none⟩ (.slice (some ⟨p1, 0, none⟩) (xs.length + 1) kp1)).setCell ⟨M + 1 + 1 + 1 + 1 + 1 + 1, 0, none⟩ (.slice (some ⟨p2, 0, none⟩) (ys.length + 1) kp2)) = XF at hF ⊢
            have c6 := hF.bx.cell
            have cM := hF.bm.cell
            clear hX hX1 hX2 hX3 hX4 hGp1 hGp2 e1 e2
            by_cases hme : xs.length + 1 = m
            · have hmb : ((xs.length : Int) + 1 == (m : Int)) = true := by simp; omega
              have HME := Lib.hid hme
              clear hme
              gi_wp2
              refine region_round_T (fun X => X.cell? ⟨M + 1 + 1 + 1 + 1 + 1, 0, none⟩ = some (.slice (some ⟨p1, 0, none⟩) (xs.length + 1) kp1) ∧ X.cell? ⟨M + 1 + 1 + 1 + 1 + 1 + 1, 0, none⟩ = some (.slice (some ⟨p2, 0, none⟩) (ys.length + 1) kp2)) (fun j => decide (j < 3)) rfl (by kernel_rfl) rfl ?_
              change AnyT _ _ _ _ _ _ _ _ 4 _ _ (World.drew _)
              have hX := hF.drew
              clear hF c6 cM
              generalize XF.drew = X6 at hX ⊢
              refine AnyT.take (i := 0) (v := .slice (some ⟨p1, 0, none⟩) (xs.length + 1) kp1) rfl rfl (by kernel_rfl) (by kernel_rfl) (by kernel_rfl) (by kernel_rfl) (by kernel_rfl) (fun _ _ _ h => h) (by kernel_rfl) (fun x hx => by have c := hx.1; go_simp) (fun _ => rfl) ⟨hX.bx.cell, hX.by_.cell⟩ ?_
              try simp only [List.getElem_toArray, List.getElem_cons_zero, List.getElem_cons_succ, Act.put, List.setIfInBounds_toArray, List.set_cons_zero, List.set_cons_succ]
              refine AnyT.take (i := 1) (v := .slice (some ⟨p2, 0, none⟩) (ys.length + 1) kp2) rfl rfl (by kernel_rfl) (by kernel_rfl) (by kernel_rfl) (by kernel_rfl) (by kernel_rfl) (fun _ _ _ h => h) (by kernel_rfl) (fun x hx => by have c := hx.2; go_simp) (fun _ => rfl) ⟨hX.bx.cell, hX.by_.cell⟩ ?_
              try simp only [List.getElem_toArray, List.getElem_cons_zero, List.getElem_cons_succ, Act.put, List.setIfInBounds_toArray, List.set_cons_zero, List.set_cons_succ]
              refine AnyT.ready (rs := [2]) (by kernel_rfl) (by simp) (ReadyT.cons rfl (fun K hK => ?_) ReadyT.nil)
              have c5 := hX.br1.cell
              have f5 := hX.br1.frozen
              go_simp
              refine hK _ _ (fun _ => ⟨(hX.bx.other (by omega) _).cell, (hX.by_.other (by omega) _).cell⟩) ?_
              clear hK K c5 f5
              try simp only [List.getElem_toArray, List.getElem_cons_zero, List.getElem_cons_succ, Act.put, List.setIfInBounds_toArray, List.set_cons_zero, List.set_cons_succ]
              refine AnyT.ready (rs := [3]) (by kernel_rfl) (by simp) (ReadyT.cons rfl (fun K hK => ?_) ReadyT.nil)
              have c5 := (hX.br2.other (B' := M + 1) (by omega) (.slice (some ⟨p1, 0, none⟩) (xs.length + 1) kp1)).cell
              have f5 := (hX.br2.other (B' := M + 1) (by omega) (.slice (some ⟨p1, 0, none⟩) (xs.length + 1) kp1)).frozen
              go_simp
              refine hK _ _ (fun h => absurd h (by decide)) ?_
              clear hK K c5 f5
              try simp only [List.getElem_toArray, List.getElem_cons_zero, List.getElem_cons_succ, Act.put, List.setIfInBounds_toArray, List.set_cons_zero, List.set_cons_succ]
              refine AnyT.done (by kernel_rfl) ?_ _
              obtain ⟨k1, k2, k3, k4, k5, k6, k7, k8⟩ := hX.answer (.slice (some ⟨p1, 0, none⟩) (xs.length + 1) kp1) (.slice (some ⟨p2, 0, none⟩) (ys.length + 1) kp2)
              generalize ((X6.setCell ⟨M + 1, 0, none⟩ (.slice (some ⟨p1, 0, none⟩) (xs.length + 1) kp1)).setCell ⟨M + 1 + 1, 0, none⟩ (.slice (some ⟨p2, 0, none⟩) (ys.length + 1) kp2)) = X7 at k1 k2 k3 k4 k5 k6 k7 k8 ⊢
              have HK := Lib.hid (And.intro k1 (And.intro k2 (And.intro k3 (And.intro k4 (And.intro k5 (And.intro k6 (And.intro k7 k8)))))))
              clear k1 k2 k3 k4 k5 k6 k7 k8 hX
              gi_wp2
              obtain ⟨k1, k2, k3, k4, k5, k6, k7, k8⟩ := HK.out
              have hl2 : w.heap.size ≤ hi := (by omega); refine ⟨k6.from _, ⟨k7, ⟨k8.size, fun k h1 h2 => k8.block k (by omega) (by omega)⟩, ⟨k8.size, fun k h1 h2 => k8.block k (by omega) (by omega)⟩⟩, rfl, by rw [List.length_append, List.length_singleton, ← HXL.out]; exact HME.out, _, _, k1, k2, ?_, ?_, k5, hl2⟩
              · rw [show (pre ++ [(x1, x2)]).length = (xs ++ [x1]).length by simp [HXL.out], List.map_append, HXS.out]; exact k3
              · rw [show (pre ++ [(x1, x2)]).length = (ys ++ [x2]).length by simp [HYL.out], List.map_append, HYS.out]; exact k4
            · have hmb : ((xs.length : Int) + 1 == (m : Int)) = false := by simp; omega
              have hpl : xs.length + 1 < m := by have := HXL.out; omega
              have HF := Lib.hid hF
              clear hme hF
              gi_wp2
              have hn := HF.out.fresh XF (Below.refl _ _) (KeepsOthers.refl _) (Mid.refl _ _ _)
              rw [show xs ++ [x1] = (pre ++ [(x1, x2)]).map (·.1) by rw [List.map_append, HXS.out]; rfl, show ys ++ [x2] = (pre ++ [(x1, x2)]).map (·.2) by rw [List.map_append, HYS.out]; rfl] at hn
              have hmd := HF.out.md; exact ⟨HF.out.ko.from _, ⟨HF.out.bl, ⟨hmd.size, fun k h1 h2 => hmd.block k (by omega) (by omega)⟩, ⟨hmd.size, fun k h1 h2 => hmd.block k (by omega) (by omega)⟩⟩, by rw [List.length_append, List.length_singleton, ← HXL.out]; exact hpl, _, _, _, _, hn⟩
          · exact ReadyT.nil
        · exact ReadyT.nil
      · refine ReadyT.cons rfl (fun K hK => ?_) ?_
        · go_simp
          have hX2 := hX1.alloc (.cells #[.int .i64 x2] 2)
          have e2 : CellAt (X1.alloc (.cells #[.int .i64 x2] 2)) X1.heap.size (.int .i64 x2) := cell_one _ _ _
          replace e1 := e1.alloc (.cells #[.int .i64 x2] 2)
          refine hK _ _ (fun _ => ⟨hX2.bx.cell, hX2.by_.cell⟩) ?_
          clear hK K
          try simp only [List.getElem_toArray, List.getElem_cons_zero, List.getElem_cons_succ, Act.put, List.setIfInBounds_toArray, List.set_cons_zero, List.set_cons_succ]
          have X2z : X1.heap.size < (X1.alloc (.cells #[.int .i64 x2] 2)).heap.size := by rw [World.size_alloc]; omega
          generalize X1.alloc (.cells #[.int .i64 x2] 2) = X2 at *
          refine AnyT.ready (rs := [3]) (by kernel_rfl) (by simp) ?_
          refine ReadyT.cons rfl (fun K hK => ?_) ?_
          · refine stepIn_append_GB rfl _ _ 24 rfl hi 3 i0 (.int .i64 0) 1 8 Try.underlying24 HI.out HZ0.out HZ1.out HZ2.out rfl (by decide) _ xs.length _ _ rfl hX2.g1 ⟨X.heap.size, 0, none⟩ 1 1 [.int .i64 x1] rfl rfl e1 (one_val rfl) (by decide) (by unfold maxLen; omega) (by omega) hX2.size ?_
            intro p1 kp1 X3 rowp1 hGp1 hgp1 hrp1 hwp1
            have hX3 := hX2.app1 hGp1 hgp1 hrp1 hwp1
            replace e2 := e2.kept hgp1 (by rintro rfl; rcases hrp1 with e | e; cases e; have := (hX2.g1.lt _ e.symm).2.1; have := (hX.g1.lt _ e.symm).2.1; omega)
            refine hK _ _ (fun _ => ⟨hX3.bx.cell, hX3.by_.cell⟩) ?_
            clear hK K
            try simp only [List.getElem_toArray, List.getElem_cons_zero, List.getElem_cons_succ, Act.put, List.setIfInBounds_toArray, List.set_cons_zero, List.set_cons_succ]
            refine AnyT.ready (rs := [7]) (by kernel_rfl) (by simp) ?_
            refine ReadyT.cons rfl (fun K hK => ?_) ?_
            · refine stepIn_append_GB rfl _ _ 22 rfl hi 2 j0 (.int .i64 0) 1 8 Try.underlying22 HJ.out HY0.out HY1.out HY2.out rfl (by decide) _ ys.length _ _ rfl hX3.g2 ⟨X1.heap.size, 0, none⟩ 1 1 [.int .i64 x2] rfl rfl e2 (one_val rfl) (by decide) (by unfold maxLen; omega) (by omega) hX3.size ?_
              intro p2 kp2 X4 rowp2 hGp2 hgp2 hrp2 hwp2
              have hX4 := hX3.app2 hGp2 hgp2 hrp2 hwp2
              refine hK _ _ (fun _ => ⟨hX4.bx.cell, hX4.by_.cell⟩) ?_
              clear hK K
              try simp only [List.getElem_toArray, List.getElem_cons_zero, List.getElem_cons_succ, Act.put, List.setIfInBounds_toArray, List.set_cons_zero, List.set_cons_succ]
              refine AnyT.ready (rs := [8]) (by kernel_rfl) (by simp) (ReadyT.cons rfl (fun K hK => ?_) ReadyT.nil)
              have c5 := hX4.bx.cell
              have f5 := hX4.bx.frozen
              go_simp
              refine hK _ _ (fun h => absurd h (by decide)) ?_
              clear hK K c5 f5
              try simp only [List.getElem_toArray, List.getElem_cons_zero, List.getElem_cons_succ, Act.put, List.setIfInBounds_toArray, List.set_cons_zero, List.set_cons_succ]
              refine AnyT.ready (rs := [9]) (by kernel_rfl) (by simp) (ReadyT.cons rfl (fun K hK => ?_) ReadyT.nil)
              have c5 := (hX4.by_.other (B' := M + 1 + 1 + 1 + 1 + 1) (by omega) (.slice (some ⟨p1, 0, none⟩) (xs.length + 1) kp1)).cell
              have f5 := (hX4.by_.other (B' := M + 1 + 1 + 1 + 1 + 1) (by omega) (.slice (some ⟨p1, 0, none⟩) (xs.length + 1) kp1)).frozen
              go_simp
              refine hK _ _ (fun h => absurd h (by decide)) ?_
              clear hK K c5 f5
              try simp only [List.getElem_toArray, List.getElem_cons_zero, List.getElem_cons_succ, Act.put, List.setIfInBounds_toArray, List.set_cons_zero, List.set_cons_succ]
              have hF := hX4.store (.slice (some ⟨p1, 0, none⟩) (xs.length + 1) kp1) (.slice (some ⟨p2, 0, none⟩) (ys.length + 1) kp2)
              refine AnyT.done (by kernel_rfl) ?_ _
              generalize ((X4.setCell ⟨M + 1 + 1 + 1 + 1 + 1, 0, none⟩ (.slice (some ⟨p1, 0, none⟩) (xs.length + 1) kp1)).setCell ⟨M + 1 + 1 + 1 + 1 + 1 + 1, 0, none⟩ (.slice (some ⟨p2, 0, none⟩) (ys.length + 1) kp2)) = XF at hF ⊢
              have c6 := hF.bx.cell
              have cM := hF.bm.cell
              clear hX hX1 hX2 hX3 hX4 hGp1 hGp2 e1 e2
              by_cases hme : xs.length + 1 = m
              · have hmb : ((xs.length : Int) + 1 == (m : Int)) = true := by simp; omega
                have HME := Lib.hid hme
                clear hme
                gi_wp2
                refine region_round_T (fun X => X.cell? ⟨M + 1 + 1 + 1 + 1 + 1, 0, none⟩ = some (.slice (some ⟨p1, 0, none⟩) (xs.length + 1) kp1) ∧ X.cell? ⟨M + 1 + 1 + 1 + 1 + 1 + 1, 0, none⟩ = some (.slice (some ⟨p2, 0, none⟩) (ys.length + 1) kp2)) (fun j => decide (j < 3)) rfl (by kernel_rfl) rfl ?_
                change AnyT _ _ _ _ _ _ _ _ 4 _ _ (World.drew _)
                have hX := hF.drew
                clear hF c6 cM
                generalize XF.drew = X6 at hX ⊢
                refine AnyT.take (i := 0) (v := .slice (some ⟨p1, 0, none⟩) (xs.length + 1) kp1) rfl rfl (by kernel_rfl) (by kernel_rfl) (by kernel_rfl) (by kernel_rfl) (by kernel_rfl) (fun _ _ _ h => h) (by kernel_rfl) (fun x hx => by have c := hx.1; go_simp) (fun _ => rfl) ⟨hX.bx.cell, hX.by_.cell⟩ ?_
                try simp only [List.getElem_toArray, List.getElem_cons_zero, List.getElem_cons_succ, Act.put, List.setIfInBounds_toArray, List.set_cons_zero, List.set_cons_succ]
                refine AnyT.take (i := 1) (v := .slice (some ⟨p2, 0, none⟩) (ys.length + 1) kp2) rfl rfl (by kernel_rfl) (by kernel_rfl) (by kernel_rfl) (by kernel_rfl) (by kernel_rfl) (fun _ _ _ h => h) (by kernel_rfl) (fun x hx => by have c := hx.2; go_simp) (fun _ => rfl) ⟨hX.bx.cell, hX.by_.cell⟩ ?_
                try simp only [List.getElem_toArray, List.getElem_cons_zero, List.getElem_cons_succ, Act.put, List.setIfInBounds_toArray, List.set_cons_zero, List.set_cons_succ]
                refine AnyT.ready (rs := [2]) (by kernel_rfl) (by simp) (ReadyT.cons rfl (fun K hK => ?_) ReadyT.nil)
                have c5 := hX.br1.cell
                have f5 := hX.br1.frozen
                go_simp
                refine hK _ _ (fun _ => ⟨(hX.bx.other (by omega) _).cell, (hX.by_.other (by omega) _).cell⟩) ?_
                clear hK K c5 f5
                try simp only [List.getElem_toArray, List.getElem_cons_zero, List.getElem_cons_succ, Act.put, List.setIfInBounds_toArray, List.set_cons_zero, List.set_cons_succ]
                refine AnyT.ready (rs := [3]) (by kernel_rfl) (by simp) (ReadyT.cons rfl (fun K hK => ?_) ReadyT.nil)
                have c5 := (hX.br2.other (B' := M + 1) (by omega) (.slice (some ⟨p1, 0, none⟩) (xs.length + 1) kp1)).cell
                have f5 := (hX.br2.other (B' := M + 1) (by omega) (.slice (some ⟨p1, 0, none⟩) (xs.length + 1) kp1)).frozen
                go_simp
                refine hK _ _ (fun h => absurd h (by decide)) ?_
                clear hK K c5 f5
                try simp only [List.getElem_toArray, List.getElem_cons_zero, List.getElem_cons_succ, Act.put, List.setIfInBounds_toArray, List.set_cons_zero, List.set_cons_succ]
                refine AnyT.done (by kernel_rfl) ?_ _
                obtain ⟨k1, k2, k3, k4, k5, k6, k7, k8⟩ := hX.answer (.slice (some ⟨p1, 0, none⟩) (xs.length + 1) kp1) (.slice (some ⟨p2, 0, none⟩) (ys.length + 1) kp2)
                generalize ((X6.setCell ⟨M + 1, 0, none⟩ (.slice (some ⟨p1, 0, none⟩) (xs.length + 1) kp1)).setCell ⟨M + 1 + 1, 0, none⟩ (.slice (some ⟨p2, 0, none⟩) (ys.length + 1) kp2)) = X7 at k1 k2 k3 k4 k5 k6 k7 k8 ⊢
                have HK := Lib.hid (And.intro k1 (And.intro k2 (And.intro k3 (And.intro k4 (And.intro k5 (And.intro k6 (And.intro k7 k8)))))))
                clear k1 k2 k3 k4 k5 k6 k7 k8 hX
                gi_wp2
                obtain ⟨k1, k2, k3, k4, k5, k6, k7, k8⟩ := HK.out
                have hl2 : w.heap.size ≤ hi := (by omega); refine ⟨k6.from _, ⟨k7, ⟨k8.size, fun k h1 h2 => k8.block k (by omega) (by omega)⟩, ⟨k8.size, fun k h1 h2 => k8.block k (by omega) (by omega)⟩⟩, rfl, by rw [List.length_append, List.length_singleton, ← HXL.out]; exact HME.out, _, _, k1, k2, ?_, ?_, k5, hl2⟩
                · rw [show (pre ++ [(x1, x2)]).length = (xs ++ [x1]).length by simp [HXL.out], List.map_append, HXS.out]; exact k3
                · rw [show (pre ++ [(x1, x2)]).length = (ys ++ [x2]).length by simp [HYL.out], List.map_append, HYS.out]; exact k4
              · have hmb : ((xs.length : Int) + 1 == (m : Int)) = false := by simp; omega
                have hpl : xs.length + 1 < m := by have := HXL.out; omega
                have HF := Lib.hid hF
                clear hme hF
                gi_wp2
                have hn := HF.out.fresh XF (Below.refl _ _) (KeepsOthers.refl _) (Mid.refl _ _ _)
                rw [show xs ++ [x1] = (pre ++ [(x1, x2)]).map (·.1) by rw [List.map_append, HXS.out]; rfl, show ys ++ [x2] = (pre ++ [(x1, x2)]).map (·.2) by rw [List.map_append, HYS.out]; rfl] at hn
                have hmd := HF.out.md; exact ⟨HF.out.ko.from _, ⟨HF.out.bl, ⟨hmd.size, fun k h1 h2 => hmd.block k (by omega) (by omega)⟩, ⟨hmd.size, fun k h1 h2 => hmd.block k (by omega) (by omega)⟩⟩, by rw [List.length_append, List.length_singleton, ← HXL.out]; exact hpl, _, _, _, _, hn⟩
            · exact ReadyT.nil
          · exact ReadyT.nil
        · exact ReadyT.nil
    · refine ReadyT.cons rfl (fun K hK => ?_) ?_
      · go_simp
        have hX1 := hX.alloc (.cells #[.int .i64 x2] 2)
        have e2 : CellAt (X.alloc (.cells #[.int .i64 x2] 2)) X.heap.size (.int .i64 x2) := cell_one _ _ _
        refine hK _ _ (fun _ => ⟨hX1.bx.cell, hX1.by_.cell⟩) ?_
        clear hK K
        try simp only [List.getElem_toArray, List.getElem_cons_zero, List.getElem_cons_succ, Act.put, List.setIfInBounds_toArray, List.set_cons_zero, List.set_cons_succ]
        have X1z : X.heap.size < (X.alloc (.cells #[.int .i64 x2] 2)).heap.size := by rw [World.size_alloc]; omega
        generalize X.alloc (.cells #[.int .i64 x2] 2) = X1 at *
        refine AnyT.ready (rs := [2]) (by kernel_rfl) (by simp) ?_
        refine ReadyT.cons rfl (fun K hK => ?_) ?_
        · go_simp
          have hX2 := hX1.alloc (.cells #[.int .i64 x1] 3)
          have e1 : CellAt (X1.alloc (.cells #[.int .i64 x1] 3)) X1.heap.size (.int .i64 x1) := cell_one _ _ _
          replace e2 := e2.alloc (.cells #[.int .i64 x1] 3)
          refine hK _ _ (fun _ => ⟨hX2.bx.cell, hX2.by_.cell⟩) ?_
          clear hK K
          try simp only [List.getElem_toArray, List.getElem_cons_zero, List.getElem_cons_succ, Act.put, List.setIfInBounds_toArray, List.set_cons_zero, List.set_cons_succ]
          have X2z : X1.heap.size < (X1.alloc (.cells #[.int .i64 x1] 3)).heap.size := by rw [World.size_alloc]; omega
          generalize X1.alloc (.cells #[.int .i64 x1] 3) = X2 at *
          refine AnyT.ready (rs := [3]) (by kernel_rfl) (by simp) ?_
          refine ReadyT.cons rfl (fun K hK => ?_) ?_
          · refine stepIn_append_GB rfl _ _ 24 rfl hi 3 i0 (.int .i64 0) 1 8 Try.underlying24 HI.out HZ0.out HZ1.out HZ2.out rfl (by decide) _ xs.length _ _ rfl hX2.g1 ⟨X1.heap.size, 0, none⟩ 1 1 [.int .i64 x1] rfl rfl e1 (one_val rfl) (by decide) (by unfold maxLen; omega) (by omega) hX2.size ?_
            intro p1 kp1 X3 rowp1 hGp1 hgp1 hrp1 hwp1
            have hX3 := hX2.app1 hGp1 hgp1 hrp1 hwp1
            replace e2 := e2.kept hgp1 (by rintro rfl; rcases hrp1 with e | e; cases e; have := (hX2.g1.lt _ e.symm).2.1; have := (hX.g1.lt _ e.symm).2.1; omega)
            refine hK _ _ (fun _ => ⟨hX3.bx.cell, hX3.by_.cell⟩) ?_
            clear hK K
            try simp only [List.getElem_toArray, List.getElem_cons_zero, List.getElem_cons_succ, Act.put, List.setIfInBounds_toArray, List.set_cons_zero, List.set_cons_succ]
            refine AnyT.ready (rs := [7]) (by kernel_rfl) (by simp) ?_
            refine ReadyT.cons rfl (fun K hK => ?_) ?_
            · refine stepIn_append_GB rfl _ _ 22 rfl hi 2 j0 (.int .i64 0) 1 8 Try.underlying22 HJ.out HY0.out HY1.out HY2.out rfl (by decide) _ ys.length _ _ rfl hX3.g2 ⟨X.heap.size, 0, none⟩ 1 1 [.int .i64 x2] rfl rfl e2 (one_val rfl) (by decide) (by unfold maxLen; omega) (by omega) hX3.size ?_
              intro p2 kp2 X4 rowp2 hGp2 hgp2 hrp2 hwp2
              have hX4 := hX3.app2 hGp2 hgp2 hrp2 hwp2
              refine hK _ _ (fun _ => ⟨hX4.bx.cell, hX4.by_.cell⟩) ?_
              clear hK K
              try simp only [List.getElem_toArray, List.getElem_cons_zero, List.getElem_cons_succ, Act.put, List.setIfInBounds_toArray, List.set_cons_zero, List.set_cons_succ]
              refine AnyT.ready (rs := [8]) (by kernel_rfl) (by simp) (ReadyT.cons rfl (fun K hK => ?_) ReadyT.nil)
              have c5 := hX4.bx.cell
              have f5 := hX4.bx.frozen
              go_simp
              refine hK _ _ (fun h => absurd h (by decide)) ?_
              clear hK K c5 f5
              try simp only [List.getElem_toArray, List.getElem_cons_zero, List.getElem_cons_succ, Act.put, List.setIfInBounds_toArray, List.set_cons_zero, List.set_cons_succ]
              refine AnyT.ready (rs := [9]) (by kernel_rfl) (by simp) (ReadyT.cons rfl (fun K hK => ?_) ReadyT.nil)
              have c5 := (hX4.by_.other (B' := M + 1 + 1 + 1 + 1 + 1) (by omega) (.slice (some ⟨p1, 0, none⟩) (xs.length + 1) kp1)).cell
              have f5 := (hX4.by_.other (B' := M + 1 + 1 + 1 + 1 + 1) (by omega) (.slice (some ⟨p1, 0, none⟩) (xs.length + 1) kp1)).frozen
              go_simp
              refine hK _ _ (fun h => absurd h (by decide)) ?_
              clear hK K c5 f5
              try simp only [List.getElem_toArray, List.getElem_cons_zero, List.getElem_cons_succ, Act.put, List.setIfInBounds_toArray, List.set_cons_zero, List.set_cons_succ]
              have hF := hX4.store (.slice (some ⟨p1, 0, none⟩) (xs.length + 1) kp1) (.slice (some ⟨p2, 0, none⟩) (ys.length + 1) kp2)
              refine AnyT.done (by kernel_rfl) ?_ _
              generalize ((X4.setCell ⟨M + 1 + 1 + 1 + 1 + 1, 0, none⟩ (.slice (some ⟨p1, 0, none⟩) (xs.length + 1) kp1)).setCell ⟨M + 1 + 1 + 1 + 1 + 1 + 1, 0, none⟩ (.slice (some ⟨p2, 0, none⟩) (ys.length + 1) kp2)) = XF at hF ⊢
              have c6 := hF.bx.cell
              have cM := hF.bm.cell
              clear hX hX1 hX2 hX3 hX4 hGp1 hGp2 e1 e2
              by_cases hme : xs.length + 1 = m
              · have hmb : ((xs.length : Int) + 1 == (m : Int)) = true := by simp; omega
                have HME := Lib.hid hme
                clear hme
                gi_wp2
                refine region_round_T (fun X => X.cell? ⟨M + 1 + 1 + 1 + 1 + 1, 0, none⟩ = some (.slice (some ⟨p1, 0, none⟩) (xs.length + 1) kp1) ∧ X.cell? ⟨M + 1 + 1 + 1 + 1 + 1 + 1, 0, none⟩ = some (.slice (some ⟨p2, 0, none⟩) (ys.length + 1) kp2)) (fun j => decide (j < 3)) rfl (by kernel_rfl) rfl ?_
                change AnyT _ _ _ _ _ _ _ _ 4 _ _ (World.drew _)
                have hX := hF.drew
                clear hF c6 cM
                generalize XF.drew = X6 at hX ⊢
                refine AnyT.take (i := 0) (v := .slice (some ⟨p1, 0, none⟩) (xs.length + 1) kp1) rfl rfl (by kernel_rfl) (by kernel_rfl) (by kernel_rfl) (by kernel_rfl) (by kernel_rfl) (fun _ _ _ h => h) (by kernel_rfl) (fun x hx => by have c := hx.1; go_simp) (fun _ => rfl) ⟨hX.bx.cell, hX.by_.cell⟩ ?_
                try simp only [List.getElem_toArray, List.getElem_cons_zero, List.getElem_cons_succ, Act.put, List.setIfInBounds_toArray, List.set_cons_zero, List.set_cons_succ]
                refine AnyT.take (i := 1) (v := .slice (some ⟨p2, 0, none⟩) (ys.length + 1) kp2) rfl rfl (by kernel_rfl) (by kernel_rfl) (by kernel_rfl) (by kernel_rfl) (by kernel_rfl) (fun _ _ _ h => h) (by kernel_rfl) (fun x hx => by have c := hx.2; go_simp) (fun _ => rfl) ⟨hX.bx.cell, hX.by_.cell⟩ ?_
                try simp only [List.getElem_toArray, List.getElem_cons_zero, List.getElem_cons_succ, Act.put, List.setIfInBounds_toArray, List.set_cons_zero, List.set_cons_succ]
                refine AnyT.ready (rs := [2]) (by kernel_rfl) (by simp) (ReadyT.cons rfl (fun K hK => ?_) ReadyT.nil)
                have c5 := hX.br1.cell
                have f5 := hX.br1.frozen
                go_simp
                refine hK _ _ (fun _ => ⟨(hX.bx.other (by omega) _).cell, (hX.by_.other (by omega) _).cell⟩) ?_
                clear hK K c5 f5
                try simp only [List.getElem_toArray, List.getElem_cons_zero, List.getElem_cons_succ, Act.put, List.setIfInBounds_toArray, List.set_cons_zero, List.set_cons_succ]
                refine AnyT.ready (rs := [3]) (by kernel_rfl) (by simp) (ReadyT.cons rfl (fun K hK => ?_) ReadyT.nil)
                have c5 := (hX.br2.other (B' := M + 1) (by omega) (.slice (some ⟨p1, 0, none⟩) (xs.length + 1) kp1)).cell
                have f5 := (hX.br2.other (B' := M + 1) (by omega) (.slice (some ⟨p1, 0, none⟩) (xs.length + 1) kp1)).frozen
                go_simp
                refine hK _ _ (fun h => absurd h (by decide)) ?_
                clear hK K c5 f5
                try simp only [List.getElem_toArray, List.getElem_cons_zero, List.getElem_cons_succ, Act.put, List.setIfInBounds_toArray, List.set_cons_zero, List.set_cons_succ]
                refine AnyT.done (by kernel_rfl) ?_ _
                obtain ⟨k1, k2, k3, k4, k5, k6, k7, k8⟩ := hX.answer (.slice (some ⟨p1, 0, none⟩) (xs.length + 1) kp1) (.slice (some ⟨p2, 0, none⟩) (ys.length + 1) kp2)
                generalize ((X6.setCell ⟨M + 1, 0, none⟩ (.slice (some ⟨p1, 0, none⟩) (xs.length + 1) kp1)).setCell ⟨M + 1 + 1, 0, none⟩ (.slice (some ⟨p2, 0, none⟩) (ys.length + 1) kp2)) = X7 at k1 k2 k3 k4 k5 k6 k7 k8 ⊢
                have HK := Lib.hid (And.intro k1 (And.intro k2 (And.intro k3 (And.intro k4 (And.intro k5 (And.intro k6 (And.intro k7 k8)))))))
                clear k1 k2 k3 k4 k5 k6 k7 k8 hX
                gi_wp2
                obtain ⟨k1, k2, k3, k4, k5, k6, k7, k8⟩ := HK.out
                have hl2 : w.heap.size ≤ hi := (by omega); refine ⟨k6.from _, ⟨k7, ⟨k8.size, fun k h1 h2 => k8.block k (by omega) (by omega)⟩, ⟨k8.size, fun k h1 h2 => k8.block k (by omega) (by omega)⟩⟩, rfl, by rw [List.length_append, List.length_singleton, ← HXL.out]; exact HME.out, _, _, k1, k2, ?_, ?_, k5, hl2⟩
                · rw [show (pre ++ [(x1, x2)]).length = (xs ++ [x1]).length by simp [HXL.out], List.map_append, HXS.out]; exact k3
                · rw [show (pre ++ [(x1, x2)]).length = (ys ++ [x2]).length by simp [HYL.out], List.map_append, HYS.out]; exact k4
              · have hmb : ((xs.length : Int) + 1 == (m : Int)) = false := by simp; omega
                have hpl : xs.length + 1 < m := by have := HXL.out; omega
                have HF := Lib.hid hF
                clear hme hF
                gi_wp2
                have hn := HF.out.fresh XF (Below.refl _ _) (KeepsOthers.refl _) (Mid.refl _ _ _)
                rw [show xs ++ [x1] = (pre ++ [(x1, x2)]).map (·.1) by rw [List.map_append, HXS.out]; rfl, show ys ++ [x2] = (pre ++ [(x1, x2)]).map (·.2) by rw [List.map_append, HYS.out]; rfl] at hn
                have hmd := HF.out.md; exact ⟨HF.out.ko.from _, ⟨HF.out.bl, ⟨hmd.size, fun k h1 h2 => hmd.block k (by omega) (by omega)⟩, ⟨hmd.size, fun k h1 h2 => hmd.block k (by omega) (by omega)⟩⟩, by rw [List.length_append, List.length_singleton, ← HXL.out]; exact hpl, _, _, _, _, hn⟩
            · exact ReadyT.nil
          · exact ReadyT.nil
        · exact ReadyT.nil
      · exact ReadyT.nil
  case done =>
    rintro E hi W hD' ⟨hpm, v1, v2, b1, b2, hP⟩ hK
    have hwhi : w.heap.size ≤ hi := by have := hP.l1; have := hP.l2; omega
    go_wp2_with fail
    refine (wpIn_wide (n := 3)).1 ?_
    refine region_T_calm (fun X => X.cell? ⟨M + 1 + 1 + 1 + 1 + 1, 0, none⟩ = some v1 ∧ X.cell? ⟨M + 1 + 1 + 1 + 1 + 1 + 1, 0, none⟩ = some v2) (fun j => decide (j < 3)) rfl (by kernel_rfl) ?_
    change AnyT _ _ _ _ _ _ _ _ 4 _ _ (World.drew _)
    have hX := (hP.fresh W (Below.refl _ _) (KeepsOthers.refl _) (Mid.refl _ _ _)).drew
    obtain ⟨xs, hxs⟩ : ∃ xs, D.map (·.1) = xs := ⟨_, rfl⟩
    obtain ⟨ys, hys⟩ : ∃ ys, D.map (·.2) = ys := ⟨_, rfl⟩
    have hl1 : xs.length = D.length := by rw [← hxs, List.length_map]
    have hl2 : ys.length = D.length := by rw [← hys, List.length_map]
    rw [hxs, hys] at hX
    obtain ⟨a1, c1, rfl⟩ := hX.g1.slice
    obtain ⟨a2, c2, rfl⟩ := hX.g2.slice
    have HL1 := Lib.hid hl1
    have HL2 := Lib.hid hl2
    have HXS := Lib.hid hxs
    have HYS := Lib.hid hys
    clear hP hl1 hl2 hxs hys
    generalize W.drew = X6 at hX ⊢
    refine AnyT.take (i := 0) (v := .slice a1 xs.length c1) rfl rfl (by kernel_rfl) (by kernel_rfl) (by kernel_rfl) (by kernel_rfl) (by kernel_rfl) (fun _ _ _ h => h) (by kernel_rfl) (fun x hx => by have c := hx.1; go_simp) (fun _ => rfl) ⟨hX.bx.cell, hX.by_.cell⟩ ?_
    try simp only [List.getElem_toArray, List.getElem_cons_zero, List.getElem_cons_succ, Act.put, List.setIfInBounds_toArray, List.set_cons_zero, List.set_cons_succ]
    refine AnyT.take (i := 1) (v := .slice a2 ys.length c2) rfl rfl (by kernel_rfl) (by kernel_rfl) (by kernel_rfl) (by kernel_rfl) (by kernel_rfl) (fun _ _ _ h => h) (by kernel_rfl) (fun x hx => by have c := hx.2; go_simp) (fun _ => rfl) ⟨hX.bx.cell, hX.by_.cell⟩ ?_
    try simp only [List.getElem_toArray, List.getElem_cons_zero, List.getElem_cons_succ, Act.put, List.setIfInBounds_toArray, List.set_cons_zero, List.set_cons_succ]
    refine AnyT.ready (rs := [2]) (by kernel_rfl) (by simp) (ReadyT.cons rfl (fun K hK => ?_) ReadyT.nil)
    have c5 := hX.br1.cell
    have f5 := hX.br1.frozen
    go_simp
    refine hK _ _ (fun _ => ⟨(hX.bx.other (B' := M + 1) (by omega) (.slice a1 xs.length c1)).cell, (hX.by_.other (B' := M + 1) (by omega) (.slice a1 xs.length c1)).cell⟩) ?_
    clear hK K c5 f5
    try simp only [List.getElem_toArray, List.getElem_cons_zero, List.getElem_cons_succ, Act.put, List.setIfInBounds_toArray, List.set_cons_zero, List.set_cons_succ]
    refine AnyT.ready (rs := [3]) (by kernel_rfl) (by simp) (ReadyT.cons rfl (fun K hK => ?_) ReadyT.nil)
    have c5 := (hX.br2.other (B' := M + 1) (by omega) (.slice a1 xs.length c1)).cell
    have f5 := (hX.br2.other (B' := M + 1) (by omega) (.slice a1 xs.length c1)).frozen
    go_simp
    refine hK _ _ (fun h => absurd h (by decide)) ?_
    clear hK K c5 f5
    try simp only [List.getElem_toArray, List.getElem_cons_zero, List.getElem_cons_succ, Act.put, List.setIfInBounds_toArray, List.set_cons_zero, List.set_cons_succ]
    refine AnyT.done (by kernel_rfl) (noPan_normal ?_) _
    obtain ⟨k1, k2, k3, k4, k5, k6, _, _⟩ := hX.answer (.slice a1 xs.length c1) (.slice a2 ys.length c2)
    generalize ((X6.setCell ⟨M + 1, 0, none⟩ (.slice a1 xs.length c1)).setCell ⟨M + 1 + 1, 0, none⟩ (.slice a2 ys.length c2)) = X7 at k1 k2 k3 k4 k5 k6 ⊢
    have hK7 := k6.same E _ hK rfl
    have HK := Lib.hid (And.intro k1 (And.intro k2 (And.intro k3 (And.intro k4 (And.intro k5 hK7)))))
    clear k1 k2 k3 k4 k5 k6 hX hK hK7
    go_wp2
    obtain ⟨k1, k2, k3, k4, k5, hK7⟩ := HK.out
    refine ⟨by simp, .inl ⟨_, _, rfl, run_takeDeferred hK7, ?_⟩⟩
    have q1 := cell_kept k1.cell (grownBy_putObj' _ E (.deferred none)) (fun r e => by cases e; exact ⟨_, hK7, rfl⟩)
    have q2 := cell_kept k2.cell (grownBy_putObj' _ E (.deferred none)) (fun r e => by cases e; exact ⟨_, hK7, rfl⟩)
    rw [List.take_of_length_le (by omega)]
    rw [HL1.out] at k3
    rw [HL2.out] at k4
    rw [← HXS.out] at k3
    rw [← HYS.out] at k4
    rw [HL1.out] at q1
    rw [HL2.out] at q2
    refine ⟨.tuple #[.slice a1 D.length c1, .slice a2 D.length c2], by simp [results, Try.f27, go_sem, q1, q2], _, _, rfl, gath_putObj (gath_base k3 (by omega)) _ hK7 rfl, gath_putObj (gath_base k4 (by omega)) _ hK7 rfl, ?_⟩
    exact k5.trans (belowK_b (w := w) (Nat.le_refl _) _ E _ _ (by omega) hK7 rfl rfl)
  case stop =>
    rintro E hi c pre W hD' hpre ⟨rfl, hil, v1, v2, k1, k2, k3, k4, k5, k6⟩ hK7
    gi_wp2
    refine ⟨by simp, .inl ⟨_, _, rfl, run_takeDeferred hK7, ?_⟩⟩
    have q1 := cell_kept k1.cell (grownBy_putObj' _ E (.deferred none)) (fun r e => by cases e; exact ⟨_, hK7, rfl⟩)
    have q2 := cell_kept k2.cell (grownBy_putObj' _ E (.deferred none)) (fun r e => by cases e; exact ⟨_, hK7, rfl⟩)
    have htk : D.take m = pre := by
      obtain ⟨t, ht⟩ := hpre
      rw [← ht, ← hil, List.take_left]
    rw [htk]
    refine ⟨.tuple #[v1, v2], by simp [results, Try.f27, go_sem, q1, q2], v1, v2, rfl, gath_putObj (gath_base k3 (by omega)) _ hK7 rfl, gath_putObj (gath_base k4 (by omega)) _ hK7 rfl, ?_⟩
    exact k5.trans (belowK_b (w := w) (Nat.le_refl _) _ E _ _ (by omega) hK7 rfl rfl)
/-- Whatever number is asked for. -/
theorem lmoves_any {w : World} {g nb : Nat} {ws : List Int} {F : Nat → Nat → Int} (h0 : IsG w g nb ws F) (hn : ws.length ≤ 1000) {a : Option Addr} {b off len cap : Nat} {zs : List Int} (hp : IntsAt .i64 w.heap.size w a b off len zs) (hpn : a = none → len = 0 ∧ cap = 0) (b0 b1 m : Int) (hm : m ≤ 100000) :
    Calls Try.prog 27 #[.pointer (some ⟨g, 0, none⟩), .slice a len cap, .agg #[.int .i64 b0, .int .i64 b1], .int .i64 m] w (TwoPost w ((encI (movesD ws F b0 b1 zs)).take m.toNat)) := by
  by_cases h : m ≤ 0
  · rw [show m.toNat = 0 by omega]
    exact none_any b0 b1 m h
  · have := some_any h0 hn hp hpn b0 b1 m.toNat (by omega) (by omega)
    rwa [show ((m.toNat : Nat) : Int) = m by omega] at this
end Go.Proofs.Ytjpgkocffceeoaa.L13

namespace Go.Proofs.Ytjpgkocffceeoaa.L13
open Go.RowKit Go.ChangeShapes Go.WideShapes Go.Deep

theorem cellsRop : Try.prog.cellsOf 59 = 3 := by kernel_rfl
set_option maxRecDepth 100000 in
theorem rop_of {H : Type} {enc : TypeId × Value → H} {W : World} {fuel : Nat} {cs : List Value} {x : DataW H × List MemPlace} {spare : Nat → Bool} {held : Bool} {base : Nat}
    (h : DataW.trod enc Try.prog W base spare held fuel 59 cs = some x) (hl : cs.length = 3) :
    ∃ o : RopV, cs = [.int .i64 o.kind, .int .i64 o.key, .int .i64 o.n] ∧ o.ok := by
  obtain ⟨xs, n, _, _, _, hxl, hf⟩ := DataW.trod_struct Try.underlying59 h
  match cs, hl with
  | [c0, c1, c2], _ =>
  match xs, hxl with
  | [y0, y1, y2], _ =>
  have h0 := hf 0 _ rfl
  have h1 := hf 1 _ rfl
  have h2 := hf 2 _ rfl
  simp only [List.getElem?_cons_zero, List.getElem?_cons_succ] at h0 h1 h2
  obtain ⟨k, hk, _, hkw⟩ := DataW.trod_int Try.underlying3 h0
  obtain ⟨m, hm, _, hmw⟩ := DataW.trod_int Try.underlying3 h1
  obtain ⟨s, hs, _, hsw⟩ := DataW.trod_int Try.underlying2 h2
  cases hk; cases hm; cases hs
  exact ⟨⟨k, m, s⟩, rfl, bounds_i64 hkw, bounds_i64 hmw, bounds_i64 hsw⟩
set_option maxRecDepth 100000 in
theorem open_rops {H : Type} {enc : TypeId × Value → H} {W : World} {a : Option Addr} {len cap : Nat} {d : DataW H} {p : List MemPlace}
    (h : DataW.Trod enc Try.prog W 0 (fun _ => true) true 45 (.slice a len cap) d p) : ∃ ops, IsRops W a len cap ops := by
  obtain ⟨fuel, hf⟩ := h
  rcases open_slice Try.underlying45 hf with ⟨hcs, _⟩ | ⟨x, l, c, m, n, D, Pl, hcs, hb, hl, hm, hmm, hx, hi⟩
  · simp [Value.cells] at hcs
    obtain ⟨rfl, rfl, rfl⟩ := hcs
    exact ⟨[], Nat.le_refl _, 0, 0, .inl rfl, rfl, Nat.zero_le _, .inl rfl, fun i o hi => by simp at hi, fun o ho => by simp at ho⟩
  · simp [Value.cells] at hcs
    obtain ⟨rfl, rfl, rfl⟩ := hcs
    rw [if_pos rfl] at hmm
    subst hmm
    rw [cellsRop] at hi
    have hall : ∀ i : Fin len, ∃ o : RopV, W.cells? 0 (x.add (i.val * 3)) 3 = some [.int .i64 o.kind, .int .i64 o.key, .int .i64 o.n] ∧ o.ok := by
      intro i
      obtain ⟨cs', hc, ht⟩ := hi i.val (by have := i.isLt; omega)
      obtain ⟨_, hcl, _⟩ := World.cells?_some hc
      obtain ⟨o, rfl, ho⟩ := rop_of ht hcl
      exact ⟨o, hc, ho⟩
    obtain ⟨f, hf'⟩ := Classical.axiomOfChoice hall
    obtain ⟨b, off, spot⟩ := x
    by_cases h0 : len = 0
    · subst h0
      exact ⟨[], hl, b, off, .inl rfl, rfl, Nat.zero_le _, .inl rfl, fun i o hi => by simp at hi, fun o ho => by simp at ho⟩
    · have hc00 := (World.cells?_some (hf' ⟨0, by omega⟩).1).2.2 0 (by decide)
      have hspot : spot = none := by simpa [Addr.add] using World.cell?_spot hc00
      subst hspot
      have hblk : b < W.heap.size := by
        have := World.block_lt_of_cell? _ _ hc00
        simpa [Addr.add] using this
      refine ⟨List.ofFn f, hl, b, off, .inr rfl, List.length_ofFn, by omega, .inr hblk, fun i o hio => ?_, fun o ho => ?_⟩
      · obtain ⟨hil, hio'⟩ := List.getElem?_eq_some_iff.1 hio
        rw [List.length_ofFn] at hil
        rw [List.getElem_ofFn] at hio'
        subst hio'
        have hcs := (World.cells?_some (hf' ⟨i, hil⟩).1).2.2
        have e0 := hcs 0 (by decide)
        have e1 := hcs 1 (by decide)
        have e2 := hcs 2 (by decide)
        simp only [addr_add] at e0 e1 e2
        exact ⟨e0, e1, e2⟩
      · rw [List.mem_ofFn] at ho
        obtain ⟨i, rfl⟩ := ho
        exact (hf' i).2
end Go.Proofs.Ytjpgkocffceeoaa.L13

namespace Go.Proofs.Ytjpgkocffceeoaa.L13
open Go.RowKit Rk

/-- What a build leaves. -/
def BuildPost (w : World) (zs : List Int) (ops : List RopV) (e : Ending) (w' : World) : Prop :=
  Below w.heap.size w w' ∧ (((newE zs ≠ 0 ∨ 30 < zs.length ∨ 60 < ops.length) ∧ e = .returned (.tuple #[.pointer none, .agg #[.slice none 0 0, .slice none 0 0], .bool false])) ∨
    ((zs.length ≤ 30 ∧ ops.length ≤ 60) ∧ ∃ g nb lo Bx X, e = .returned (.tuple #[.pointer (some ⟨g, 0, none⟩), X.val zs.length, .bool true]) ∧ BothR w g nb Bx lo X zs (joins zs.length noTab ops) w' ∧ w.heap.size ≤ nb ∧ w.heap.size ≤ lo))
set_option maxRecDepth 100000 in
set_option maxHeartbeats 4000000 in
theorem build_any {w : World} {a0 : Option Addr} {b off len0 cap0 : Nat} {zs : List Int} (hi : IntsAt .i64 w.heap.size w a0 b off len0 zs) (h0 : a0 = none → len0 = 0 ∧ cap0 = 0) {a1 : Option Addr} {b1 off1 len1 cap1 : Nat} {ops : List RopV} (hi1 : RopsAt w.heap.size w a1 b1 off1 len1 ops) :
    Calls Try.prog 26 #[.slice a0 len0 cap0, .slice a1 len1 cap1] w (BuildPost w zs ops) := by
  have hlz := hi.length
  have hl1 := hi1.length
  have hsm := hi.small
  have hsm1 := hi1.small
  unfold maxLen at hsm hsm1
  have HI := Lib.hid hi
  have HN := Lib.hid h0
  have HL := Lib.hid hlz
  have HL1 := Lib.hid hl1
  have H1 := Lib.hid hi1
  have hb0 : Below w.heap.size w (w.alloc (.cells #[.slice none 0 0, .slice none 0 0] 29)) := (Below.refl _ w).alloc (Nat.le_refl _) _
  have HB0 := Lib.hid hb0
  have hr0 : (w.alloc (.cells #[.slice none 0 0, .slice none 0 0] 29)).heap[w.heap.size]? = some (.cells #[.slice none 0 0, .slice none 0 0] 29 (0, 0)) := heap_new (w := w) _ rfl
  have HR0 := Lib.hid hr0
  clear hi h0 hlz hl1 hi1 hb0 hr0
  go_enter Try.func26, Try.ntmps26
  go_upto_region 1 with fail
  obtain ⟨w1, hw1⟩ : ∃ w1, w.alloc (.cells #[.slice none 0 0, .slice none 0 0] 29) = w1 := ⟨_, rfl⟩
  rw [hw1] at HB0 HR0 ⊢
  clear hw1
  have z1 := HB0.out.size
  by_cases hout : 30 < len0 ∨ 60 < len1
  · have HE : Hid (newE zs ≠ 0 ∨ 30 < zs.length ∨ 60 < ops.length) := Lib.hid (.inr (by rw [HL.out, HL1.out]; exact hout))
    have r0 : w1.cell? ⟨w.heap.size, 0, none⟩ = some (.slice none 0 0) := heap_cell HR0.out rfl
    have r1 : w1.cell? ⟨w.heap.size, 1, none⟩ = some (.slice none 0 0) := heap_cell HR0.out rfl
    have q0 := heap_frozen HR0.out 0
    have q1 := heap_frozen HR0.out 1
    have HBe : Hid (Below w.heap.size w ((w1.setCell ⟨w.heap.size, 0, none⟩ (.slice none 0 0)).setCell ⟨w.heap.size, 1, none⟩ (.slice none 0 0))) := Lib.hid ((HB0.out.setCell (p := ⟨w.heap.size, 0, none⟩) (Nat.le_refl _) _).setCell (p := ⟨w.heap.size, 1, none⟩) (Nat.le_refl _) _)
    have HRe : Hid (((w1.setCell ⟨w.heap.size, 0, none⟩ (.slice none 0 0)).setCell ⟨w.heap.size, 1, none⟩ (.slice none 0 0)).heap[w.heap.size]? = some (.cells #[.slice none 0 0, .slice none 0 0] 29 (0, 0))) := Lib.hid (by
      have := heap_set (heap_set HR0.out 0 (.slice none 0 0)) 1 (.slice none 0 0)
      simpa using this)
    cases hx1 : decide (30 < (len0 : Int)) with
    | true =>
      clear hout
      go_wp2
      have e0 := heap_cell HRe.out (i := 0) rfl
      have e1 := heap_cell HRe.out (i := 1) rfl
      refine bodyPost_ret (v := .tuple #[.pointer none, .agg #[.slice none 0 0, .slice none 0 0], .bool false]) (by simp [results, Try.f26, go_sem, e0, e1]) rfl ?_
      exact ⟨HBe.out, .inl ⟨HE.out, rfl⟩⟩
    | false =>
      have hx2 : decide (60 < (len1 : Int)) = true := by simp at hx1 ⊢; omega
      clear hout
      go_wp2
      have e0 := heap_cell HRe.out (i := 0) rfl
      have e1 := heap_cell HRe.out (i := 1) rfl
      refine bodyPost_ret (v := .tuple #[.pointer none, .agg #[.slice none 0 0, .slice none 0 0], .bool false]) (by simp [results, Try.f26, go_sem, e0, e1]) rfl ?_
      exact ⟨HBe.out, .inl ⟨HE.out, rfl⟩⟩
  have hl30 : len0 ≤ 30 := by omega
  have hl60 : len1 ≤ 60 := by omega
  have d1 : decide (30 < (len0 : Int)) = false := by simp; omega
  have d4 : decide (60 < (len1 : Int)) = false := by simp; omega
  clear hout hsm hsm1
  have HNw := Lib.hid (new_any (cap := cap0) ((HI.out.kept HB0.out (Nat.le_refl _)).mono z1) HN.out)
  go_wp2_with fail
  refine HNw.out.mono ?_
  rintro e w3 ⟨hB, hc⟩
  have HB3 := Lib.hid (HB0.out.trans (hB.mono z1))
  have z3 := HB3.out.size
  have HR3 := Lib.hid (heap_below HR0.out hB (heap_lt HR0.out))
  have HNx := Lib.hid (newX_any (cap := cap0) ((HI.out.kept HB3.out (Nat.le_refl _)).mono z3))
  have z13 := hB.size
  clear hB HNw
  rcases hc with ⟨h1, rfl⟩ | ⟨hE0, g, nb, rfl, hG, hg, hn⟩
  · have hne : (newE zs == 0) = false := by simpa using h1
    have hne2 : (newE zs != 0) = true := by simp [bne, hne]
    have HNE := Lib.hid h1
    clear h1
    go_wp2_with fail
    refine HNx.out.mono ?_
    rintro e w4 ⟨hB, hc⟩
    have HB4 := Lib.hid (HB3.out.trans (hB.mono z3))
    have HR4 := Lib.hid (heap_below HR3.out hB (heap_lt HR3.out))
    have z4 := hB.size
    clear hB HNx
    rcases hc with ⟨h1, rfl⟩ | ⟨h1, _⟩
    rotate_left
    · exact absurd h1 HNE.out
    have hr5 := heap_alloc HR4.out (.cells #[.slice none 0 0, .slice none 0 0] 29)
    have HR5 := Lib.hid hr5
    have hx5 : (w4.alloc (.cells #[.slice none 0 0, .slice none 0 0] 29)).heap[w4.heap.size]? = some (.cells #[.slice none 0 0, .slice none 0 0] 29 (0, 0)) := heap_new (w := w4) _ rfl
    have HB5 := Lib.hid (HB4.out.alloc HB4.out.size (.cells #[.slice none 0 0, .slice none 0 0] 29))
    go_upto_region 6 with fail
    generalize hw5 : w4.alloc (.cells #[.slice none 0 0, .slice none 0 0] 29) = w5 at *
    have p0 : w5.cell? ⟨w4.heap.size, 0, none⟩ = some (.slice none 0 0) := heap_cell hx5 rfl
    have p1 : w5.cell? ⟨w4.heap.size, 1, none⟩ = some (.slice none 0 0) := heap_cell hx5 rfl
    have r0 : w5.cell? ⟨w.heap.size, 0, none⟩ = some (.slice none 0 0) := heap_cell hr5 rfl
    have r1 : w5.cell? ⟨w.heap.size, 1, none⟩ = some (.slice none 0 0) := heap_cell hr5 rfl
    have q0 := heap_frozen hr5 0
    have q1 := heap_frozen hr5 1
    have HBe : Hid (Below w.heap.size w ((w5.setCell ⟨w.heap.size, 0, none⟩ (.slice none 0 0)).setCell ⟨w.heap.size, 1, none⟩ (.slice none 0 0))) := Lib.hid ((HB5.out.setCell (p := ⟨w.heap.size, 0, none⟩) (Nat.le_refl _) _).setCell (p := ⟨w.heap.size, 1, none⟩) (Nat.le_refl _) _)
    have HRe : Hid (((w5.setCell ⟨w.heap.size, 0, none⟩ (.slice none 0 0)).setCell ⟨w.heap.size, 1, none⟩ (.slice none 0 0)).heap[w.heap.size]? = some (.cells #[.slice none 0 0, .slice none 0 0] 29 (0, 0))) := Lib.hid (by
      have := heap_set (heap_set hr5 0 (.slice none 0 0)) 1 (.slice none 0 0)
      simpa using this)
    clear hr5 hx5 hw5 h1 hne hne2
    go_region
    all_goals
      obtain ⟨w6, hw6⟩ : ∃ w6, ((w5.setCell ⟨w.heap.size, 0, none⟩ (.slice none 0 0)).setCell ⟨w.heap.size, 1, none⟩ (.slice none 0 0)).drew = w6 := ⟨_, rfl⟩
      have HB6 : Hid (Below w.heap.size w w6) := Lib.hid (by rw [← hw6]; exact HBe.out.drew)
      have hr6 : w6.heap[w.heap.size]? = some (.cells #[.slice none 0 0, .slice none 0 0] 29 (0, 0)) := by rw [← hw6]; exact HRe.out
      rw [hw6]
      clear hw6 p0 p1 r0 r1 q0 q1 HBe HRe
      go_wp2
      have e0 := heap_cell hr6 (i := 0) rfl
      have e1 := heap_cell hr6 (i := 1) rfl
      refine bodyPost_ret (v := .tuple #[.pointer none, .agg #[.slice none 0 0, .slice none 0 0], .bool false]) (by simp [results, Try.f26, go_sem, e0, e1]) rfl ?_
      exact ⟨HB6.out, .inl ⟨.inl HNE.out, rfl⟩⟩
  have HE0 := Lib.hid hE0
  have HG3 := Lib.hid hG
  have hgl := hG.lt
  clear hE0 hG
  go_wp2_with fail
  refine HNx.out.mono ?_
  rintro e w4 ⟨hB, hc⟩
  rcases hc with ⟨h1, _⟩ | ⟨_, X, rfl, hX⟩
  · exact absurd HE0.out h1
  have HB4 := Lib.hid (HB3.out.trans (hB.mono z3))
  have HR4 := Lib.hid (heap_below HR3.out hB (heap_lt HR3.out))
  have HG4 := Lib.hid (HG3.out.below hB)
  have HX4 := Lib.hid hX
  have z4 := HB4.out.size
  have hgw : ∀ wa wc rest ty fr, w4.heap[g]? = some (.cells #[.slice (some wa) zs.length wc, rest] ty fr) → zs.length = 0 ∨ wa.block < w3.heap.size := fun wa wc rest ty fr e => by
    by_cases hz : zs.length = 0
    · exact .inl hz
    obtain ⟨wa', wc', wb', k1, k2⟩ := HG3.out.box
    have k3 := heap_below k1 hB hgl.1
    rw [e] at k3
    cases k3
    have := k2.addr.resolve_left hz
    cases this
    exact .inr (k2.below.resolve_left hz)
  have hbx : (w4.alloc (.cells #[.slice X.wa zs.length X.wc, .slice X.ra zs.length X.rc] 29)).heap[w4.heap.size]? = some (.cells #[.slice X.wa zs.length X.wc, .slice X.ra zs.length X.rc] 29 (0, 0)) := heap_new (w := w4) _ rfl
  have hb5 : Below w4.heap.size w4 (w4.alloc (.cells #[.slice X.wa zs.length X.wc, .slice X.ra zs.length X.rc] 29)) := (Below.refl _ _).alloc (Nat.le_refl _) _
  have hR5 : BothR w g nb w4.heap.size w3.heap.size X zs noTab (w4.alloc (.cells #[.slice X.wa zs.length X.wc, .slice X.ra zs.length X.rc] 29)) :=
    ⟨HG4.out.below hb5, HX4.out.below hb5, fun wa wc rest ty fr e => hgw wa wc rest ty fr (by rw [← hb5.block g HG4.out.lt.1]; exact e), hbx, HB4.out.trans (hb5.mono z4)⟩
  have HR5 := Lib.hid hR5
  have HQ5 := Lib.hid (heap_below HR4.out hb5 (heap_lt HR4.out))
  have hnb : w.heap.size < nb := by have := heap_lt HR0.out; omega
  have hlo : w.heap.size < w3.heap.size := heap_lt HR3.out
  have hBx0 : w.heap.size < w4.heap.size := heap_lt HR4.out
  obtain ⟨lo, hlo'⟩ : ∃ lo, w3.heap.size = lo := ⟨_, rfl⟩
  rw [hlo'] at HR5 hlo
  have hnb4 : nb < w4.heap.size := HG4.out.lt.2
  clear hB hX hgw hbx hb5 hR5 HNx HB0 HB3 HG3 HG4 HX4 HB4 hgl hg hn HE0 hlo' HR0 HR3 HR4
  unfold XD.val
  rw [HL.out]
  rw [HL.out] at HR5 HQ5
  go_wp2
  generalize hbx0 : w4.heap.size = Bx at *
  generalize w4.alloc (.cells #[.slice X.wa len0 X.wc, .slice X.ra len0 X.rc] 29) = w5 at *
  go_loopw [45] (fun i wr => ∃ (k : Nat), i = .int .i64 k ∧ k ≤ len1 ∧ Hid (BothR w g nb Bx lo X zs (joins len0 noTab (ops.take k)) wr) ∧ Hid (wr.heap[w.heap.size]? = some (.cells #[.slice none 0 0, .slice none 0 0] 29 (0, 0)))) (fun i _ => len1 - (intOf i).toNat)
  case atStart => exact ⟨0, rfl, Nat.zero_le _, HR5, HQ5⟩
  case round =>
    clear HR5 HQ5
    obtain ⟨k, rfl, hk, HR, HQ⟩ := hrel
    have zr := HR.out.below.size
    by_cases hlt : k < len1
    · as_aux_lemma =>
      have hI := H1.out.kept HR.out.below (Nat.le_refl _)
      obtain rfl : a1 = some ⟨b1, off1, none⟩ := hI.addr.resolve_left (by omega)
      obtain ⟨o, ho⟩ : ∃ o, ops[k]? = some o := ⟨ops[k]'(by rw [hI.length]; exact hlt), List.getElem?_eq_getElem _⟩
      obtain ⟨c0, c1, c2⟩ := hI.cell k o ho
      have HJ := Lib.hid (joins_take (n := len0) (F := noTab) ho)
      obtain ⟨oa, ob, ow⟩ := o
      simp only at c0 c1 c2 HJ
      have hal := (Below.refl wr.heap.size wr).alloc (Nat.le_refl _) (.cells #[.int .i64 oa, .int .i64 ob, .int .i64 ow] 59)
      have HRc := Lib.hid (HR.out.on hal)
      have HQc := Lib.hid (heap_below HQ.out hal (heap_lt HQ.out))
      have hop : (wr.alloc (.cells #[.int .i64 oa, .int .i64 ob, .int .i64 ow] 59)).heap[wr.heap.size]? = some (.cells #[.int .i64 oa, .int .i64 ob, .int .i64 ow] 59 (0, 0)) := heap_new (w := wr) _ rfl
      have HOP := Lib.hid hop
      have hnl := HR.out.one.lt
      have hrl : ∀ a, a < zs.length → X.rows a < wr.heap.size ∧ lo ≤ X.rows a := fun a ha => ⟨heap_lt (HR.out.two.row a ha).2.2, (HR.out.two.row a ha).1⟩
      have HRL := Lib.hid hrl
      have hbxr := heap_lt HR.out.box
      clear hI ho hal hop hrl HR HQ
      go_upto_region 10 with fail
      clear c0 c1 c2
      generalize wr.alloc (.cells #[.int .i64 oa, .int .i64 ob, .int .i64 ow] 59) = wc at *
      generalize hob : wr.heap.size = ob5 at *
      generalize joins len0 noTab (ops.take k) = F at *
      obtain ⟨F1, hF1⟩ : ∃ F1, joinF len0 F oa ob ow = F1 := ⟨_, rfl⟩
      rw [hF1] at HJ
      obtain ⟨v1, hv1⟩ : ∃ v1, joinE len0 F oa ob ow = v1 := ⟨_, rfl⟩
      have s0 : wc.cell? ⟨ob5, 0, none⟩ = some (.int .i64 oa) := heap_cell HOP.out rfl
      have s1 : wc.cell? ⟨ob5, 1, none⟩ = some (.int .i64 ob) := heap_cell HOP.out rfl
      have s2 : wc.cell? ⟨ob5, 2, none⟩ = some (.int .i64 ow) := heap_cell HOP.out rfl
      have HJ1 := Lib.hid (join_lit HRc.out.one HL.out oa ob ow hv1 hF1)
      go_wp2_with fail
      refine HJ1.out.mono ?_
      rintro e w6 ⟨rfl, h1, h2⟩
      obtain ⟨k1, k2, k3, k4⟩ := HRc.out.joinG h1 h2 (by omega)
      have hopw := h2.old HOP.out (by omega)
      have HQ6 := Lib.hid (h2.old HQc.out (by omega))
      clear s0 s1 s2 h2 HJ1
      have s0 : w6.cell? ⟨ob5, 0, none⟩ = some (.int .i64 oa) := heap_cell hopw rfl
      have s1 : w6.cell? ⟨ob5, 1, none⟩ = some (.int .i64 ob) := heap_cell hopw rfl
      have s2 : w6.cell? ⟨ob5, 2, none⟩ = some (.int .i64 ow) := heap_cell hopw rfl
      have s3 : w6.cell? ⟨Bx, 0, none⟩ = some (.slice X.wa len0 X.wc) := by rw [← HL.out]; exact heap_cell k2 rfl
      have s4 : w6.cell? ⟨Bx, 1, none⟩ = some (.slice X.ra len0 X.rc) := by rw [← HL.out]; exact heap_cell k2 rfl
      have HJ2 : Hid (Calls Try.prog 35 #[.agg #[.slice X.wa len0 X.wc, .slice X.ra len0 X.rc], .int .i64 oa, .int .i64 ob, .int .i64 ow] w6 (fun e w' => e = .returned (.int .i64 v1) ∧ Hid (BothR w g nb Bx lo X zs F1 w') ∧ Hid (w'.heap[w.heap.size]? = some (.cells #[.slice none 0 0, .slice none 0 0] 29 (0, 0))))) := Lib.hid (by
        have := xjoin_any k1 oa ob ow
        unfold XD.val at this
        rw [HL.out] at this
        refine this.mono ?_
        rintro e w' ⟨rfl, q1, q2⟩
        rw [HL.out] at q1 q2 ⊢
        rw [hF1] at q1
        refine ⟨by rw [hv1], Lib.hid (BothR.joinX h1 k1 k3 k2 k4 (by omega) q1 (by rw [HL.out]; exact q2)), Lib.hid (q2.old HQ6.out ?_)⟩
        rintro ⟨a, ha, e⟩
        have := HRL.out a (by rw [HL.out]; exact ha)
        omega)
      clear h1 k1 k2 k3 k4 hopw hv1 hF1
      go_wp2_with fail
      refine HJ2.out.mono ?_
      rintro e w7 ⟨rfl, HR7, HQ7⟩
      clear s0 s1 s2 s3 s4
      go_wp2
      go_roundw
      case rel => exact ⟨k + 1, by go_num, by omega, by rw [HJ.out]; exact HR7, HQ7⟩
      case measure => simp [intOf]; omega
    · obtain rfl : k = len1 := by omega
      have hR := HR.out
      rw [List.take_of_length_le (by rw [HL1.out]; exact Nat.le_refl _)] at hR
      have HRf := Lib.hid hR
      have p0 : wr.cell? ⟨Bx, 0, none⟩ = some (.slice X.wa len0 X.wc) := by rw [← HL.out]; exact heap_cell hR.box rfl
      have p1 : wr.cell? ⟨Bx, 1, none⟩ = some (.slice X.ra len0 X.rc) := by rw [← HL.out]; exact heap_cell hR.box rfl
      have r0 : wr.cell? ⟨w.heap.size, 0, none⟩ = some (.slice none 0 0) := heap_cell HQ.out rfl
      have r1 : wr.cell? ⟨w.heap.size, 1, none⟩ = some (.slice none 0 0) := heap_cell HQ.out rfl
      have q0 := heap_frozen HQ.out 0
      have q1 := heap_frozen HQ.out 1
      clear hR HR
      go_wp2
      go_region
      all_goals
        obtain ⟨w6, hw6⟩ : ∃ w6, ((wr.setCell ⟨w.heap.size, 0, none⟩ (.slice X.wa len0 X.wc)).setCell ⟨w.heap.size, 1, none⟩ (.slice X.ra len0 X.rc)).drew = w6 := ⟨_, rfl⟩
        have hr6 : w6.heap[w.heap.size]? = some (.cells #[.slice X.wa len0 X.wc, .slice X.ra len0 X.rc] 29 (0, 0)) := by
          rw [← hw6]
          have h8 := heap_set (heap_set HQ.out 0 (.slice X.wa len0 X.wc)) 1 (.slice X.ra len0 X.rc)
          have h9 : ((wr.setCell ⟨w.heap.size, 0, none⟩ (.slice X.wa len0 X.wc)).setCell ⟨w.heap.size, 1, none⟩ (.slice X.ra len0 X.rc)).heap[w.heap.size]? = some (.cells #[.slice X.wa len0 X.wc, .slice X.ra len0 X.rc] 29 (0, 0)) := by simpa using h8
          exact h9
        have HR6 : Hid (BothR w g nb Bx lo X zs (joins len0 noTab ops) w6) := Lib.hid (by
          rw [← hw6]
          have t1 : Turned (fun c => c = w.heap.size) wr (wr.setCell ⟨w.heap.size, 0, none⟩ (.slice X.wa len0 X.wc)) := (Turned.set _ _ _ _).weak (fun c _ e => e)
          have t2 : Turned (fun c => c = w.heap.size) (wr.setCell ⟨w.heap.size, 0, none⟩ (.slice X.wa len0 X.wc)) ((wr.setCell ⟨w.heap.size, 0, none⟩ (.slice X.wa len0 X.wc)).setCell ⟨w.heap.size, 1, none⟩ (.slice X.ra len0 X.rc)) := (Turned.set _ _ _ _).weak (fun c _ e => e)
          refine (HRf.out.boxOff HQ.out (t1.trans t2) (by omega) (by omega) (by omega) (Nat.le_refl _)).on (Below.refl _ _).drew)
        rw [hw6]
        clear hw6 p0 p1 r0 r1 q0 q1 HRf HQ
        go_wp2
        have e0 := heap_cell hr6 (i := 0) rfl
        have e1 := heap_cell hr6 (i := 1) rfl
        refine bodyPost_ret (v := .tuple #[.pointer (some ⟨g, 0, none⟩), .agg #[.slice X.wa len0 X.wc, .slice X.ra len0 X.rc], .bool true]) (by simp [results, Try.f26, go_sem, e0, e1]) rfl ?_
        refine ⟨HR6.out.below, .inr ⟨⟨by rw [HL.out]; exact hl30, by rw [HL1.out]; exact hl60⟩, g, nb, lo, Bx, X, by unfold XD.val; rw [HL.out], by rw [HL.out]; exact HR6.out, by omega, by omega⟩⟩
end Go.Proofs.Ytjpgkocffceeoaa.L13

namespace Go.Proofs.Ytjpgkocffceeoaa.L13
open Go.RowKit Go.Shelf Rk

def aF : Nat → Nat → Int := joins 2 noTab [⟨0, 1, 3⟩]
theorem m1 : movesD [1, 1] aF 2 2 [0, 1] = [(0, 3), (1, -3)] := by decide
theorem m2 : movesD [1, 1] aF 1 1 [0, 1] = [] := by decide
theorem m3 : movesD [1, 1] aF 2 2 [1, 1] = [(0, -3), (1, 3)] := by decide
theorem e1 : Ends [1, 1] aF 2 2 [0, 1] [1, 1] := Ends.go (by rw [m1]; decide) (by
  rw [m1, show passP [0, 1] [(0, 3), (1, -3)] = [1, 1] by decide]
  exact Ends.stop (by rw [m3]; decide))
theorem ints_two (w : World) (a b : Int) (ha : (Lit.int .i64 a).wf = true) (hb : (Lit.int .i64 b).wf = true) (t : TypeId) : IntsAt .i64 (w.alloc (.cells #[.int .i64 a, .int .i64 b] t)).heap.size (w.alloc (.cells #[.int .i64 a, .int .i64 b] t)) (some ⟨w.heap.size, 0, none⟩) w.heap.size 0 2 [a, b] :=
  ⟨.inr rfl, rfl, by decide, .inr (by simp), fun i hi => by
    match i, hi with
    | 0, _ => exact heap_cell (heap_new _ rfl) rfl
    | 1, _ => exact heap_cell (heap_new _ rfl) rfl, fun n hn => by simp at hn; rcases hn with rfl | rfl <;> assumption⟩
theorem rops_one (w : World) (o : RopV) (ho : o.ok) (t : TypeId) : RopsAt (w.alloc (.cells #[.int .i64 o.kind, .int .i64 o.key, .int .i64 o.n] t)).heap.size (w.alloc (.cells #[.int .i64 o.kind, .int .i64 o.key, .int .i64 o.n] t)) (some ⟨w.heap.size, 0, none⟩) w.heap.size 0 1 [o] :=
  ⟨.inr rfl, rfl, by decide, .inr (by simp), fun i o' hi => by
    match i, hi with
    | 0, hi =>
      cases hi
      exact ⟨heap_cell (heap_new _ rfl) rfl, heap_cell (heap_new _ rfl) rfl, heap_cell (heap_new _ rfl) rfl⟩, fun n hn => by simp at hn; subst hn; exact ho⟩
theorem both_base {v w W : World} {g nb Bx lo : Nat} {X : XD} {zs : List Int} {F : Nat → Nat → Int} (h : BothR w g nb Bx lo X zs F W) (hb : Below v.heap.size v w) : BothR v g nb Bx lo X zs F W :=
  ⟨h.one, h.two, h.gw, h.box, hb.trans (h.below.mono hb.size)⟩
/-- A pass over parts that are known. -/
theorem pass_lit {w : World} {g nb : Nat} {ws : List Int} {F : Nat → Nat → Int} (h0 : IsG w g nb ws F) (hn : ws.length ≤ 1000) {a : Option Addr} {b off cap n : Nat} {zs qs : List Int} {L : List (Nat × Int)} {mo : Int} (hp : IntsAt .i64 w.heap.size w a b off n zs) (hpn : a = none → n = 0 ∧ cap = 0) (hlen : n ≤ 65536) (b0 b1 : Int)
    (hL : movesD ws F b0 b1 zs = L) (hq : passP zs L = qs) (hm : (passS L).most = mo) :
    Calls Try.prog 29 #[.pointer (some ⟨g, 0, none⟩), .slice a n cap, .agg #[.int .i64 b0, .int .i64 b1]] w fun e w' => ∃ pa pb pc, e = .returned (.tuple #[.slice pa n pc, .int .i64 mo]) ∧ IntsAt .i64 w'.heap.size w' pa pb 0 n qs ∧ (pa = none → n = 0 ∧ pc = 0) ∧ Below w.heap.size w w' := by
  subst hL hq hm
  have hl := hp.length
  refine (pass_any (cap := cap) h0 hn hp hpn hlen b0 b1).mono ?_
  rintro e w' ⟨pa, pb, pc, he, hI, _, hnn, hb⟩
  rw [hl] at he hI hnn
  exact ⟨pa, pb, pc, he, hI, hnn, hb⟩
theorem ref_lit {w : World} {g nb : Nat} {ws : List Int} {F : Nat → Nat → Int} (h0 : IsG w g nb ws F) (hn : ws.length ≤ 1000) {a : Option Addr} {b off cap n : Nat} {zs qs : List Int} (hp : IntsAt .i64 w.heap.size w a b off n zs) (hpn : a = none → n = 0 ∧ cap = 0) (hlen : n ≤ 65536) (b0 b1 : Int) (hE : Ends ws F b0 b1 zs qs) :
    Calls Try.prog 31 #[.pointer (some ⟨g, 0, none⟩), .slice a n cap, .agg #[.int .i64 b0, .int .i64 b1]] w fun e w' => ∃ pa pb pc, e = .returned (.slice pa n pc) ∧ IntsAt .i64 w'.heap.size w' pa pb 0 n qs ∧ (pa = none → n = 0 ∧ pc = 0) ∧ Below w.heap.size w w' := by
  have hl := hp.length
  rw [← hl] at hp hpn ⊢
  refine (refine_any (cap := cap) h0 hn hp hpn (by omega) b0 b1).mono ?_
  rintro e w' ⟨pa, pb, pc, q, he, hq, hI, _, hnn, hb⟩
  have := hq.one hE
  subst this
  exact ⟨pa, pb, pc, he, hI, hnn, hb⟩
structure AlR (w : World) (g nb : Nat) (W : World) : Prop where
  one : IsG W g nb [1, 1] aF
  below : Below w.heap.size w W
theorem AlR.on {w W W' : World} {g nb : Nat} (h : AlR w g nb W) (hb : Below W.heap.size W W') : AlR w g nb W' := ⟨h.one.below hb, h.below.trans (hb.mono h.below.size)⟩
set_option maxRecDepth 100000 in
set_option maxHeartbeats 4000000 in
theorem alive_any (w : World) : Calls Try.prog 25 #[] w fun e w' => e = .returned (.bool true) ∧ Below w.heap.size w w' := by
  have hI := ints_two w 1 1 (by decide) (by decide) 2
  have ha1 : Below w.heap.size w (w.alloc (.cells #[.int .i64 1, .int .i64 1] 2)) := (Below.refl _ w).alloc (Nat.le_refl _) _
  have ha2 := (Below.refl (w.alloc (.cells #[.int .i64 1, .int .i64 1] 2)).heap.size (w.alloc (.cells #[.int .i64 1, .int .i64 1] 2))).alloc (Nat.le_refl _) (.cells #[.int .i64 0, .int .i64 1, .int .i64 3] 59)
  have hBd := build_any (cap0 := 2) (cap1 := 1) ((hI.kept ha2 (Nat.le_refl _)).mono ha2.size) (fun e => by cases e) (rops_one (w.alloc (.cells #[.int .i64 1, .int .i64 1] 2)) ⟨0, 1, 3⟩ (by unfold RopV.ok; decide) 59)
  simp only [World.size_alloc] at hBd
  have HBd := Lib.hid hBd
  clear hBd
  have HB1 := Lib.hid (ha1.trans (ha2.mono ha1.size))
  clear hI ha1 ha2
  go_enter Try.func25, Try.ntmps25
  go_wp2_with fail
  refine HBd.out.mono ?_
  rintro e w3 ⟨hB, hc⟩
  rcases hc with ⟨h1, _⟩ | ⟨_, g, nb, lo, Bx, X, rfl, hR, _, _⟩
  · exact absurd h1 (by decide)
  have hR' := both_base hR HB1.out
  have hal := (Below.refl w3.heap.size w3).alloc (Nat.le_refl _) (.cells #[.slice X.wa 2 X.wc, .slice X.ra 2 X.rc] 29)
  have HR := Lib.hid (hR'.on hal)
  clear hR hR' hB HBd HB1 hal
  unfold XD.val
  have HA4 : Hid (AlR w g nb (w3.alloc (.cells #[.slice X.wa 2 X.wc, .slice X.ra 2 X.rc] 29))) := Lib.hid ⟨HR.out.one, HR.out.below⟩
  clear HR
  go_upto_region 4 with fail
  generalize (w3.alloc (.cells #[.slice X.wa 2 X.wc, .slice X.ra 2 X.rc] 29)) = w4 at *
  have HN : Hid (∀ W : World, Below W.heap.size W (W.alloc (.cells #[.int .i64 0, .int .i64 1] 3)) ∧ IntsAt .i64 (W.alloc (.cells #[.int .i64 0, .int .i64 1] 3)).heap.size (W.alloc (.cells #[.int .i64 0, .int .i64 1] 3)) (some ⟨W.heap.size, 0, none⟩) W.heap.size 0 2 [0, 1]) := Lib.hid (fun W => ⟨(Below.refl _ _).alloc (Nat.le_refl _) _, ints_two W 0 1 (by decide) (by decide) _⟩)
  have C1 := Lib.hid (pass_lit (cap := 2) (qs := [1, 1]) (mo := 3) (HA4.out.on (HN.out w4).1).one (by decide) (HN.out w4).2 (fun e => by cases e) (by decide) 2 2 m1 (by decide) (by decide))
  go_wp2_with fail
  refine C1.out.mono ?_
  rintro e w5 ⟨pa, pb, pc, rfl, hP5, hn5, hb⟩
  have HA5 := Lib.hid ((HA4.out.on (HN.out w4).1).on hb)
  have HP5 := Lib.hid hP5
  have HN5 := Lib.hid hn5
  clear hP5 hn5 hb C1 HA4
  have hal := (Below.refl w5.heap.size w5).alloc (Nat.le_refl _) (.cells #[.int .i64 1, .int .i64 1] 3)
  have HA6 := Lib.hid (HA5.out.on hal)
  have HP6 := Lib.hid ((HP5.out.kept hal (Nat.le_refl _)).mono hal.size)
  have HS := Lib.hid (sameints_any (cap := pc) (cap' := 2) HP6.out (ints_two w5 1 1 (by decide) (by decide) 3))
  rw [show decide ([(1 : Int), 1] = [1, 1]) = true by decide] at HS
  clear hal HA5 HP5
  go_wp2_with fail
  refine HS.out.mono ?_
  rintro e w6 ⟨rfl, hb⟩
  have HA7 := Lib.hid (HA6.out.on hb)
  have HP7 := Lib.hid ((HP6.out.kept hb (Nat.le_refl _)).mono hb.size)
  clear hb HS HA6 HP6
  have C2 := Lib.hid (pass_lit (cap := 2) (qs := [0, 1]) (mo := 0) (HA7.out.on (HN.out w6).1).one (by decide) (HN.out w6).2 (fun e => by cases e) (by decide) 1 1 m2 (by decide) (by decide))
  go_wp2_with fail
  refine C2.out.mono ?_
  rintro e w7 ⟨qa, qb, qc, rfl, hQ, _, hb⟩
  have hb6 := (HN.out w6).1
  have HA8 := Lib.hid ((HA7.out.on hb6).on hb)
  have HP8 := Lib.hid ((((HP7.out.kept hb6 (Nat.le_refl _)).mono hb6.size).kept hb (Nat.le_refl _)).mono hb.size)
  have HQ8 := Lib.hid hQ
  clear hQ hb hb6 C2 HA7 HP7
  have C3 := Lib.hid (lmoves_any (cap := 2) (HA8.out.on (HN.out w7).1).one (by decide) (HN.out w7).2 (fun e => by cases e) 2 2 9 (by decide))
  rw [m1] at C3
  go_wp2_with fail
  refine C3.out.mono ?_
  rintro e w8 ⟨v1, v2, rfl, g1, g2, hb⟩
  have hb7 := (HN.out w7).1
  have HA9 := Lib.hid ((HA8.out.on hb7).on hb)
  have HP9 := Lib.hid ((((HP8.out.kept hb7 (Nat.le_refl _)).mono hb7.size).kept hb (Nat.le_refl _)).mono hb.size)
  have HQ9 := Lib.hid ((((HQ8.out.kept hb7 (Nat.le_refl _)).mono hb7.size).kept hb (Nat.le_refl _)).mono hb.size)
  obtain ⟨ax, cx, bx, rfl, _, _, _, hX⟩ := g1.ints (by simp) (by decide)
  obtain ⟨ay, cy, by_, rfl, hcy, _, _, hY⟩ := g2.ints (by simp) (by decide)
  have hy1 := hY.cell 1 (by decide)
  have hya := hY.addr.resolve_left (by decide)
  rw [hya]
  rw [show (((encI [(0, (3 : Int)), (1, -3)]).take (9 : Int).toNat).map (·.2)).getD 1 0 = -3 by decide, Nat.zero_add] at hy1
  rw [show ((encI [(0, (3 : Int)), (1, -3)]).take (9 : Int).toNat).length = 2 by decide]
  have HY1 := Lib.hid hy1
  clear g1 g2 hb hb7 hX hY hy1 hya hcy C3 HA8 HP8 HQ8
  have hal9 := (Below.refl w8.heap.size w8).alloc (Nat.le_refl _) (.cells #[.int .i64 0, .int .i64 1] 3)
  have HS9 := Lib.hid (sameints_any (cap := qc) (cap' := 2) ((HQ9.out.kept hal9 (Nat.le_refl _)).mono hal9.size) (HN.out w8).2)
  rw [show decide ([(0 : Int), 1] = [0, 1]) = true by decide] at HS9
  have HA10 := Lib.hid (HA9.out.on hal9)
  have HP10 := Lib.hid ((HP9.out.kept hal9 (Nat.le_refl _)).mono hal9.size)
  have HY10 := Lib.hid ((hal9.cell (p := ⟨by_, 1, none⟩) (World.block_lt_of_cell? _ _ HY1.out)).trans HY1.out)
  clear hal9 HQ9 HA9 HP9 HY1
  go_wp2_with fail
  refine HS9.out.mono ?_
  rintro e w9 ⟨rfl, hb⟩
  have HA11 := Lib.hid (HA10.out.on hb)
  have HP11 := Lib.hid ((HP10.out.kept hb (Nat.le_refl _)).mono hb.size)
  have cy1 := (hb.cell (p := ⟨by_, 1, none⟩) (World.block_lt_of_cell? _ _ HY10.out)).trans HY10.out
  clear hb HS9 HA10 HP10 HY10
  have C4 := Lib.hid (ref_lit (cap := 2) (HA11.out.on (HN.out w9).1).one (by decide) (HN.out w9).2 (fun e => by cases e) (by decide) 2 2 e1)
  go_wp2_with fail
  refine C4.out.mono ?_
  rintro e w10 ⟨ra, rb, rc, rfl, hR, _, hb⟩
  have hb9 := (HN.out w9).1
  have HA12 := Lib.hid ((HA11.out.on hb9).on hb)
  have HS := Lib.hid (sameints_any (cap := rc) (cap' := pc) hR (((HP11.out.kept hb9 (Nat.le_refl _)).mono hb9.size).kept hb (Nat.le_refl _)))
  rw [show decide ([(1 : Int), 1] = [1, 1]) = true by decide] at HS
  clear hR hb hb9 C4 HA11 HP11 cy1
  go_wp2_with fail
  refine HS.out.mono ?_
  rintro e w11 ⟨rfl, hb⟩
  have HB := Lib.hid (HA12.out.on hb).below
  clear hb
  go_wp2
  go_ret
  exact ⟨rfl, HB.out⟩
end Go.Proofs.Ytjpgkocffceeoaa.L13

namespace Go.Proofs.Ytjpgkocffceeoaa.L13
open Go.RowKit Go.Shelf Go.ChangeShapes Go.WideShapes Rk

theorem cellsTwo : Try.prog.cellsOf 46 = 2 := by kernel_rfl
set_option maxRecDepth 100000 in
theorem open_two {H : Type} {enc : TypeId × Value → H} {W : World} {base : Nat} {v : Value} {d : DataW H} {p : List MemPlace} (hval : Value.okWide Try.prog W .any base 46 v)
    (h : DataW.Trod enc Try.prog W 0 (fun _ => true) true 46 v d p) : ∃ x y : Int, v = .agg #[.int .i64 x, .int .i64 y] ∧ (Lit.int .i64 x).wf = true ∧ (Lit.int .i64 y).wf = true := by
  unfold Value.okWide at hval
  rw [Try.underlying46] at hval
  obtain ⟨cs, rfl, hz, _⟩ := hval
  obtain ⟨fuel, hf⟩ := h
  obtain ⟨xs, n, _, _, hl, hxl, hi⟩ := DataW.trod_array Try.underlying46 hf
  rw [cellsTwo] at hl hz
  rw [Try.cellsI64] at hi
  obtain ⟨cs⟩ := cs
  match cs, hz with
  | [c0, c1], _ =>
  match xs, hxl with
  | [y0, y1], _ =>
  have h0 := hi 0 (by decide)
  have h1 := hi 1 (by decide)
  simp [Value.cells] at h0 h1
  obtain ⟨k, hk, _, hkw⟩ := DataW.trod_int Try.underlying2 h0
  obtain ⟨m, hm, _, hmw⟩ := DataW.trod_int Try.underlying2 h1
  cases hk; cases hm
  exact ⟨k, m, rfl, hkw, hmw⟩
theorem IsRow.zz {k : IntKind} {w : World} {a : Option Addr} {len cap : Nat} {z : List Int} (h : IsRow k w a len cap z) : ∃ b off zs, IntsAt k w.heap.size w a b off len zs ∧ (a = none → len = 0 ∧ cap = 0) := by
  obtain ⟨b, off, hi⟩ := h.ints
  exact ⟨b, off, _, hi, fun e => by subst e; exact h.nil⟩
/-- Two things that belong together end in one part. -/
def tF (w : Int) : Nat → Nat → Int := joins 2 noTab [⟨0, 1, w⟩]
theorem tF_at {w : Int} (h1 : 1 ≤ w) (h2 : w ≤ 65536) : tF w = fun x y => if (x = 0 ∧ y = 1) ∨ (x = 1 ∧ y = 0) then w else 0 := by
  funext x y
  unfold tF
  have hj : joinE 2 noTab 0 1 w = 0 := by
    unfold joinE
    rw [if_neg (by decide), if_neg]
    rw [show btw 2 noTab 0 1 + w = w by simp [btw, noTab], may_mk h1 (by omega)]
    simp
  simp [joins, joinF, hj, joinT, btw, noTab]
theorem two_moves {w : Int} (h1 : 1 ≤ w) (h2 : w ≤ 65536) : movesD [w, w] (tF w) (2 * w) w [0, 1] = [(1, w), (0, -w)] ∧ movesD [w, w] (tF w) (2 * w) w [0, 0] = [(0, -w)] := by
  have hr1 : rightP [w, w].length [0, 1] 2 = true := rfl
  have hr2 : rightP [w, w].length [0, 0] 2 = true := rfl
  rw [tF_at h1 h2]
  unfold movesD
  rw [if_neg (by rw [hr1]; simp; omega), if_neg (by rw [hr2]; simp; omega)]
  constructor
  · simp [movD, movesM, bestM, mayM, hvM, sumTo, tG, mOf, wsF, bF, flipM, upd]
    rw [if_pos ⟨by omega, by omega⟩]
    simp [show ¬ w + w ≤ w by omega]
  · simp [movD, movesM, bestM, mayM, hvM, sumTo, tG, mOf, wsF, bF, flipM, upd, show ¬ w + w ≤ w by omega]
theorem two_ends {w : Int} (h1 : 1 ≤ w) (h2 : w ≤ 65536) : Ends [w, w] (tF w) (2 * w) w [0, 1] [0, 0] := by
  obtain ⟨k1, k2⟩ := two_moves h1 h2
  have p1 : passS [(1, w), (0, -w)] = ⟨0, w, 1, 2⟩ := by
    simp only [passS, stepS, List.foldl_cons, List.foldl_nil]
    rw [if_pos (show (0 : Int) < 0 + w by omega)]
    simp only
    rw [if_neg (show ¬ (0 + w < 0 + w + -w) by omega), show 0 + w + -w = 0 by omega, show 0 + w = w by omega]
  have p2 : passS [(0, -w)] = ⟨-w, 0, 0, 1⟩ := by
    simp [passS, stepS, show ¬ 0 < -w by omega]
    omega
  refine Ends.go (by rw [k1, p1]; show w ≠ 0; omega) ?_
  rw [k1, show passP [0, 1] [(1, w), (0, -w)] = [0, 0] by unfold passP; rw [p1]; rfl]
  exact Ends.stop (by rw [k2, p2])
end Go.Proofs.Ytjpgkocffceeoaa.L13
