/- Contract: up to so many pairs, the lesser ones, the greater ones. -/
import Derived.Test.YtcmgmcooaljjdaaYf
import Derived.Test.YtcmgmcooaljjdaaRu
set_option linter.unusedVariables false
set_option linter.unusedSectionVars false
set_option linter.unusedSimpArgs false
namespace Go.Proofs.Ytcmgmcooaljjdaa.L10
open Go.RowKit Go.Shelf Rk

attribute [local go_sem] Oper.semAt_some

theorem infoInt : (Try.prog.info? 3).map (fun i => (i.zero, i.size, i.bytes)) = some (some (.int .i64 0), 1, 8) := Gc.Try.infoInt
/-- While pairs are gathered: what the two boxes hold, and what is gathered. -/
structure PrH (w : World) (mo : Int) (lo hi : Nat) (W0 : World) (u1 u2 v1 v2 : Value) (xs ys : List Int) (b1 b2 : Option Nat) (W : World) : Prop where
  bx : Boxed W (w.heap.size + 1 + 1 + 1 + 1 + 1) 24 u1
  by_ : Boxed W (w.heap.size + 1 + 1 + 1 + 1 + 1 + 1) 24 u2
  bm : Boxed W w.heap.size 3 (.int .i64 mo)
  br1 : Boxed W (w.heap.size + 1) 24 (.slice none 0 0)
  br2 : Boxed W (w.heap.size + 1 + 1) 24 (.slice none 0 0)
  g1 : GB W hi 3 1 v1 xs.length (ivals .i64 xs) b1
  g2 : GB W hi 3 1 v2 ys.length (ivals .i64 ys) b2
  ne : ∀ g, b1 = some g → b2 ≠ some g
  below : Below w.heap.size w W
  size : hi ≤ W.heap.size
  l1 : w.heap.size + 1 + 1 + 1 + 1 + 1 + 1 + 1 ≤ lo
  l2 : lo ≤ hi
  ko : KeepsOthers W0 W
  md : Mid lo hi W0 W
section
variable {w : World} {mo : Int} {lo hi : Nat} {W0 W W' : World} {u1 u2 v1 v2 : Value} {xs ys : List Int} {b1 b2 : Option Nat}
theorem PrH.fresh (h : PrH w mo lo hi W0 u1 u2 v1 v2 xs ys b1 b2 W) (W0' : World) (hk : KeepsOthers W0' W) (hm : Mid lo hi W0' W) : PrH w mo lo hi W0' u1 u2 v1 v2 xs ys b1 b2 W :=
  { h with ko := hk, md := hm }
theorem PrH.alloc (h : PrH w mo lo hi W0 u1 u2 v1 v2 xs ys b1 b2 W) (o : Obj) : PrH w mo lo hi W0 u1 u2 v1 v2 xs ys b1 b2 (W.alloc o) :=
  ⟨h.bx.alloc o, h.by_.alloc o, h.bm.alloc o, h.br1.alloc o, h.br2.alloc o, h.g1.alloc o, h.g2.alloc o, h.ne, h.below.alloc (by have := h.size; have := h.l1; have := h.l2; omega) o, by rw [World.size_alloc]; have := h.size; omega, h.l1, h.l2, h.ko.trans (KeepsOthers.alloc W o), h.md.trans (Mid.of_below ((Below.refl W.heap.size W).alloc (Nat.le_refl _) o) h.size)⟩
theorem PrH.drew (h : PrH w mo lo hi W0 u1 u2 v1 v2 xs ys b1 b2 W) : PrH w mo lo hi W0 u1 u2 v1 v2 xs ys b1 b2 W.drew :=
  ⟨h.bx, h.by_, h.bm, h.br1, h.br2, h.g1.below (Below.refl _ _).drew, h.g2.below (Below.refl _ _).drew, h.ne, h.below.drew, h.size, h.l1, h.l2, h.ko.trans (KeepsOthers.drew _), ⟨h.md.size, h.md.block⟩⟩
/-- Memory grown but for a row of its own. -/
theorem PrH.grown {row : Option Nat} (h : PrH w mo lo hi W0 u1 u2 v1 v2 xs ys b1 b2 W) (hg : W.grownBy W' row) (hr : ∀ r, row = some r → hi ≤ r ∧ ∃ o : Obj, W.heap[r]? = some o ∧ o.isCells = true) :
    Boxed W' (w.heap.size + 1 + 1 + 1 + 1 + 1) 24 u1 ∧ Boxed W' (w.heap.size + 1 + 1 + 1 + 1 + 1 + 1) 24 u2 ∧ Boxed W' w.heap.size 3 (.int .i64 mo) ∧ Boxed W' (w.heap.size + 1) 24 (.slice none 0 0) ∧ Boxed W' (w.heap.size + 1 + 1) 24 (.slice none 0 0) ∧ Below w.heap.size w W' ∧ hi ≤ W'.heap.size ∧ KeepsOthers W0 W' ∧ Mid lo hi W0 W' := by
  have hs := h.size
  have hl := h.l1
  have hl2 := h.l2
  have hne : ∀ j, j < hi → some j ≠ row := fun j hj e => by have := (hr j e.symm).1; omega
  refine ⟨h.bx.kept hg (hne _ (by omega)), h.by_.kept hg (hne _ (by omega)), h.bm.kept hg (hne _ (by omega)), h.br1.kept hg (hne _ (by omega)), h.br2.kept hg (hne _ (by omega)), h.below.grown hg (by omega) (fun r e => by have := (hr r e).1; omega), Nat.le_trans hs hg.size, h.ko.trans (KeepsOthers.of_grownBy hg fun j o ej hj => ?_), h.md.trans ⟨hg.size, fun j h1 h2 => hg.block j (by omega) (hne j h2)⟩⟩
  obtain ⟨_, o', ho', hc'⟩ := hr j ej
  rw [hj] at ho'; cases ho'; exact hc'
theorem gb_cells {W : World} {base : Nat} {e : TypeId} {size : Nat} {v : Value} {n : Nat} {xs : List Value} {b : Option Nat} (h : GB W base e size v n xs b) (r : Nat) (hr : b = some r) : base ≤ r ∧ ∃ o : Obj, W.heap[r]? = some o ∧ o.isCells = true := by
  obtain ⟨h1, _, cur, h2⟩ := h.lt r hr
  exact ⟨h1, _, h2, rfl⟩
theorem PrH.app1 {x : Int} {g c : Nat} {row : Option Nat} (h : PrH w mo lo hi W0 u1 u2 v1 v2 xs ys b1 b2 W) (hG : GB W' hi 3 1 (.slice (some ⟨g, 0, none⟩) (xs.length + 1) c) (xs.length + 1) (ivals .i64 xs ++ [.int .i64 x]) (some g)) (hg : W.grownBy W' row) (hr : row = none ∨ row = b1) (hgr : b1 = some g ∨ W.heap.size ≤ g) :
    PrH w mo lo hi W0 u1 u2 (.slice (some ⟨g, 0, none⟩) (xs.length + 1) c) v2 (xs ++ [x]) ys (some g) b2 W' := by
  have hrow : ∀ r, row = some r → b1 = some r := fun r e => by rcases hr with e2 | e2; rw [e] at e2; cases e2; rw [← e2, e]
  obtain ⟨k1, k2, k3, k4, k5, k6, k7, k8, k9⟩ := h.grown hg (fun r e => gb_cells h.g1 r (hrow r e))
  refine ⟨k1, k2, k3, k4, k5, by rw [ivals_snoc, List.length_append]; exact hG, h.g2.kept hg (fun r e e2 => h.ne r (hrow r e2) e), fun g' e e2 => ?_, k6, k7, h.l1, h.l2, k8, k9⟩
  cases e
  rcases hgr with e3 | e3
  · exact h.ne g e3 e2
  · have := (h.g2.lt g e2).2.1; omega
theorem PrH.app2 {x : Int} {g c : Nat} {row : Option Nat} (h : PrH w mo lo hi W0 u1 u2 v1 v2 xs ys b1 b2 W) (hG : GB W' hi 3 1 (.slice (some ⟨g, 0, none⟩) (ys.length + 1) c) (ys.length + 1) (ivals .i64 ys ++ [.int .i64 x]) (some g)) (hg : W.grownBy W' row) (hr : row = none ∨ row = b2) (hgr : b2 = some g ∨ W.heap.size ≤ g) :
    PrH w mo lo hi W0 u1 u2 v1 (.slice (some ⟨g, 0, none⟩) (ys.length + 1) c) xs (ys ++ [x]) b1 (some g) W' := by
  have hrow : ∀ r, row = some r → b2 = some r := fun r e => by rcases hr with e2 | e2; rw [e] at e2; cases e2; rw [← e2, e]
  obtain ⟨k1, k2, k3, k4, k5, k6, k7, k8, k9⟩ := h.grown hg (fun r e => gb_cells h.g2 r (hrow r e))
  refine ⟨k1, k2, k3, k4, k5, h.g1.kept hg (fun r e e2 => h.ne r e (hrow r e2)), by rw [ivals_snoc, List.length_append]; exact hG, fun g' e e2 => ?_, k6, k7, h.l1, h.l2, k8, k9⟩
  cases e2
  rcases hgr with e3 | e3
  · exact h.ne g e e3
  · have := (h.g1.lt g e).2.1; omega
theorem set_row (W : World) (B : Nat) (u : Value) (hB : ∃ o : Obj, W.heap[B]? = some o ∧ o.isCells = true) : W.grownBy (W.setCell ⟨B, 0, none⟩ u) (some B) := grownBy_setCell' W B u
/-- Both boxes take what was gathered. -/
theorem PrH.store (h : PrH w mo lo hi W0 u1 u2 v1 v2 xs ys b1 b2 W) (x1 x2 : Value) : PrH w mo lo hi W0 x1 x2 v1 v2 xs ys b1 b2 ((W.setCell ⟨w.heap.size + 1 + 1 + 1 + 1 + 1, 0, none⟩ x1).setCell ⟨w.heap.size + 1 + 1 + 1 + 1 + 1 + 1, 0, none⟩ x2) := by
  have hl := h.l1
  have hl2 := h.l2
  have e1 := grownBy_setCell' W (w.heap.size + 1 + 1 + 1 + 1 + 1) x1
  have e2 := grownBy_setCell' (W.setCell ⟨w.heap.size + 1 + 1 + 1 + 1 + 1, 0, none⟩ x1) (w.heap.size + 1 + 1 + 1 + 1 + 1 + 1) x2
  refine ⟨(h.bx.set _).other (by omega) _, (h.by_.other (by omega) _).set _, (h.bm.other (by omega) _).other (by omega) _, (h.br1.other (by omega) _).other (by omega) _, (h.br2.other (by omega) _).other (by omega) _, (h.g1.kept e1 (fun g e e9 => ?_)).kept e2 (fun g e e9 => ?_), (h.g2.kept e1 (fun g e e9 => ?_)).kept e2 (fun g e e9 => ?_), h.ne, (h.below.setCell (p := ⟨w.heap.size + 1 + 1 + 1 + 1 + 1, 0, none⟩) (by show w.heap.size ≤ w.heap.size + 1 + 1 + 1 + 1 + 1; omega) _).setCell (p := ⟨w.heap.size + 1 + 1 + 1 + 1 + 1 + 1, 0, none⟩) (by show w.heap.size ≤ w.heap.size + 1 + 1 + 1 + 1 + 1 + 1; omega) _, Nat.le_trans h.size (Nat.le_trans e1.size e2.size), hl, hl2, (h.ko.trans (KeepsOthers.setCell _ _ _)).trans (KeepsOthers.setCell _ _ _), (h.md.trans (mid_set (by omega) _)).trans (mid_set (by omega) _)⟩
  · cases e9; have := (h.g1.lt _ e).1; omega
  · cases e9; have := (h.g1.lt _ e).1; omega
  · cases e9; have := (h.g2.lt _ e).1; omega
  · cases e9; have := (h.g2.lt _ e).1; omega
/-- Both answers take what was gathered. -/
theorem PrH.answer (h : PrH w mo lo hi W0 u1 u2 v1 v2 xs ys b1 b2 W) (x1 x2 : Value) :
    Boxed ((W.setCell ⟨w.heap.size + 1, 0, none⟩ x1).setCell ⟨w.heap.size + 1 + 1, 0, none⟩ x2) (w.heap.size + 1) 24 x1 ∧ Boxed ((W.setCell ⟨w.heap.size + 1, 0, none⟩ x1).setCell ⟨w.heap.size + 1 + 1, 0, none⟩ x2) (w.heap.size + 1 + 1) 24 x2 ∧
    Gath ((W.setCell ⟨w.heap.size + 1, 0, none⟩ x1).setCell ⟨w.heap.size + 1 + 1, 0, none⟩ x2) hi 3 1 v1 xs.length (ivals .i64 xs) ∧ Gath ((W.setCell ⟨w.heap.size + 1, 0, none⟩ x1).setCell ⟨w.heap.size + 1 + 1, 0, none⟩ x2) hi 3 1 v2 ys.length (ivals .i64 ys) ∧
    Below w.heap.size w ((W.setCell ⟨w.heap.size + 1, 0, none⟩ x1).setCell ⟨w.heap.size + 1 + 1, 0, none⟩ x2) ∧ KeepsOthers W0 ((W.setCell ⟨w.heap.size + 1, 0, none⟩ x1).setCell ⟨w.heap.size + 1 + 1, 0, none⟩ x2) := by
  have hl := h.l1
  have hl2 := h.l2
  exact ⟨(h.br1.set _).other (by omega) _, (h.br2.other (by omega) _).set _, gath_set (gath_set h.g1.gath (by omega) _) (by omega) _, gath_set (gath_set h.g2.gath (by omega) _) (by omega) _,
    (h.below.setCell (p := ⟨w.heap.size + 1, 0, none⟩) (by show w.heap.size ≤ w.heap.size + 1; omega) _).setCell (p := ⟨w.heap.size + 1 + 1, 0, none⟩) (by show w.heap.size ≤ w.heap.size + 1 + 1; omega) _, (h.ko.trans (KeepsOthers.setCell _ _ _)).trans (KeepsOthers.setCell _ _ _)⟩
/-- A block that is no cells is turned. -/
theorem PrH.turned {row : Option Nat} (h : PrH w mo lo hi W0 u1 u2 v1 v2 xs ys b1 b2 W) (hg : W.grownBy W' row) (hr : ∀ r, row = some r → hi ≤ r ∧ ∃ o : Obj, W.heap[r]? = some o ∧ o.isCells = false) : PrH w mo lo hi W' u1 u2 v1 v2 xs ys b1 b2 W' := by
  have hs := h.size
  have hl := h.l1
  have hl2 := h.l2
  have hne : ∀ j, j < hi → some j ≠ row := fun j hj e => by have := (hr j e.symm).1; omega
  have hno : ∀ g, (∃ cur ty fr, W.heap[g]? = some (.cells cur ty fr)) → row ≠ some g := fun g ⟨cur, ty, fr, hc⟩ e => by
    obtain ⟨_, o, ho, hf⟩ := hr g e
    rw [hc] at ho; cases ho; cases hf
  exact ⟨h.bx.kept hg (hne _ (by omega)), h.by_.kept hg (hne _ (by omega)), h.bm.kept hg (hne _ (by omega)), h.br1.kept hg (hne _ (by omega)), h.br2.kept hg (hne _ (by omega)), h.g1.kept hg (fun g e => hno g (by obtain ⟨_, _, cur, h2⟩ := h.g1.lt g e; exact ⟨_, _, _, h2⟩)), h.g2.kept hg (fun g e => hno g (by obtain ⟨_, _, cur, h2⟩ := h.g2.lt g e; exact ⟨_, _, _, h2⟩)), h.ne, h.below.grown hg (by omega) (fun r e => by have := (hr r e).1; omega), Nat.le_trans hs hg.size, hl, hl2, KeepsOthers.refl _, Mid.refl _ _ _⟩
end
/-- What a call leaves: two rows of new memory. -/
def TwoPost (w : World) (T : List (Int × Int)) (e : Ending) (w' : World) : Prop :=
  ∃ v1 v2, e = .returned (.tuple #[v1, v2]) ∧ Gath w' w.heap.size 3 1 v1 T.length (ivals .i64 (T.map (·.1))) ∧ Gath w' w.heap.size 3 1 v2 T.length (ivals .i64 (T.map (·.2))) ∧ Below w.heap.size w w'
/-- A block of one cell, as an append reads it. -/
def CellAt (W : World) (bl : Nat) (u : Value) : Prop := ∀ j v, [u][j]? = some v → W.cell? ((⟨bl, 0, none⟩ : Addr).add j) = some v
theorem CellAt.kept {W W' : World} {bl : Nat} {u : Value} {row : Option Nat} (h : CellAt W bl u) (hg : W.grownBy W' row) (hne : row ≠ some bl) : CellAt W' bl u := fun j v hj => by
  have h1 := h j v hj
  have hlt := World.block_lt_of_cell? _ _ h1
  rw [addr_add] at h1 hlt ⊢
  rw [World.cell?_of_block (w := W) (hg.block bl hlt (fun e => hne e.symm))]
  exact h1
theorem CellAt.alloc {W : World} {bl : Nat} {u : Value} (h : CellAt W bl u) (o : Obj) : CellAt (W.alloc o) bl u :=
  h.kept (row := none) (grown_below ((Below.refl W.heap.size W).alloc (Nat.le_refl _) o) none) (fun e => by cases e)
set_option maxRecDepth 100000 in
theorem none_any {w : World} {a : Option Addr} {len cap : Nat} (m : Int) (hm : m ≤ 0) : Calls Try.prog 18 #[.slice a len cap, .int .i64 m] w (TwoPost w []) := by
  have hd : decide (m ≤ 0) = true := by simpa using hm
  refine (callsIn_wide (n := 3)).1 ?_
  refine callsIn_of_wp_marks Try.func18 rfl trivial ?_ rfl
  simp only [Try.ntmps18, List.size_toArray, List.length_cons, List.length_nil, Nat.reduceAdd, Nat.reduceSub, Array.replicate_succ, Array.replicate_zero, List.push_toArray, List.append_toArray, List.nil_append, List.cons_append]
  gi_wp2
  gi_region_with fail
  all_goals
    gi_wp2
    refine ⟨.tuple #[.slice (some ⟨w.heap.size + 1 + 1 + 1, 0, none⟩) 0 0, .slice (some ⟨w.heap.size + 1 + 1 + 1 + 1, 0, none⟩) 0 0], by simp [results, Try.f18, go_sem], _, _, rfl, .inl ⟨rfl, rfl, _, rfl⟩, .inl ⟨rfl, rfl, _, rfl⟩, ?_⟩
    exact ((((((((Below.refl _ w).alloc (Nat.le_refl _) _).alloc (by simp) _).alloc (by simp; omega) _).alloc (by simp; omega) _).alloc (by simp; omega) _).alloc (by simp; omega) _).alloc (by simp; omega) _).drew
set_option maxRecDepth 100000 in
set_option maxHeartbeats 2000000 in
theorem some_any {w : World} {a : Option Addr} {b off len cap : Nat} {ms : List Int} (hms : IntsAt .i64 w.heap.size w a b off len ms) (h0 : a = none → len = 0 ∧ cap = 0) (hlen : len ≤ 60000) (m : Nat) (hm1 : 1 ≤ m) (hm : m ≤ 100000) :
    Calls Try.prog 18 #[.slice a len cap, .int .i64 (m : Int)] w (TwoPost w ((pairsD ms).take m)) := by
  obtain ⟨i0, hi, hz0, hz1, hz2⟩ := info_parts infoInt
  have HI := Lib.hid hi
  have HZ0 := Lib.hid hz0
  have HZ1 := Lib.hid hz1
  have HZ2 := Lib.hid hz2
  clear hi hz0 hz1 hz2
  have hd : decide ((m : Int) ≤ 0) = false := by simp; omega
  have b0 : Below w.heap.size w (((((((w.alloc (.cells #[.int .i64 (m : Int)] 3)).alloc (.cells #[.slice none 0 0] 24)).alloc (.cells #[.slice none 0 0] 24)).alloc (.cells #[] 3)).alloc (.cells #[] 3)).alloc (.cells #[.slice (some ⟨w.heap.size + 1 + 1 + 1, 0, none⟩) 0 0] 24)).alloc (.cells #[.slice (some ⟨w.heap.size + 1 + 1 + 1 + 1, 0, none⟩) 0 0] 24)) :=
    ((((((((Below.refl _ w).alloc (Nat.le_refl _) _).alloc (by simp) _).alloc (by simp; omega) _).alloc (by simp; omega) _).alloc (by simp; omega) _).alloc (by simp; omega) _).alloc (by simp; omega) _)
  have bX : Boxed (((((((w.alloc (.cells #[.int .i64 (m : Int)] 3)).alloc (.cells #[.slice none 0 0] 24)).alloc (.cells #[.slice none 0 0] 24)).alloc (.cells #[] 3)).alloc (.cells #[] 3)).alloc (.cells #[.slice (some ⟨w.heap.size + 1 + 1 + 1, 0, none⟩) 0 0] 24)).alloc (.cells #[.slice (some ⟨w.heap.size + 1 + 1 + 1 + 1, 0, none⟩) 0 0] 24)) (w.heap.size + 1 + 1 + 1 + 1 + 1) 24 (.slice (some ⟨w.heap.size + 1 + 1 + 1, 0, none⟩) 0 0) := by
    refine Boxed.alloc ?_ _
    have := Boxed.new (((((w.alloc (.cells #[.int .i64 (m : Int)] 3)).alloc (.cells #[.slice none 0 0] 24)).alloc (.cells #[.slice none 0 0] 24)).alloc (.cells #[] 3)).alloc (.cells #[] 3)) 24 (.slice (some ⟨w.heap.size + 1 + 1 + 1, 0, none⟩) 0 0)
    simpa only [World.size_alloc] using this
  have bY : Boxed (((((((w.alloc (.cells #[.int .i64 (m : Int)] 3)).alloc (.cells #[.slice none 0 0] 24)).alloc (.cells #[.slice none 0 0] 24)).alloc (.cells #[] 3)).alloc (.cells #[] 3)).alloc (.cells #[.slice (some ⟨w.heap.size + 1 + 1 + 1, 0, none⟩) 0 0] 24)).alloc (.cells #[.slice (some ⟨w.heap.size + 1 + 1 + 1 + 1, 0, none⟩) 0 0] 24)) (w.heap.size + 1 + 1 + 1 + 1 + 1 + 1) 24 (.slice (some ⟨w.heap.size + 1 + 1 + 1 + 1, 0, none⟩) 0 0) := by
    have := Boxed.new ((((((w.alloc (.cells #[.int .i64 (m : Int)] 3)).alloc (.cells #[.slice none 0 0] 24)).alloc (.cells #[.slice none 0 0] 24)).alloc (.cells #[] 3)).alloc (.cells #[] 3)).alloc (.cells #[.slice (some ⟨w.heap.size + 1 + 1 + 1, 0, none⟩) 0 0] 24)) 24 (.slice (some ⟨w.heap.size + 1 + 1 + 1 + 1, 0, none⟩) 0 0)
    simpa only [World.size_alloc] using this
  have bR2 : Boxed (((((((w.alloc (.cells #[.int .i64 (m : Int)] 3)).alloc (.cells #[.slice none 0 0] 24)).alloc (.cells #[.slice none 0 0] 24)).alloc (.cells #[] 3)).alloc (.cells #[] 3)).alloc (.cells #[.slice (some ⟨w.heap.size + 1 + 1 + 1, 0, none⟩) 0 0] 24)).alloc (.cells #[.slice (some ⟨w.heap.size + 1 + 1 + 1 + 1, 0, none⟩) 0 0] 24)) (w.heap.size + 1 + 1) 24 (.slice none 0 0) := by
    refine Boxed.alloc (Boxed.alloc (Boxed.alloc (Boxed.alloc ?_ _) _) _) _
    have := Boxed.new ((w.alloc (.cells #[.int .i64 (m : Int)] 3)).alloc (.cells #[.slice none 0 0] 24)) 24 (.slice none 0 0)
    simpa only [World.size_alloc] using this
  have bR1 : Boxed (((((((w.alloc (.cells #[.int .i64 (m : Int)] 3)).alloc (.cells #[.slice none 0 0] 24)).alloc (.cells #[.slice none 0 0] 24)).alloc (.cells #[] 3)).alloc (.cells #[] 3)).alloc (.cells #[.slice (some ⟨w.heap.size + 1 + 1 + 1, 0, none⟩) 0 0] 24)).alloc (.cells #[.slice (some ⟨w.heap.size + 1 + 1 + 1 + 1, 0, none⟩) 0 0] 24)) (w.heap.size + 1) 24 (.slice none 0 0) := by
    refine Boxed.alloc (Boxed.alloc (Boxed.alloc (Boxed.alloc (Boxed.alloc ?_ _) _) _) _) _
    have := Boxed.new (w.alloc (.cells #[.int .i64 (m : Int)] 3)) 24 (.slice none 0 0)
    simpa only [World.size_alloc] using this
  have bM : Boxed (((((((w.alloc (.cells #[.int .i64 (m : Int)] 3)).alloc (.cells #[.slice none 0 0] 24)).alloc (.cells #[.slice none 0 0] 24)).alloc (.cells #[] 3)).alloc (.cells #[] 3)).alloc (.cells #[.slice (some ⟨w.heap.size + 1 + 1 + 1, 0, none⟩) 0 0] 24)).alloc (.cells #[.slice (some ⟨w.heap.size + 1 + 1 + 1 + 1, 0, none⟩) 0 0] 24)) w.heap.size 3 (.int .i64 (m : Int)) :=
    Boxed.alloc (Boxed.alloc (Boxed.alloc (Boxed.alloc (Boxed.alloc (Boxed.alloc (Boxed.new w 3 (.int .i64 (m : Int))) _) _) _) _) _) _
  have zz : (((((((w.alloc (.cells #[.int .i64 (m : Int)] 3)).alloc (.cells #[.slice none 0 0] 24)).alloc (.cells #[.slice none 0 0] 24)).alloc (.cells #[] 3)).alloc (.cells #[] 3)).alloc (.cells #[.slice (some ⟨w.heap.size + 1 + 1 + 1, 0, none⟩) 0 0] 24)).alloc (.cells #[.slice (some ⟨w.heap.size + 1 + 1 + 1 + 1, 0, none⟩) 0 0] 24)).heap.size = w.heap.size + 1 + 1 + 1 + 1 + 1 + 1 + 1 := by simp only [World.size_alloc]
  have HALL := Lib.hid (mpairs_any (cap := cap) ((hms.kept b0 (Nat.le_refl _)).mono b0.size) h0 hlen)
  have HZZ := Lib.hid zz
  have HB0 := Lib.hid b0
  have HBX := Lib.hid bX
  have HBY := Lib.hid bY
  have HBR1 := Lib.hid bR1
  have HBR2 := Lib.hid bR2
  have HBM := Lib.hid bM
  have hDl := pairsD_length ms
  rw [hms.length] at hDl
  obtain ⟨D, hDD⟩ : ∃ D, pairsD ms = D := ⟨_, rfl⟩
  unfold PairsPost at HALL
  rw [hDD] at hDl HALL ⊢
  clear hms b0 h0 bX bY bR1 bR2 bM zz
  refine (callsIn_wide (n := 3)).1 ?_
  refine callsIn_of_wp_marks Try.func18 rfl trivial ?_ rfl
  simp only [Try.ntmps18, List.size_toArray, List.length_cons, List.length_nil, Nat.reduceAdd, Nat.reduceSub, Array.replicate_succ, Array.replicate_zero, List.push_toArray, List.append_toArray, List.nil_append, List.cons_append]
  gi_wp2_with (refine ⟨trivial, ?_⟩; gi_at_call 40; refine (callsIn_wide.2 HALL.out).mono ?_; clear HALL; rintro e w1 ⟨v, rfl, hsq, hB1⟩)
  generalize (((((((w.alloc (.cells #[.int .i64 (m : Int)] 3)).alloc (.cells #[.slice none 0 0] 24)).alloc (.cells #[.slice none 0 0] 24)).alloc (.cells #[] 3)).alloc (.cells #[] 3)).alloc (.cells #[.slice (some ⟨w.heap.size + 1 + 1 + 1, 0, none⟩) 0 0] 24)).alloc (.cells #[.slice (some ⟨w.heap.size + 1 + 1 + 1 + 1, 0, none⟩) 0 0] 24)) = w0 at *
  have hsz := hB1.size
  have hz0 := HZZ.out
  obtain ⟨gf, lb, rfl, hen, hst⟩ := hsq
  have hP0 : PrH w m w0.heap.size w1.heap.size w1 (.slice (some ⟨w.heap.size + 1 + 1 + 1, 0, none⟩) 0 0) (.slice (some ⟨w.heap.size + 1 + 1 + 1 + 1, 0, none⟩) 0 0) (.slice (some ⟨w.heap.size + 1 + 1 + 1, 0, none⟩) 0 0) (.slice (some ⟨w.heap.size + 1 + 1 + 1 + 1, 0, none⟩) 0 0) [] [] none none w1 :=
    ⟨(hB1.block _ (by omega)).trans HBX.out, (hB1.block _ (by omega)).trans HBY.out, (hB1.block _ (by omega)).trans HBM.out, (hB1.block _ (by omega)).trans HBR1.out, (hB1.block _ (by omega)).trans HBR2.out, gb_nil _ _ _ _ _, gb_nil _ _ _ _ _, (fun g e => by cases e), HB0.out.trans (hB1.mono HB0.out.size), Nat.le_refl _, by omega, hsz, KeepsOthers.refl _, Mid.refl _ _ _⟩
  clear HBX HBY HBM HBR1 HBR2 HB0 hB1 HZZ
  refine wpIn_rangeFunc_ownG rfl (by omega) (gf := gf) (lb := lb) rfl trivial hen
    (hst 2 (by omega)).stops Mid.trans (Mid.putObj (Nat.le_refl _)) (Below.refl _ _) (fun _ => rfl)
    (fun pre W => pre.length < m ∧ ∃ v1 v2 b1 b2, PrH w m w0.heap.size w1.heap.size W v1 v2 v1 v2 (pre.map (·.1)) (pre.map (·.2)) b1 b2 W)
    (fun c pre W => c = .ret ∧ pre.length = m ∧ ∃ v1 v2, Boxed W (w.heap.size + 1) 24 v1 ∧ Boxed W (w.heap.size + 1 + 1) 24 v2 ∧ Gath W w1.heap.size 3 1 v1 pre.length (ivals .i64 (pre.map (·.1))) ∧ Gath W w1.heap.size 3 1 v2 pre.length (ivals .i64 (pre.map (·.2))) ∧ Below w.heap.size w W)
    (fun s A B row hs hg hr => ⟨hs.1, by obtain ⟨v1, v2, b1, b2, hP⟩ := hs.2; exact ⟨v1, v2, b1, b2, hP.turned hg hr⟩⟩)
    (fun c s A B row hs hg hr => by
      obtain ⟨hc, e1, v1, v2, k1, k2, k3, k4, k5⟩ := hs
      exact ⟨hc, e1, v1, v2, boxed_kept k1 hg (fun r e => (hr r e).2), boxed_kept k2 hg (fun r e => (hr r e).2), gath_kept k3 hg (fun r e => (hr r e).2), gath_kept k4 hg (fun r e => (hr r e).2), k5.grown hg k5.size (fun r e => by have := (hr r e).1; omega)⟩)
    ⟨by show 0 < m; omega, _, _, _, _, hP0⟩
    ?_ ?assign ?body ?done ?stop
  case assign =>
    intro l x W K hK
    unfold encM
    gi_wp2
    exact hK
  case body =>
    rintro l pre x W ⟨hpm, v1, v2, b1, b2, hP⟩ hltz
    have HP := Lib.hid hP
    obtain ⟨x1, x2⟩ := x
    gi_wp2
    refine region_round_T (fun X => X.cell? ⟨w.heap.size + 1 + 1 + 1 + 1 + 1, 0, none⟩ = some v1 ∧ X.cell? ⟨w.heap.size + 1 + 1 + 1 + 1 + 1 + 1, 0, none⟩ = some v2) (fun j => decide (j < 8)) rfl (by kernel_rfl) rfl ?_
    change AnyT _ _ _ _ _ _ _ _ 10 _ _ (World.drew _)
    have hX := (hP.fresh W (KeepsOthers.refl _) (Mid.refl _ _ _)).drew
    generalize W.drew = X at hX ⊢
    clear hP
    obtain ⟨xs, hxs⟩ : ∃ xs, pre.map (·.1) = xs := ⟨_, rfl⟩
    obtain ⟨ys, hys⟩ : ∃ ys, pre.map (·.2) = ys := ⟨_, rfl⟩
    have hxl : xs.length = pre.length := by rw [← hxs, List.length_map]
    have hyl : ys.length = pre.length := by rw [← hys, List.length_map]
    rw [hxs, hys] at hX
    have HXS := Lib.hid hxs
    have HYS := Lib.hid hys
    have HXL := Lib.hid hxl
    have HYL := Lib.hid hyl
    have hlx : xs.length + 1 ≤ 60000 := by omega
    have hly : ys.length + 1 ≤ 60000 := by omega
    obtain ⟨a1, c1, rfl⟩ := hX.g1.slice
    obtain ⟨a2, c2, rfl⟩ := hX.g2.slice
    clear HP hxs hys hxl hyl
    refine AnyT.take (i := 0) (v := .slice a1 xs.length c1) rfl rfl (by kernel_rfl) (by kernel_rfl) (by kernel_rfl) (by kernel_rfl) (by kernel_rfl) (fun _ _ _ h => h) (by kernel_rfl) (fun x hx => by have c := hx.1; go_simp) (fun _ => rfl) ⟨hX.bx.cell, hX.by_.cell⟩ ?_
    try simp only [List.getElem_toArray, List.getElem_cons_zero, List.getElem_cons_succ, Act.put, List.setIfInBounds_toArray, List.set_cons_zero, List.set_cons_succ]
    refine AnyT.take (i := 1) (v := .int .i64 x1) rfl rfl (by kernel_rfl) (by kernel_rfl) (by kernel_rfl) (by kernel_rfl) (by kernel_rfl) (fun _ _ _ h => h) (by kernel_rfl) (fun x hx => by go_simp) (fun _ => rfl) ⟨hX.bx.cell, hX.by_.cell⟩ ?_
    try simp only [List.getElem_toArray, List.getElem_cons_zero, List.getElem_cons_succ, Act.put, List.setIfInBounds_toArray, List.set_cons_zero, List.set_cons_succ]
    refine AnyT.take (i := 4) (v := .slice a2 ys.length c2) rfl rfl (by kernel_rfl) (by kernel_rfl) (by kernel_rfl) (by kernel_rfl) (by kernel_rfl) (fun _ _ _ h => h) (by kernel_rfl) (fun x hx => by have c := hx.2; go_simp) (fun _ => rfl) ⟨hX.bx.cell, hX.by_.cell⟩ ?_
    try simp only [List.getElem_toArray, List.getElem_cons_zero, List.getElem_cons_succ, Act.put, List.setIfInBounds_toArray, List.set_cons_zero, List.set_cons_succ]
    refine AnyT.take (i := 5) (v := .int .i64 x2) rfl rfl (by kernel_rfl) (by kernel_rfl) (by kernel_rfl) (by kernel_rfl) (by kernel_rfl) (fun _ _ _ h => h) (by kernel_rfl) (fun x hx => by go_simp) (fun _ => rfl) ⟨hX.bx.cell, hX.by_.cell⟩ ?_
    try simp only [List.getElem_toArray, List.getElem_cons_zero, List.getElem_cons_succ, Act.put, List.setIfInBounds_toArray, List.set_cons_zero, List.set_cons_succ]
    refine AnyT.ready (rs := [2, 6]) (by kernel_rfl) (by simp) ?_
    refine ReadyT.cons rfl (fun K hK => ?_) ?_
    · go_simp
      have hX1 := hX.alloc (.cells #[.int .i64 x1] 3)
      have e1 : CellAt (X.alloc (.cells #[.int .i64 x1] 3)) X.heap.size (.int .i64 x1) := cell_one _ _ _
      refine hK _ _ (fun _ => ⟨hX1.bx.cell, hX1.by_.cell⟩) ?_
      clear hK K
      try simp only [List.getElem_toArray, List.getElem_cons_zero, List.getElem_cons_succ, Act.put, List.setIfInBounds_toArray, List.set_cons_zero, List.set_cons_succ]
      have X1z : X.heap.size < (X.alloc (.cells #[.int .i64 x1] 3)).heap.size := by rw [World.size_alloc]; omega
      generalize X.alloc (.cells #[.int .i64 x1] 3) = X1 at *
      refine AnyT.ready (rs := [3, 6]) (by kernel_rfl) (by simp) ?_
      refine ReadyT.cons rfl (fun K hK => ?_) ?_
      · refine stepIn_append_GB rfl _ _ 24 rfl w1.heap.size 3 i0 (.int .i64 0) 1 8 Try.underlying24 HI.out HZ0.out HZ1.out HZ2.out rfl (by decide) _ xs.length _ _ rfl hX1.g1 ⟨X.heap.size, 0, none⟩ 1 1 [.int .i64 x1] rfl rfl e1 (one_val rfl) (by decide) (by unfold maxLen; omega) (by omega) hX1.size ?_
        intro p1 kp1 X2 rowp1 hGp1 hgp1 hrp1 hwp1
        have hX2 := hX1.app1 hGp1 hgp1 hrp1 hwp1
        refine hK _ _ (fun _ => ⟨hX2.bx.cell, hX2.by_.cell⟩) ?_
        clear hK K
        try simp only [List.getElem_toArray, List.getElem_cons_zero, List.getElem_cons_succ, Act.put, List.setIfInBounds_toArray, List.set_cons_zero, List.set_cons_succ]
        refine AnyT.ready (rs := [6]) (by kernel_rfl) (by simp) ?_
        refine ReadyT.cons rfl (fun K hK => ?_) ?_
        · go_simp
          have hX3 := hX2.alloc (.cells #[.int .i64 x2] 3)
          have e2 : CellAt (X2.alloc (.cells #[.int .i64 x2] 3)) X2.heap.size (.int .i64 x2) := cell_one _ _ _
          refine hK _ _ (fun _ => ⟨hX3.bx.cell, hX3.by_.cell⟩) ?_
          clear hK K
          try simp only [List.getElem_toArray, List.getElem_cons_zero, List.getElem_cons_succ, Act.put, List.setIfInBounds_toArray, List.set_cons_zero, List.set_cons_succ]
          have X3z : X2.heap.size < (X2.alloc (.cells #[.int .i64 x2] 3)).heap.size := by rw [World.size_alloc]; omega
          generalize X2.alloc (.cells #[.int .i64 x2] 3) = X3 at *
          refine AnyT.ready (rs := [7]) (by kernel_rfl) (by simp) ?_
          refine ReadyT.cons rfl (fun K hK => ?_) ?_
          · refine stepIn_append_GB rfl _ _ 24 rfl w1.heap.size 3 i0 (.int .i64 0) 1 8 Try.underlying24 HI.out HZ0.out HZ1.out HZ2.out rfl (by decide) _ ys.length _ _ rfl hX3.g2 ⟨X2.heap.size, 0, none⟩ 1 1 [.int .i64 x2] rfl rfl e2 (one_val rfl) (by decide) (by unfold maxLen; omega) (by omega) hX3.size ?_
            intro p2 kp2 X4 rowp2 hGp2 hgp2 hrp2 hwp2
            have hX4 := hX3.app2 hGp2 hgp2 hrp2 hwp2
            refine hK _ _ (fun _ => ⟨hX4.bx.cell, hX4.by_.cell⟩) ?_
            clear hK K
            try simp only [List.getElem_toArray, List.getElem_cons_zero, List.getElem_cons_succ, Act.put, List.setIfInBounds_toArray, List.set_cons_zero, List.set_cons_succ]
            refine AnyT.ready (rs := [8]) (by kernel_rfl) (by simp) (ReadyT.cons rfl (fun K hK => ?_) ReadyT.nil)
            have c5 := hX4.bx.cell
            have f5 := hX4.bx.frozen
            go_simp
            refine hK _ _ (fun h => absurd h (by decide)) ?_
            clear hK K c5 f5
            try simp only [List.getElem_toArray, List.getElem_cons_zero, List.getElem_cons_succ, Act.put, List.setIfInBounds_toArray, List.set_cons_zero, List.set_cons_succ]
            refine AnyT.ready (rs := [9]) (by kernel_rfl) (by simp) (ReadyT.cons rfl (fun K hK => ?_) ReadyT.nil)
            have c5 := (hX4.by_.other (B' := w.heap.size + 1 + 1 + 1 + 1 + 1) (by omega) (.slice (some ⟨p1, 0, none⟩) (xs.length + 1) kp1)).cell
            have f5 := (hX4.by_.other (B' := w.heap.size + 1 + 1 + 1 + 1 + 1) (by omega) (.slice (some ⟨p1, 0, none⟩) (xs.length + 1) kp1)).frozen
            go_simp
            refine hK _ _ (fun h => absurd h (by decide)) ?_
            clear hK K c5 f5
            try simp only [List.getElem_toArray, List.getElem_cons_zero, List.getElem_cons_succ, Act.put, List.setIfInBounds_toArray, List.set_cons_zero, List.set_cons_succ]
            have hF := hX4.store (.slice (some ⟨p1, 0, none⟩) (xs.length + 1) kp1) (.slice (some ⟨p2, 0, none⟩) (ys.length + 1) kp2)
            refine AnyT.done (by kernel_rfl) ?_ _
            generalize ((X4.setCell ⟨w.heap.size + 1 + 1 + 1 + 1 + 1, 0, none⟩ (.slice (some ⟨p1, 0, none⟩) (xs.length + 1) kp1)).setCell ⟨w.heap.size + 1 + 1 + 1 + 1 + 1 + 1, 0, none⟩ (.slice (some ⟨p2, 0, none⟩) (ys.length + 1) kp2)) = XF at hF ⊢
            have c6 := hF.bx.cell
            have cM := hF.bm.cell
            clear hX hX1 hX2 hX3 hX4 hGp1 hGp2 hst hP0 e1 e2
            by_cases hme : xs.length + 1 = m
            · have hmb : ((xs.length : Int) + 1 == (m : Int)) = true := by simp; omega
              have HME := Lib.hid hme
              clear hme
              gi_wp2
              refine region_round_T (fun X => X.cell? ⟨w.heap.size + 1 + 1 + 1 + 1 + 1, 0, none⟩ = some (.slice (some ⟨p1, 0, none⟩) (xs.length + 1) kp1) ∧ X.cell? ⟨w.heap.size + 1 + 1 + 1 + 1 + 1 + 1, 0, none⟩ = some (.slice (some ⟨p2, 0, none⟩) (ys.length + 1) kp2)) (fun j => decide (j < 3)) rfl (by kernel_rfl) rfl ?_
              change AnyT _ _ _ _ _ _ _ _ 4 _ _ (World.drew _)
              have hX := hF.drew
              clear hF c6 cM
              generalize XF.drew = X6 at hX ⊢
              refine AnyT.take (i := 0) (v := .slice (some ⟨p1, 0, none⟩) (xs.length + 1) kp1) rfl rfl (by kernel_rfl) (by kernel_rfl) (by kernel_rfl) (by kernel_rfl) (by kernel_rfl) (fun _ _ _ h => h) (by kernel_rfl) (fun x hx => by have c := hx.1; go_simp) (fun _ => rfl) ⟨hX.bx.cell, hX.by_.cell⟩ ?_
              try simp only [List.getElem_toArray, List.getElem_cons_zero, List.getElem_cons_succ, Act.put, List.setIfInBounds_toArray, List.set_cons_zero, List.set_cons_succ]
              refine AnyT.take (i := 1) (v := .slice (some ⟨p2, 0, none⟩) (ys.length + 1) kp2) rfl rfl (by kernel_rfl) (by kernel_rfl) (by kernel_rfl) (by kernel_rfl) (by kernel_rfl) (fun _ _ _ h => h) (by kernel_rfl) (fun x hx => by have c := hx.2; go_simp) (fun _ => rfl) ⟨hX.bx.cell, hX.by_.cell⟩ ?_
              try simp only [List.getElem_toArray, List.getElem_cons_zero, List.getElem_cons_succ, Act.put, List.setIfInBounds_toArray, List.set_cons_zero, List.set_cons_succ]
              refine AnyT.ready (rs := [2]) (by kernel_rfl) (by simp) (ReadyT.cons rfl (fun K hK => ?_) ReadyT.nil)
              have c5 := hX.br1.cell
              have f5 := hX.br1.frozen
              go_simp
              refine hK _ _ (fun _ => ⟨(hX.bx.other (by omega) _).cell, (hX.by_.other (by omega) _).cell⟩) ?_
              clear hK K c5 f5
              try simp only [List.getElem_toArray, List.getElem_cons_zero, List.getElem_cons_succ, Act.put, List.setIfInBounds_toArray, List.set_cons_zero, List.set_cons_succ]
              refine AnyT.ready (rs := [3]) (by kernel_rfl) (by simp) (ReadyT.cons rfl (fun K hK => ?_) ReadyT.nil)
              have c5 := (hX.br2.other (B' := w.heap.size + 1) (by omega) (.slice (some ⟨p1, 0, none⟩) (xs.length + 1) kp1)).cell
              have f5 := (hX.br2.other (B' := w.heap.size + 1) (by omega) (.slice (some ⟨p1, 0, none⟩) (xs.length + 1) kp1)).frozen
              go_simp
              refine hK _ _ (fun h => absurd h (by decide)) ?_
              clear hK K c5 f5
              try simp only [List.getElem_toArray, List.getElem_cons_zero, List.getElem_cons_succ, Act.put, List.setIfInBounds_toArray, List.set_cons_zero, List.set_cons_succ]
              refine AnyT.done (by kernel_rfl) ?_ _
              obtain ⟨k1, k2, k3, k4, k5, k6⟩ := hX.answer (.slice (some ⟨p1, 0, none⟩) (xs.length + 1) kp1) (.slice (some ⟨p2, 0, none⟩) (ys.length + 1) kp2)
              generalize ((X6.setCell ⟨w.heap.size + 1, 0, none⟩ (.slice (some ⟨p1, 0, none⟩) (xs.length + 1) kp1)).setCell ⟨w.heap.size + 1 + 1, 0, none⟩ (.slice (some ⟨p2, 0, none⟩) (ys.length + 1) kp2)) = X7 at k1 k2 k3 k4 k5 k6 ⊢
              have HK := Lib.hid (And.intro k1 (And.intro k2 (And.intro k3 (And.intro k4 (And.intro k5 k6)))))
              clear k1 k2 k3 k4 k5 k6 hX
              gi_wp2
              obtain ⟨k1, k2, k3, k4, k5, k6⟩ := HK.out
              refine ⟨k6.from _, rfl, by rw [List.length_append, List.length_singleton, ← HXL.out]; exact HME.out, _, _, k1, k2, ?_, ?_, k5⟩
              · rw [show (pre ++ [(x1, x2)]).length = (xs ++ [x1]).length by simp [HXL.out], List.map_append, HXS.out]; exact k3
              · rw [show (pre ++ [(x1, x2)]).length = (ys ++ [x2]).length by simp [HYL.out], List.map_append, HYS.out]; exact k4
            · have hmb : ((xs.length : Int) + 1 == (m : Int)) = false := by simp; omega
              have hpl : xs.length + 1 < m := by have := HXL.out; omega
              have HF := Lib.hid hF
              clear hme hF
              gi_wp2
              have hn := HF.out.fresh XF (KeepsOthers.refl _) (Mid.refl _ _ _)
              rw [show xs ++ [x1] = (pre ++ [(x1, x2)]).map (·.1) by rw [List.map_append, HXS.out]; rfl, show ys ++ [x2] = (pre ++ [(x1, x2)]).map (·.2) by rw [List.map_append, HYS.out]; rfl] at hn
              exact ⟨HF.out.ko.from _, HF.out.md, by rw [List.length_append, List.length_singleton, ← HXL.out]; exact hpl, _, _, _, _, hn⟩
          · exact ReadyT.nil
        · exact ReadyT.nil
      · refine ReadyT.cons rfl (fun K hK => ?_) ?_
        · go_simp
          have hX2 := hX1.alloc (.cells #[.int .i64 x2] 3)
          have e2 : CellAt (X1.alloc (.cells #[.int .i64 x2] 3)) X1.heap.size (.int .i64 x2) := cell_one _ _ _
          replace e1 := e1.alloc (.cells #[.int .i64 x2] 3)
          refine hK _ _ (fun _ => ⟨hX2.bx.cell, hX2.by_.cell⟩) ?_
          clear hK K
          try simp only [List.getElem_toArray, List.getElem_cons_zero, List.getElem_cons_succ, Act.put, List.setIfInBounds_toArray, List.set_cons_zero, List.set_cons_succ]
          have X2z : X1.heap.size < (X1.alloc (.cells #[.int .i64 x2] 3)).heap.size := by rw [World.size_alloc]; omega
          generalize X1.alloc (.cells #[.int .i64 x2] 3) = X2 at *
          refine AnyT.ready (rs := [3]) (by kernel_rfl) (by simp) ?_
          refine ReadyT.cons rfl (fun K hK => ?_) ?_
          · refine stepIn_append_GB rfl _ _ 24 rfl w1.heap.size 3 i0 (.int .i64 0) 1 8 Try.underlying24 HI.out HZ0.out HZ1.out HZ2.out rfl (by decide) _ xs.length _ _ rfl hX2.g1 ⟨X.heap.size, 0, none⟩ 1 1 [.int .i64 x1] rfl rfl e1 (one_val rfl) (by decide) (by unfold maxLen; omega) (by omega) hX2.size ?_
            intro p1 kp1 X3 rowp1 hGp1 hgp1 hrp1 hwp1
            have hX3 := hX2.app1 hGp1 hgp1 hrp1 hwp1
            replace e2 := e2.kept hgp1 (by rintro rfl; rcases hrp1 with e | e; cases e; have := (hX2.g1.lt _ e.symm).2.1; have := (hX.g1.lt _ e.symm).2.1; omega)
            refine hK _ _ (fun _ => ⟨hX3.bx.cell, hX3.by_.cell⟩) ?_
            clear hK K
            try simp only [List.getElem_toArray, List.getElem_cons_zero, List.getElem_cons_succ, Act.put, List.setIfInBounds_toArray, List.set_cons_zero, List.set_cons_succ]
            refine AnyT.ready (rs := [7]) (by kernel_rfl) (by simp) ?_
            refine ReadyT.cons rfl (fun K hK => ?_) ?_
            · refine stepIn_append_GB rfl _ _ 24 rfl w1.heap.size 3 i0 (.int .i64 0) 1 8 Try.underlying24 HI.out HZ0.out HZ1.out HZ2.out rfl (by decide) _ ys.length _ _ rfl hX3.g2 ⟨X1.heap.size, 0, none⟩ 1 1 [.int .i64 x2] rfl rfl e2 (one_val rfl) (by decide) (by unfold maxLen; omega) (by omega) hX3.size ?_
              intro p2 kp2 X4 rowp2 hGp2 hgp2 hrp2 hwp2
              have hX4 := hX3.app2 hGp2 hgp2 hrp2 hwp2
              refine hK _ _ (fun _ => ⟨hX4.bx.cell, hX4.by_.cell⟩) ?_
              clear hK K
              try simp only [List.getElem_toArray, List.getElem_cons_zero, List.getElem_cons_succ, Act.put, List.setIfInBounds_toArray, List.set_cons_zero, List.set_cons_succ]
              refine AnyT.ready (rs := [8]) (by kernel_rfl) (by simp) (ReadyT.cons rfl (fun K hK => ?_) ReadyT.nil)
              have c5 := hX4.bx.cell
              have f5 := hX4.bx.frozen
              go_simp
              refine hK _ _ (fun h => absurd h (by decide)) ?_
              clear hK K c5 f5
              try simp only [List.getElem_toArray, List.getElem_cons_zero, List.getElem_cons_succ, Act.put, List.setIfInBounds_toArray, List.set_cons_zero, List.set_cons_succ]
              refine AnyT.ready (rs := [9]) (by kernel_rfl) (by simp) (ReadyT.cons rfl (fun K hK => ?_) ReadyT.nil)
              have c5 := (hX4.by_.other (B' := w.heap.size + 1 + 1 + 1 + 1 + 1) (by omega) (.slice (some ⟨p1, 0, none⟩) (xs.length + 1) kp1)).cell
              have f5 := (hX4.by_.other (B' := w.heap.size + 1 + 1 + 1 + 1 + 1) (by omega) (.slice (some ⟨p1, 0, none⟩) (xs.length + 1) kp1)).frozen
              go_simp
              refine hK _ _ (fun h => absurd h (by decide)) ?_
              clear hK K c5 f5
              try simp only [List.getElem_toArray, List.getElem_cons_zero, List.getElem_cons_succ, Act.put, List.setIfInBounds_toArray, List.set_cons_zero, List.set_cons_succ]
              have hF := hX4.store (.slice (some ⟨p1, 0, none⟩) (xs.length + 1) kp1) (.slice (some ⟨p2, 0, none⟩) (ys.length + 1) kp2)
              refine AnyT.done (by kernel_rfl) ?_ _
              generalize ((X4.setCell ⟨w.heap.size + 1 + 1 + 1 + 1 + 1, 0, none⟩ (.slice (some ⟨p1, 0, none⟩) (xs.length + 1) kp1)).setCell ⟨w.heap.size + 1 + 1 + 1 + 1 + 1 + 1, 0, none⟩ (.slice (some ⟨p2, 0, none⟩) (ys.length + 1) kp2)) = XF at hF ⊢
              have c6 := hF.bx.cell
              have cM := hF.bm.cell
              clear hX hX1 hX2 hX3 hX4 hGp1 hGp2 hst hP0 e1 e2
              by_cases hme : xs.length + 1 = m
              · have hmb : ((xs.length : Int) + 1 == (m : Int)) = true := by simp; omega
                have HME := Lib.hid hme
                clear hme
                gi_wp2
                refine region_round_T (fun X => X.cell? ⟨w.heap.size + 1 + 1 + 1 + 1 + 1, 0, none⟩ = some (.slice (some ⟨p1, 0, none⟩) (xs.length + 1) kp1) ∧ X.cell? ⟨w.heap.size + 1 + 1 + 1 + 1 + 1 + 1, 0, none⟩ = some (.slice (some ⟨p2, 0, none⟩) (ys.length + 1) kp2)) (fun j => decide (j < 3)) rfl (by kernel_rfl) rfl ?_
                change AnyT _ _ _ _ _ _ _ _ 4 _ _ (World.drew _)
                have hX := hF.drew
                clear hF c6 cM
                generalize XF.drew = X6 at hX ⊢
                refine AnyT.take (i := 0) (v := .slice (some ⟨p1, 0, none⟩) (xs.length + 1) kp1) rfl rfl (by kernel_rfl) (by kernel_rfl) (by kernel_rfl) (by kernel_rfl) (by kernel_rfl) (fun _ _ _ h => h) (by kernel_rfl) (fun x hx => by have c := hx.1; go_simp) (fun _ => rfl) ⟨hX.bx.cell, hX.by_.cell⟩ ?_
                try simp only [List.getElem_toArray, List.getElem_cons_zero, List.getElem_cons_succ, Act.put, List.setIfInBounds_toArray, List.set_cons_zero, List.set_cons_succ]
                refine AnyT.take (i := 1) (v := .slice (some ⟨p2, 0, none⟩) (ys.length + 1) kp2) rfl rfl (by kernel_rfl) (by kernel_rfl) (by kernel_rfl) (by kernel_rfl) (by kernel_rfl) (fun _ _ _ h => h) (by kernel_rfl) (fun x hx => by have c := hx.2; go_simp) (fun _ => rfl) ⟨hX.bx.cell, hX.by_.cell⟩ ?_
                try simp only [List.getElem_toArray, List.getElem_cons_zero, List.getElem_cons_succ, Act.put, List.setIfInBounds_toArray, List.set_cons_zero, List.set_cons_succ]
                refine AnyT.ready (rs := [2]) (by kernel_rfl) (by simp) (ReadyT.cons rfl (fun K hK => ?_) ReadyT.nil)
                have c5 := hX.br1.cell
                have f5 := hX.br1.frozen
                go_simp
                refine hK _ _ (fun _ => ⟨(hX.bx.other (by omega) _).cell, (hX.by_.other (by omega) _).cell⟩) ?_
                clear hK K c5 f5
                try simp only [List.getElem_toArray, List.getElem_cons_zero, List.getElem_cons_succ, Act.put, List.setIfInBounds_toArray, List.set_cons_zero, List.set_cons_succ]
                refine AnyT.ready (rs := [3]) (by kernel_rfl) (by simp) (ReadyT.cons rfl (fun K hK => ?_) ReadyT.nil)
                have c5 := (hX.br2.other (B' := w.heap.size + 1) (by omega) (.slice (some ⟨p1, 0, none⟩) (xs.length + 1) kp1)).cell
                have f5 := (hX.br2.other (B' := w.heap.size + 1) (by omega) (.slice (some ⟨p1, 0, none⟩) (xs.length + 1) kp1)).frozen
                go_simp
                refine hK _ _ (fun h => absurd h (by decide)) ?_
                clear hK K c5 f5
                try simp only [List.getElem_toArray, List.getElem_cons_zero, List.getElem_cons_succ, Act.put, List.setIfInBounds_toArray, List.set_cons_zero, List.set_cons_succ]
                refine AnyT.done (by kernel_rfl) ?_ _
                obtain ⟨k1, k2, k3, k4, k5, k6⟩ := hX.answer (.slice (some ⟨p1, 0, none⟩) (xs.length + 1) kp1) (.slice (some ⟨p2, 0, none⟩) (ys.length + 1) kp2)
                generalize ((X6.setCell ⟨w.heap.size + 1, 0, none⟩ (.slice (some ⟨p1, 0, none⟩) (xs.length + 1) kp1)).setCell ⟨w.heap.size + 1 + 1, 0, none⟩ (.slice (some ⟨p2, 0, none⟩) (ys.length + 1) kp2)) = X7 at k1 k2 k3 k4 k5 k6 ⊢
                have HK := Lib.hid (And.intro k1 (And.intro k2 (And.intro k3 (And.intro k4 (And.intro k5 k6)))))
                clear k1 k2 k3 k4 k5 k6 hX
                gi_wp2
                obtain ⟨k1, k2, k3, k4, k5, k6⟩ := HK.out
                refine ⟨k6.from _, rfl, by rw [List.length_append, List.length_singleton, ← HXL.out]; exact HME.out, _, _, k1, k2, ?_, ?_, k5⟩
                · rw [show (pre ++ [(x1, x2)]).length = (xs ++ [x1]).length by simp [HXL.out], List.map_append, HXS.out]; exact k3
                · rw [show (pre ++ [(x1, x2)]).length = (ys ++ [x2]).length by simp [HYL.out], List.map_append, HYS.out]; exact k4
              · have hmb : ((xs.length : Int) + 1 == (m : Int)) = false := by simp; omega
                have hpl : xs.length + 1 < m := by have := HXL.out; omega
                have HF := Lib.hid hF
                clear hme hF
                gi_wp2
                have hn := HF.out.fresh XF (KeepsOthers.refl _) (Mid.refl _ _ _)
                rw [show xs ++ [x1] = (pre ++ [(x1, x2)]).map (·.1) by rw [List.map_append, HXS.out]; rfl, show ys ++ [x2] = (pre ++ [(x1, x2)]).map (·.2) by rw [List.map_append, HYS.out]; rfl] at hn
                exact ⟨HF.out.ko.from _, HF.out.md, by rw [List.length_append, List.length_singleton, ← HXL.out]; exact hpl, _, _, _, _, hn⟩
            · exact ReadyT.nil
          · exact ReadyT.nil
        · exact ReadyT.nil
    · refine ReadyT.cons rfl (fun K hK => ?_) ?_
      · go_simp
        have hX1 := hX.alloc (.cells #[.int .i64 x2] 3)
        have e2 : CellAt (X.alloc (.cells #[.int .i64 x2] 3)) X.heap.size (.int .i64 x2) := cell_one _ _ _
        refine hK _ _ (fun _ => ⟨hX1.bx.cell, hX1.by_.cell⟩) ?_
        clear hK K
        try simp only [List.getElem_toArray, List.getElem_cons_zero, List.getElem_cons_succ, Act.put, List.setIfInBounds_toArray, List.set_cons_zero, List.set_cons_succ]
        have X1z : X.heap.size < (X.alloc (.cells #[.int .i64 x2] 3)).heap.size := by rw [World.size_alloc]; omega
        generalize X.alloc (.cells #[.int .i64 x2] 3) = X1 at *
        refine AnyT.ready (rs := [2]) (by kernel_rfl) (by simp) ?_
        refine ReadyT.cons rfl (fun K hK => ?_) ?_
        · go_simp
          have hX2 := hX1.alloc (.cells #[.int .i64 x1] 3)
          have e1 : CellAt (X1.alloc (.cells #[.int .i64 x1] 3)) X1.heap.size (.int .i64 x1) := cell_one _ _ _
          replace e2 := e2.alloc (.cells #[.int .i64 x1] 3)
          refine hK _ _ (fun _ => ⟨hX2.bx.cell, hX2.by_.cell⟩) ?_
          clear hK K
          try simp only [List.getElem_toArray, List.getElem_cons_zero, List.getElem_cons_succ, Act.put, List.setIfInBounds_toArray, List.set_cons_zero, List.set_cons_succ]
          have X2z : X1.heap.size < (X1.alloc (.cells #[.int .i64 x1] 3)).heap.size := by rw [World.size_alloc]; omega
          generalize X1.alloc (.cells #[.int .i64 x1] 3) = X2 at *
          refine AnyT.ready (rs := [3]) (by kernel_rfl) (by simp) ?_
          refine ReadyT.cons rfl (fun K hK => ?_) ?_
          · refine stepIn_append_GB rfl _ _ 24 rfl w1.heap.size 3 i0 (.int .i64 0) 1 8 Try.underlying24 HI.out HZ0.out HZ1.out HZ2.out rfl (by decide) _ xs.length _ _ rfl hX2.g1 ⟨X1.heap.size, 0, none⟩ 1 1 [.int .i64 x1] rfl rfl e1 (one_val rfl) (by decide) (by unfold maxLen; omega) (by omega) hX2.size ?_
            intro p1 kp1 X3 rowp1 hGp1 hgp1 hrp1 hwp1
            have hX3 := hX2.app1 hGp1 hgp1 hrp1 hwp1
            replace e2 := e2.kept hgp1 (by rintro rfl; rcases hrp1 with e | e; cases e; have := (hX2.g1.lt _ e.symm).2.1; have := (hX.g1.lt _ e.symm).2.1; omega)
            refine hK _ _ (fun _ => ⟨hX3.bx.cell, hX3.by_.cell⟩) ?_
            clear hK K
            try simp only [List.getElem_toArray, List.getElem_cons_zero, List.getElem_cons_succ, Act.put, List.setIfInBounds_toArray, List.set_cons_zero, List.set_cons_succ]
            refine AnyT.ready (rs := [7]) (by kernel_rfl) (by simp) ?_
            refine ReadyT.cons rfl (fun K hK => ?_) ?_
            · refine stepIn_append_GB rfl _ _ 24 rfl w1.heap.size 3 i0 (.int .i64 0) 1 8 Try.underlying24 HI.out HZ0.out HZ1.out HZ2.out rfl (by decide) _ ys.length _ _ rfl hX3.g2 ⟨X.heap.size, 0, none⟩ 1 1 [.int .i64 x2] rfl rfl e2 (one_val rfl) (by decide) (by unfold maxLen; omega) (by omega) hX3.size ?_
              intro p2 kp2 X4 rowp2 hGp2 hgp2 hrp2 hwp2
              have hX4 := hX3.app2 hGp2 hgp2 hrp2 hwp2
              refine hK _ _ (fun _ => ⟨hX4.bx.cell, hX4.by_.cell⟩) ?_
              clear hK K
              try simp only [List.getElem_toArray, List.getElem_cons_zero, List.getElem_cons_succ, Act.put, List.setIfInBounds_toArray, List.set_cons_zero, List.set_cons_succ]
              refine AnyT.ready (rs := [8]) (by kernel_rfl) (by simp) (ReadyT.cons rfl (fun K hK => ?_) ReadyT.nil)
              have c5 := hX4.bx.cell
              have f5 := hX4.bx.frozen
              go_simp
              refine hK _ _ (fun h => absurd h (by decide)) ?_
              clear hK K c5 f5
              try simp only [List.getElem_toArray, List.getElem_cons_zero, List.getElem_cons_succ, Act.put, List.setIfInBounds_toArray, List.set_cons_zero, List.set_cons_succ]
              refine AnyT.ready (rs := [9]) (by kernel_rfl) (by simp) (ReadyT.cons rfl (fun K hK => ?_) ReadyT.nil)
              have c5 := (hX4.by_.other (B' := w.heap.size + 1 + 1 + 1 + 1 + 1) (by omega) (.slice (some ⟨p1, 0, none⟩) (xs.length + 1) kp1)).cell
              have f5 := (hX4.by_.other (B' := w.heap.size + 1 + 1 + 1 + 1 + 1) (by omega) (.slice (some ⟨p1, 0, none⟩) (xs.length + 1) kp1)).frozen
              go_simp
              refine hK _ _ (fun h => absurd h (by decide)) ?_
              clear hK K c5 f5
              try simp only [List.getElem_toArray, List.getElem_cons_zero, List.getElem_cons_succ, Act.put, List.setIfInBounds_toArray, List.set_cons_zero, List.set_cons_succ]
              have hF := hX4.store (.slice (some ⟨p1, 0, none⟩) (xs.length + 1) kp1) (.slice (some ⟨p2, 0, none⟩) (ys.length + 1) kp2)
              refine AnyT.done (by kernel_rfl) ?_ _
              generalize ((X4.setCell ⟨w.heap.size + 1 + 1 + 1 + 1 + 1, 0, none⟩ (.slice (some ⟨p1, 0, none⟩) (xs.length + 1) kp1)).setCell ⟨w.heap.size + 1 + 1 + 1 + 1 + 1 + 1, 0, none⟩ (.slice (some ⟨p2, 0, none⟩) (ys.length + 1) kp2)) = XF at hF ⊢
              have c6 := hF.bx.cell
              have cM := hF.bm.cell
              clear hX hX1 hX2 hX3 hX4 hGp1 hGp2 hst hP0 e1 e2
              by_cases hme : xs.length + 1 = m
              · have hmb : ((xs.length : Int) + 1 == (m : Int)) = true := by simp; omega
                have HME := Lib.hid hme
                clear hme
                gi_wp2
                refine region_round_T (fun X => X.cell? ⟨w.heap.size + 1 + 1 + 1 + 1 + 1, 0, none⟩ = some (.slice (some ⟨p1, 0, none⟩) (xs.length + 1) kp1) ∧ X.cell? ⟨w.heap.size + 1 + 1 + 1 + 1 + 1 + 1, 0, none⟩ = some (.slice (some ⟨p2, 0, none⟩) (ys.length + 1) kp2)) (fun j => decide (j < 3)) rfl (by kernel_rfl) rfl ?_
                change AnyT _ _ _ _ _ _ _ _ 4 _ _ (World.drew _)
                have hX := hF.drew
                clear hF c6 cM
                generalize XF.drew = X6 at hX ⊢
                refine AnyT.take (i := 0) (v := .slice (some ⟨p1, 0, none⟩) (xs.length + 1) kp1) rfl rfl (by kernel_rfl) (by kernel_rfl) (by kernel_rfl) (by kernel_rfl) (by kernel_rfl) (fun _ _ _ h => h) (by kernel_rfl) (fun x hx => by have c := hx.1; go_simp) (fun _ => rfl) ⟨hX.bx.cell, hX.by_.cell⟩ ?_
                try simp only [List.getElem_toArray, List.getElem_cons_zero, List.getElem_cons_succ, Act.put, List.setIfInBounds_toArray, List.set_cons_zero, List.set_cons_succ]
                refine AnyT.take (i := 1) (v := .slice (some ⟨p2, 0, none⟩) (ys.length + 1) kp2) rfl rfl (by kernel_rfl) (by kernel_rfl) (by kernel_rfl) (by kernel_rfl) (by kernel_rfl) (fun _ _ _ h => h) (by kernel_rfl) (fun x hx => by have c := hx.2; go_simp) (fun _ => rfl) ⟨hX.bx.cell, hX.by_.cell⟩ ?_
                try simp only [List.getElem_toArray, List.getElem_cons_zero, List.getElem_cons_succ, Act.put, List.setIfInBounds_toArray, List.set_cons_zero, List.set_cons_succ]
                refine AnyT.ready (rs := [2]) (by kernel_rfl) (by simp) (ReadyT.cons rfl (fun K hK => ?_) ReadyT.nil)
                have c5 := hX.br1.cell
                have f5 := hX.br1.frozen
                go_simp
                refine hK _ _ (fun _ => ⟨(hX.bx.other (by omega) _).cell, (hX.by_.other (by omega) _).cell⟩) ?_
                clear hK K c5 f5
                try simp only [List.getElem_toArray, List.getElem_cons_zero, List.getElem_cons_succ, Act.put, List.setIfInBounds_toArray, List.set_cons_zero, List.set_cons_succ]
                refine AnyT.ready (rs := [3]) (by kernel_rfl) (by simp) (ReadyT.cons rfl (fun K hK => ?_) ReadyT.nil)
                have c5 := (hX.br2.other (B' := w.heap.size + 1) (by omega) (.slice (some ⟨p1, 0, none⟩) (xs.length + 1) kp1)).cell
                have f5 := (hX.br2.other (B' := w.heap.size + 1) (by omega) (.slice (some ⟨p1, 0, none⟩) (xs.length + 1) kp1)).frozen
                go_simp
                refine hK _ _ (fun h => absurd h (by decide)) ?_
                clear hK K c5 f5
                try simp only [List.getElem_toArray, List.getElem_cons_zero, List.getElem_cons_succ, Act.put, List.setIfInBounds_toArray, List.set_cons_zero, List.set_cons_succ]
                refine AnyT.done (by kernel_rfl) ?_ _
                obtain ⟨k1, k2, k3, k4, k5, k6⟩ := hX.answer (.slice (some ⟨p1, 0, none⟩) (xs.length + 1) kp1) (.slice (some ⟨p2, 0, none⟩) (ys.length + 1) kp2)
                generalize ((X6.setCell ⟨w.heap.size + 1, 0, none⟩ (.slice (some ⟨p1, 0, none⟩) (xs.length + 1) kp1)).setCell ⟨w.heap.size + 1 + 1, 0, none⟩ (.slice (some ⟨p2, 0, none⟩) (ys.length + 1) kp2)) = X7 at k1 k2 k3 k4 k5 k6 ⊢
                have HK := Lib.hid (And.intro k1 (And.intro k2 (And.intro k3 (And.intro k4 (And.intro k5 k6)))))
                clear k1 k2 k3 k4 k5 k6 hX
                gi_wp2
                obtain ⟨k1, k2, k3, k4, k5, k6⟩ := HK.out
                refine ⟨k6.from _, rfl, by rw [List.length_append, List.length_singleton, ← HXL.out]; exact HME.out, _, _, k1, k2, ?_, ?_, k5⟩
                · rw [show (pre ++ [(x1, x2)]).length = (xs ++ [x1]).length by simp [HXL.out], List.map_append, HXS.out]; exact k3
                · rw [show (pre ++ [(x1, x2)]).length = (ys ++ [x2]).length by simp [HYL.out], List.map_append, HYS.out]; exact k4
              · have hmb : ((xs.length : Int) + 1 == (m : Int)) = false := by simp; omega
                have hpl : xs.length + 1 < m := by have := HXL.out; omega
                have HF := Lib.hid hF
                clear hme hF
                gi_wp2
                have hn := HF.out.fresh XF (KeepsOthers.refl _) (Mid.refl _ _ _)
                rw [show xs ++ [x1] = (pre ++ [(x1, x2)]).map (·.1) by rw [List.map_append, HXS.out]; rfl, show ys ++ [x2] = (pre ++ [(x1, x2)]).map (·.2) by rw [List.map_append, HYS.out]; rfl] at hn
                exact ⟨HF.out.ko.from _, HF.out.md, by rw [List.length_append, List.length_singleton, ← HXL.out]; exact hpl, _, _, _, _, hn⟩
            · exact ReadyT.nil
          · exact ReadyT.nil
        · exact ReadyT.nil
      · exact ReadyT.nil
  case done =>
    rintro E zs W hD' rfl ⟨hpm, v1, v2, b1, b2, hP⟩ hK
    gi_wp2
    refine region_T_calm (fun X => X.cell? ⟨w.heap.size + 1 + 1 + 1 + 1 + 1, 0, none⟩ = some v1 ∧ X.cell? ⟨w.heap.size + 1 + 1 + 1 + 1 + 1 + 1, 0, none⟩ = some v2) (fun j => decide (j < 3)) rfl (by kernel_rfl) ?_
    change AnyT _ _ _ _ _ _ _ _ 4 _ _ (World.drew _)
    have hX := (hP.fresh W (KeepsOthers.refl _) (Mid.refl _ _ _)).drew
    obtain ⟨xs, hxs⟩ : ∃ xs, zs.map (·.1) = xs := ⟨_, rfl⟩
    obtain ⟨ys, hys⟩ : ∃ ys, zs.map (·.2) = ys := ⟨_, rfl⟩
    have hl1 : xs.length = zs.length := by rw [← hxs, List.length_map]
    have hl2 : ys.length = zs.length := by rw [← hys, List.length_map]
    rw [hxs, hys] at hX
    obtain ⟨a1, c1, rfl⟩ := hX.g1.slice
    obtain ⟨a2, c2, rfl⟩ := hX.g2.slice
    have HL1 := Lib.hid hl1
    have HL2 := Lib.hid hl2
    have HXS := Lib.hid hxs
    have HYS := Lib.hid hys
    clear hP hst hP0 hl1 hl2 hxs hys
    generalize W.drew = X6 at hX ⊢
    refine AnyT.take (i := 0) (v := .slice a1 xs.length c1) rfl rfl (by kernel_rfl) (by kernel_rfl) (by kernel_rfl) (by kernel_rfl) (by kernel_rfl) (fun _ _ _ h => h) (by kernel_rfl) (fun x hx => by have c := hx.1; go_simp) (fun _ => rfl) ⟨hX.bx.cell, hX.by_.cell⟩ ?_
    try simp only [List.getElem_toArray, List.getElem_cons_zero, List.getElem_cons_succ, Act.put, List.setIfInBounds_toArray, List.set_cons_zero, List.set_cons_succ]
    refine AnyT.take (i := 1) (v := .slice a2 ys.length c2) rfl rfl (by kernel_rfl) (by kernel_rfl) (by kernel_rfl) (by kernel_rfl) (by kernel_rfl) (fun _ _ _ h => h) (by kernel_rfl) (fun x hx => by have c := hx.2; go_simp) (fun _ => rfl) ⟨hX.bx.cell, hX.by_.cell⟩ ?_
    try simp only [List.getElem_toArray, List.getElem_cons_zero, List.getElem_cons_succ, Act.put, List.setIfInBounds_toArray, List.set_cons_zero, List.set_cons_succ]
    refine AnyT.ready (rs := [2]) (by kernel_rfl) (by simp) (ReadyT.cons rfl (fun K hK => ?_) ReadyT.nil)
    have c5 := hX.br1.cell
    have f5 := hX.br1.frozen
    go_simp
    refine hK _ _ (fun _ => ⟨(hX.bx.other (B' := w.heap.size + 1) (by omega) (.slice a1 xs.length c1)).cell, (hX.by_.other (B' := w.heap.size + 1) (by omega) (.slice a1 xs.length c1)).cell⟩) ?_
    clear hK K c5 f5
    try simp only [List.getElem_toArray, List.getElem_cons_zero, List.getElem_cons_succ, Act.put, List.setIfInBounds_toArray, List.set_cons_zero, List.set_cons_succ]
    refine AnyT.ready (rs := [3]) (by kernel_rfl) (by simp) (ReadyT.cons rfl (fun K hK => ?_) ReadyT.nil)
    have c5 := (hX.br2.other (B' := w.heap.size + 1) (by omega) (.slice a1 xs.length c1)).cell
    have f5 := (hX.br2.other (B' := w.heap.size + 1) (by omega) (.slice a1 xs.length c1)).frozen
    go_simp
    refine hK _ _ (fun h => absurd h (by decide)) ?_
    clear hK K c5 f5
    try simp only [List.getElem_toArray, List.getElem_cons_zero, List.getElem_cons_succ, Act.put, List.setIfInBounds_toArray, List.set_cons_zero, List.set_cons_succ]
    refine AnyT.done (by kernel_rfl) (noPan_normal ?_) _
    obtain ⟨k1, k2, k3, k4, k5, k6⟩ := hX.answer (.slice a1 xs.length c1) (.slice a2 ys.length c2)
    generalize ((X6.setCell ⟨w.heap.size + 1, 0, none⟩ (.slice a1 xs.length c1)).setCell ⟨w.heap.size + 1 + 1, 0, none⟩ (.slice a2 ys.length c2)) = X7 at k1 k2 k3 k4 k5 k6 ⊢
    have hK7 := k6.same E _ hK rfl
    have HK := Lib.hid (And.intro k1 (And.intro k2 (And.intro k3 (And.intro k4 (And.intro k5 hK7)))))
    clear k1 k2 k3 k4 k5 k6 hX hK hK7
    gi_wp2
    obtain ⟨k1, k2, k3, k4, k5, hK7⟩ := HK.out
    refine ⟨by simp, .inl ⟨_, _, rfl, run_takeDeferred hK7, ?_⟩⟩
    have q1 := cell_kept k1.cell (grownBy_putObj' _ E (.deferred none)) (fun r e => by cases e; exact ⟨_, hK7, rfl⟩)
    have q2 := cell_kept k2.cell (grownBy_putObj' _ E (.deferred none)) (fun r e => by cases e; exact ⟨_, hK7, rfl⟩)
    rw [List.take_of_length_le (by omega)]
    rw [HL1.out] at k3
    rw [HL2.out] at k4
    rw [← HXS.out] at k3
    rw [← HYS.out] at k4
    rw [HL1.out] at q1
    rw [HL2.out] at q2
    refine ⟨.tuple #[.slice a1 zs.length c1, .slice a2 zs.length c2], by simp [results, Try.f18, go_sem, q1, q2], _, _, rfl, gath_putObj (gath_base k3 (by omega)) _ hK7 rfl, gath_putObj (gath_base k4 (by omega)) _ hK7 rfl, ?_⟩
    exact k5.trans (belowK_b (w := w) (Nat.le_refl _) _ E _ _ (by omega) hK7 rfl rfl)
  case stop =>
    rintro E c pre W hD' hpre ⟨rfl, hil, v1, v2, k1, k2, k3, k4, k5⟩ hK7
    gi_wp2
    refine ⟨by simp, .inl ⟨_, _, rfl, run_takeDeferred hK7, ?_⟩⟩
    have q1 := cell_kept k1.cell (grownBy_putObj' _ E (.deferred none)) (fun r e => by cases e; exact ⟨_, hK7, rfl⟩)
    have q2 := cell_kept k2.cell (grownBy_putObj' _ E (.deferred none)) (fun r e => by cases e; exact ⟨_, hK7, rfl⟩)
    have htk : D.take m = pre := by
      obtain ⟨t, ht⟩ := hpre
      rw [← ht, ← hil, List.take_left]
    rw [htk]
    refine ⟨.tuple #[v1, v2], by simp [results, Try.f18, go_sem, q1, q2], v1, v2, rfl, gath_putObj (gath_base k3 (by omega)) _ hK7 rfl, gath_putObj (gath_base k4 (by omega)) _ hK7 rfl, ?_⟩
    exact k5.trans (belowK_b (w := w) (Nat.le_refl _) _ E _ _ (by omega) hK7 rfl rfl)
/-- Whatever number is asked for. -/
theorem lpairs_any {w : World} {a : Option Addr} {b off len cap : Nat} {ms : List Int} (hms : IntsAt .i64 w.heap.size w a b off len ms) (h0 : a = none → len = 0 ∧ cap = 0) (hlen : len ≤ 60000) (m : Int) (hm : m ≤ 100000) :
    Calls Try.prog 18 #[.slice a len cap, .int .i64 m] w (TwoPost w ((pairsD ms).take m.toNat)) := by
  by_cases h : m ≤ 0
  · rw [show m.toNat = 0 by omega]
    exact none_any m h
  · have := some_any (cap := cap) hms h0 hlen m.toNat (by omega) (by omega)
    rwa [show ((m.toNat : Nat) : Int) = m by omega] at this
end Go.Proofs.Ytcmgmcooaljjdaa.L10
