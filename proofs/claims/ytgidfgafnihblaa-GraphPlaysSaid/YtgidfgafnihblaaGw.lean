/- Contract: up to so many of the pairs, gathered. -/
import Derived.Test.YtgidfgafnihblaaGv
set_option linter.unusedVariables false
set_option linter.unusedSectionVars false
namespace Go.Proofs.Ytgidfgafnihblaa
open Go.RowKit Go.Shelf Rk

attribute [local go_sem] Oper.semAt_some

theorem cells_true {w : World} {P : Nat → Prop} {E : TypeId} {row : Option Nat} (h : ∀ g, row = some g → P g ∧ ∃ cur, w.heap[g]? = some (.cells cur E (0, 0))) : ∀ g, row = some g → P g ∧ ∃ o : Obj, w.heap[g]? = some o ∧ o.isCells = true :=
  fun g e => ⟨(h g e).1, by obtain ⟨cur, hc⟩ := (h g e).2; exact ⟨_, hc, rfl⟩⟩
theorem Bag.keepsT {Bo : Nat} {W w1 : World} {E : TypeId} {hi lo up : Nat} {tmp : Obj} {row : Option Nat} {v' : Value} (hs : hi ≤ W.heap.size) (hBo : Bo < lo) (hup : up ≤ hi) (hBh : Bo < hi)
    (hgrow : (W.alloc tmp).grownBy w1 row) (hrow : ∀ g, row = some g → hi ≤ g ∧ ∃ cur, (W.alloc tmp).heap[g]? = some (.cells cur E (0, 0))) : Mid lo up W (w1.setCell ⟨Bo, 0, none⟩ v') ∧ KeepsT E hi W (w1.setCell ⟨Bo, 0, none⟩ v') :=
  ⟨((Mid.alloc lo up W tmp (by omega)).trans (Mid.grown hgrow (by simp; omega) (fun r e => .inr (by have := (hrow r e).1; omega)))).trans (Mid.set _ _ _ _ (.inl hBo)),
    ((KeepsT.alloc E hi W tmp).trans (KeepsT.grown hgrow (fun r e => by obtain ⟨_, cur, hc⟩ := hrow r e; exact .inr ⟨cur, _, hc⟩))).trans (KeepsT.set _ _ _ _ hBh)⟩

set_option maxRecDepth 100000 in
set_option maxHeartbeats 1000000 in
theorem edges0_any {w : World} (b : Addr) (n : Int) (hn : n ≤ 0) :
    Calls Try.prog 19 #[.pointer (some b), .int .i64 n] w (EdgesPost [] w) := by
  refine (callsIn_wide (n := 3)).1 ?_
  refine callsIn_of_wp_marks Try.func19 rfl trivial ?_ rfl
  simp only [Try.ntmps19, List.size_toArray, List.length_cons, List.length_nil, Nat.reduceAdd, Nat.reduceSub, Array.replicate_succ, Array.replicate_zero, List.push_toArray, List.append_toArray, List.nil_append, List.cons_append]
  gi_wp2
  exact ⟨.slice (some ⟨w.heap.size + 1 + 1, 0, none⟩) 0 0, by simp [results, Try.f19, go_sem], _, rfl, .inl ⟨rfl, rfl, _, rfl⟩, ((((Below.refl _ w).alloc (Nat.le_refl _) _).alloc (by simp) _).alloc (by simp; omega) _).alloc (by simp; omega) _⟩

set_option maxRecDepth 100000 in
set_option maxHeartbeats 2000000 in
theorem edges_any {w : World} {g nb : Nat} {ws : List Int} {F : Nat → Nat → Int} (n : Nat) (h : IsG w g nb ws F) (hn1 : 1 ≤ n) (hn2 : n ≤ 100000) :
    Calls Try.prog 19 #[.pointer (some ⟨g, 0, none⟩), .int .i64 (n : Int)] w (EdgesPost ((edgesD ws.length F).take n) w) := by
  obtain ⟨i0, hi, hz0, hz1, hz2⟩ := info_parts Try.infoEdge
  have HI := Lib.hid hi
  have HZ0 := Lib.hid hz0
  have HZ1 := Lib.hid hz1
  have HZ2 := Lib.hid hz2
  clear hi hz0 hz1 hz2
  have b0 : Below w.heap.size w ((((w.alloc (.cells #[.int .i64 (n : Int)] 3)).alloc (.cells #[.slice none 0 0] 38)).alloc (.cells #[] 41)).alloc (.cells #[.slice (some ⟨w.heap.size + 1 + 1, 0, none⟩) 0 0] 38)) := ((((Below.refl _ w).alloc (Nat.le_refl _) _).alloc (by simp) _).alloc (by simp; omega) _).alloc (by simp; omega) _
  have HALL := Lib.hid (medges_any h b0)
  clear h
  generalize ws.length = N at *
  refine (callsIn_wide (n := 3)).1 ?_
  refine callsIn_of_wp_marks Try.func19 rfl trivial ?_ rfl
  simp only [Try.ntmps19, List.size_toArray, List.length_cons, List.length_nil, Nat.reduceAdd, Nat.reduceSub, Array.replicate_succ, Array.replicate_zero, List.push_toArray, List.append_toArray, List.nil_append, List.cons_append]
  gi_wp2_with (refine ⟨trivial, ?_⟩; gi_at_call 31; refine (callsIn_wide.2 HALL.out).mono ?_; rintro e w1 ⟨sv, rfl, hsq, hB1⟩)
  have hsz := hB1.size
  have bM := boxed_alloc4 w (.int .i64 (n : Int)) 3 (.cells #[.slice none 0 0] 38) (.cells #[] 41) (.cells #[.slice (some ⟨w.heap.size + 1 + 1, 0, none⟩) 0 0] 38) (by simpa using hB1)
  have bR := boxed_alloc3 (w.alloc (.cells #[.int .i64 (n : Int)] 3)) (.slice none 0 0) 38 (.cells #[] 41) (.cells #[.slice (some ⟨w.heap.size + 1 + 1, 0, none⟩) 0 0] 38) (w1 := w1) (by simpa using hB1)
  have bO := boxed_alloc1 (((w.alloc (.cells #[.int .i64 (n : Int)] 3)).alloc (.cells #[.slice none 0 0] 38)).alloc (.cells #[] 41)) (.slice (some ⟨w.heap.size + 1 + 1, 0, none⟩) 0 0) 38 (w1 := w1) (by simpa using hB1)
  simp only [World.size_alloc] at hsz hB1 bR bO hsq
  have hB0 : Below w.heap.size w w1 := b0.trans (hB1.mono (by omega))
  have hC0 : Bag w1.heap.size (w.heap.size + 1 + 1 + 1) 38 41 3 [(w.heap.size, 3, .int .i64 (n : Int)), (w.heap.size + 1, 38, .slice none 0 0)] w.heap.size w 0 [] w1 (.slice (some ⟨w.heap.size + 1 + 1, 0, none⟩) 0 0) :=
    ⟨bO, .inl ⟨rfl, rfl, _, rfl⟩, fun x hx => by simp at hx; rcases hx with rfl | rfl; exact bM; exact bR, hB0, Nat.le_refl _⟩
  obtain ⟨lb, rfl, hst⟩ := hsq.stops 2 41 (by decide) (by decide)
  generalize edgesD N F = D at *
  refine wpIn_rangeFunc_seqN rfl (by omega) (gf := 41) (lb := lb) rfl trivial (enters_of Try.func41 (by kernel_rfl) rfl)
    hst (by omega) (Nat.le_refl _) (Below.refl _ _) (fun _ => rfl)
    (fun pre W => pre.length < n ∧ BagI w1.heap.size (w.heap.size + 1 + 1 + 1) 38 41 3 [(w.heap.size, 3, .int .i64 (n : Int)), (w.heap.size + 1, 38, .slice none 0 0)] w.heap.size w pre.length (its pre) W)
    (fun c pre W => c = .ret ∧ pre.length = n ∧ ∃ v, Boxed W (w.heap.size + 1) 38 v ∧ Gath W w1.heap.size 41 3 v pre.length (its pre) ∧ Below w.heap.size w W)
    (fun s A B row hs hg hr => ⟨hs.1, hs.2.elim fun v hC => ⟨v, hC.turned (by omega) hg hr⟩⟩)
    (fun c s A B row hs hg hr => by
      obtain ⟨hc, e1, v, e3, e4, e5⟩ := hs
      exact ⟨hc, e1, v, boxed_kept e3 hg (fun r e => (hr r e).2), gath_kept e4 hg (fun r e => (hr r e).2), e5.grown hg e5.size (fun r e => by have := (hr r e).1; omega)⟩)
    ⟨by show 0 < n; omega, _, hC0⟩
    (fun x a' A => ∃ Bx, w1.heap.size ≤ Bx ∧ A.heap[Bx]? = some (.cells #[.int .i64 x.1, .int .i64 x.2.1, .int .i64 x.2.2] 41 (0, 0)) ∧ a' = { tmps := #[.pointer (some ⟨g, 0, none⟩), .int .i64 (n : Int), undef, .pointer (some ⟨w.heap.size, 0, none⟩), .pointer (some ⟨w.heap.size + 1, 0, none⟩), .pointer (some ⟨w.heap.size + 1 + 1 + 1, 0, none⟩), .pointer (some ⟨Bx, 0, none⟩), .slice (some ⟨w.heap.size + 1 + 1, 0, none⟩) 0 0, .int .i64 (n : Int), .bool false, undef, .pointer (some ⟨g, 0, none⟩), .func (.func 41) #[] lb, .agg #[.int .i64 x.1, .int .i64 x.2.1, .int .i64 x.2.2], undef, undef, undef, undef, undef, undef, undef, undef, undef, undef], defers := [] })
    (fun x a' A l o o' hs hl ho hc => by
      obtain ⟨Bx, e1, e2, e3⟩ := hs
      exact ⟨Bx, e1, (World.putObj_heap_other (by intro e; subst e; rw [e2] at ho; cases ho; cases hc)).trans e2, e3⟩) ?assign ?body ?done ?stop
  case assign =>
    rintro l pre x W K ⟨hpm, v, hC⟩ hK
    unfold encE
    gi_wp2
    exact hK _ _ ((KeepsOthers.alloc _ _).from _) ⟨(Below.refl _ W).alloc hC.below.size _, Mid.alloc _ _ _ _ hC.size, KeepsT.alloc _ _ _ _⟩ ⟨hpm, v, hC.turned (by omega) (World.grownBy_alloc W _ none) (fun r e => by cases e)⟩ ⟨W.heap.size, hC.size, World.alloc_heap_new W _, rfl⟩
  case body =>
    rintro l pre x a' W ⟨hpm, v, hC⟩ ⟨Bx, hBx, hXb, rfl⟩ hlt
    obtain ⟨a6, cap6, rfl⟩ := hC.row.slice
    have c1 := hC.box.cell
    have c2 := (hC.oth _ (List.mem_cons_self ..)).cell
    have c3 := (hC.oth _ (List.mem_cons_of_mem _ (List.mem_cons_self ..))).cell
    have f3 := (hC.oth _ (List.mem_cons_of_mem _ (List.mem_cons_self ..))).frozen
    simp only at c2 c3 f3
    have x0 : W.cell? ⟨Bx, 0, none⟩ = some (.int .i64 x.1) := heap_cell hXb rfl
    have x1 : W.cell? ⟨Bx, 1, none⟩ = some (.int .i64 x.2.1) := heap_cell hXb rfl
    have x2 : W.cell? ⟨Bx, 2, none⟩ = some (.int .i64 x.2.2) := heap_cell hXb rfl
    have HC := Lib.hid hC
    have hszW := hC.size
    clear hC hC0 bO bM bR hB0 hst hsq hXb
    by_cases hme : pre.length + 1 = n
    · have hmb : ((pre.length : Int) + 1 == (n : Int)) = true := by simp; omega
      have HM := Lib.hid hme
      clear hme
      gi_wp2_with (gi_at_builtin; refine wpListIn_append_gathT _ rfl _ _ 38 rfl w1.heap.size 41 i0 (.agg #[.int .i64 0, .int .i64 0, .int .i64 0]) 3 24 Try.underlying38 HI.out HZ0.out HZ1.out HZ2.out rfl (by decide) _ _ _ rfl (HC.out.row.alloc _) ⟨W.heap.size, 0, none⟩ 1 1 (its [x]) rfl rfl (cell_two _ _ _) (its_one _) (by decide) (by unfold maxLen; omega) (by omega) (by simp; omega) ?_; intro v' w3 row hown hgrow hrow; obtain ⟨g', cap', rfl⟩ := ownsRow_succ hown; obtain ⟨hb1, hC1, hk1, hm1⟩ := HC.out.appended (by omega) (by omega) (fun x hx => by simp at hx; rcases hx with rfl | rfl <;> exact ⟨by dsimp only; omega, by dsimp only; omega⟩) hown hgrow (cells_true hrow); obtain ⟨hd1, hd2⟩ := Bag.keepsT (Bo := w.heap.size + 1 + 1 + 1) (lo := w.heap.size + 1 + 1 + 1 + 1) (up := w1.heap.size) (v' := .slice (some ⟨g', 0, none⟩) (pre.length + 1) cap') hszW (by omega) (Nat.le_refl _) (by omega) hgrow hrow; have hc1 := hb1.cell; have hf1 := hb1.frozen; clear c1 c2 c3 f3; have c1 := hC1.box.cell; have c2 := (hC1.oth _ (List.mem_cons_self ..)).cell; have c3 := (hC1.oth _ (List.mem_cons_of_mem _ (List.mem_cons_self ..))).cell; have f3 := (hC1.oth _ (List.mem_cons_of_mem _ (List.mem_cons_self ..))).frozen; simp only at c2 c3 f3)
      have bR2 := (hC1.oth _ (List.mem_cons_of_mem _ (List.mem_cons_self ..)))
      simp only at bR2
      refine ⟨(hk1.trans (KeepsOthers.setCell _ _ _)).from _, ⟨hm1.setCell (p := ⟨w.heap.size + 1, 0, none⟩) (by show w.heap.size ≤ w.heap.size + 1; omega) _, hd1.trans (Mid.set _ _ _ _ (.inl (by omega))), hd2.trans (KeepsT.set _ _ _ _ (by omega))⟩, rfl, by rw [List.length_append]; exact HM.out, .slice (some ⟨g', 0, none⟩) (pre.length + 1) cap', bR2.set _, ?_, hC1.below.setCell (p := ⟨w.heap.size + 1, 0, none⟩) (by show w.heap.size ≤ w.heap.size + 1; omega) _⟩
      rw [List.length_append, its_snoc]
      exact gath_set hC1.row (by omega) _
    · have hmb : ((pre.length : Int) + 1 == (n : Int)) = false := by simp; omega
      have hpl : pre.length + 1 < n := by omega
      clear hme
      gi_wp2_with (gi_at_builtin; refine wpListIn_append_gathT _ rfl _ _ 38 rfl w1.heap.size 41 i0 (.agg #[.int .i64 0, .int .i64 0, .int .i64 0]) 3 24 Try.underlying38 HI.out HZ0.out HZ1.out HZ2.out rfl (by decide) _ _ _ rfl (HC.out.row.alloc _) ⟨W.heap.size, 0, none⟩ 1 1 (its [x]) rfl rfl (cell_two _ _ _) (its_one _) (by decide) (by unfold maxLen; omega) (by omega) (by simp; omega) ?_; intro v' w3 row hown hgrow hrow; obtain ⟨g', cap', rfl⟩ := ownsRow_succ hown; obtain ⟨hb1, hC1, hk1, hm1⟩ := HC.out.appended (by omega) (by omega) (fun x hx => by simp at hx; rcases hx with rfl | rfl <;> exact ⟨by dsimp only; omega, by dsimp only; omega⟩) hown hgrow (cells_true hrow); obtain ⟨hd1, hd2⟩ := Bag.keepsT (Bo := w.heap.size + 1 + 1 + 1) (lo := w.heap.size + 1 + 1 + 1 + 1) (up := w1.heap.size) (v' := .slice (some ⟨g', 0, none⟩) (pre.length + 1) cap') hszW (by omega) (Nat.le_refl _) (by omega) hgrow hrow; have hc1 := hb1.cell; have hf1 := hb1.frozen; clear c1 c2 c3 f3; have c1 := hC1.box.cell; have c2 := (hC1.oth _ (List.mem_cons_self ..)).cell; have c3 := (hC1.oth _ (List.mem_cons_of_mem _ (List.mem_cons_self ..))).cell; have f3 := (hC1.oth _ (List.mem_cons_of_mem _ (List.mem_cons_self ..))).frozen; simp only at c2 c3 f3)
      refine ⟨hk1.from _, ⟨hm1, hd1, hd2⟩, by rw [List.length_append]; exact hpl, .slice (some ⟨g', 0, none⟩) (pre.length + 1) cap', ?_⟩
      rw [List.length_append, its_snoc]
      exact hC1
  case done =>
    rintro E ys W hD rfl ⟨hpm, v, hC⟩ hK
    obtain ⟨a6, cap6, rfl⟩ := hC.row.slice
    have c1 := hC.box.cell
    have c3 := (hC.oth _ (List.mem_cons_of_mem _ (List.mem_cons_self ..))).cell
    have f3 := (hC.oth _ (List.mem_cons_of_mem _ (List.mem_cons_self ..))).frozen
    simp only at c3 f3
    have bR2 := hC.oth _ (List.mem_cons_of_mem _ (List.mem_cons_self ..))
    simp only at bR2
    have HC := Lib.hid hC
    have HR2 := Lib.hid bR2
    clear hC hC0 bO bM bR hB0 hst hsq bR2
    gi_wp2
    have hK' := (KeepsOthers.setCell W ⟨w.heap.size + 1, 0, none⟩ (.slice a6 ys.length cap6)).same E _ hK rfl
    refine ⟨by simp, .inl ⟨_, _, rfl, run_takeDeferred hK', ?_⟩⟩
    have hc5 := cell_kept (HR2.out.set (.slice a6 ys.length cap6)).cell (grownBy_putObj' _ E (.deferred none)) (fun r e => by cases e; exact ⟨_, hK', rfl⟩)
    refine ⟨.slice a6 ys.length cap6, ?_, _, rfl, ?_, ?_⟩
    · simp [results, Try.f19, go_sem, hc5]
    · rw [List.take_of_length_le (by omega)]
      exact gath_putObj (gath_base (gath_set HC.out.row (by omega) _) (by omega)) _ hK' rfl
    · exact (HC.out.below.setCell (p := ⟨w.heap.size + 1, 0, none⟩) (by show w.heap.size ≤ w.heap.size + 1; omega) _).trans (belowK_b (w := w) (Nat.le_refl _) _ E _ _ (by omega) hK' rfl rfl)
  case stop =>
    rintro E c pre W hD hpre ⟨rfl, hil, v, hbR, hg, hbel⟩ hK
    obtain ⟨a6, cap6, rfl⟩ := hg.slice
    gi_wp2
    refine ⟨by simp, .inl ⟨_, _, rfl, run_takeDeferred hK, ?_⟩⟩
    have hc5 := cell_kept hbR.cell (grownBy_putObj' _ E (.deferred none)) (fun r e => by cases e; exact ⟨_, hK, rfl⟩)
    have htk : D.take n = pre := by
      obtain ⟨t, ht⟩ := hpre
      rw [← ht, ← hil, List.take_left]
    refine ⟨.slice a6 pre.length cap6, ?_, _, rfl, ?_, ?_⟩
    · simp [results, Try.f19, go_sem, hc5]
    · rw [htk]
      exact gath_putObj (gath_base hg (by omega)) _ hK rfl
    · exact hbel.trans (belowK_b (w := w) (Nat.le_refl _) _ E _ _ (by omega) hK rfl rfl)
end Go.Proofs.Ytgidfgafnihblaa
