/- Rows of pairs: as they lie; compared; gathered by a loop over an iterator. -/
import Derived.Test.YtpoillgnkmpknaaTl
import Derived.Laws.StructEq
set_option linter.unusedVariables false
set_option linter.unusedSectionVars false
namespace Go.Proofs.Ytpoillgnkmpknaa
open Go.RowKit Go.Shelf Rk

attribute [local go_sem] Oper.semAt_some

def its : List (Int × Int) → List Value
  | [] => []
  | x :: r => .int .i64 x.1 :: .int .i64 x.2 :: its r
theorem its_length : ∀ l : List (Int × Int), (its l).length = l.length * 2
  | [] => rfl
  | x :: r => by simp only [its, List.length_cons, its_length r]; omega
theorem its_append : ∀ l m : List (Int × Int), its (l ++ m) = its l ++ its m
  | [], m => rfl
  | x :: r, m => by simp only [its, List.cons_append, its_append r m]
theorem its_one (x : Int × Int) : ∀ u ∈ its [x], u.oneCell' = true := by
  intro u h
  simp [its] at h
  rcases h with rfl | rfl <;> rfl
theorem cell_two (w : World) (x : Int × Int) (e : TypeId) : ∀ j u, (its [x])[j]? = some u → (w.alloc (.cells #[.int .i64 x.1, .int .i64 x.2] e)).cell? ((⟨w.heap.size, 0, none⟩ : Addr).add j) = some u := by
  intro j u hj
  match j, hj with
  | 0, hj => simp [its] at hj; subst hj; simp [Addr.add, go_sem]
  | 1, hj => simp [its] at hj; subst hj; simp [Addr.add, go_sem]
  | j + 2, hj => simp [its] at hj

/-- A slice of things below block B. -/
structure ItsAt (B : Nat) (w : World) (a : Option Addr) (b len : Nat) (l : List (Int × Int)) : Prop where
  addr : len = 0 ∨ a = some ⟨b, 0, none⟩
  length : l.length = len
  below : len = 0 ∨ b < B
  cell : ∀ i, i < len → w.cell? ⟨b, i * 2, none⟩ = some (.int .i64 (l.getD i default).1) ∧ w.cell? ⟨b, i * 2 + 1, none⟩ = some (.int .i64 (l.getD i default).2)
theorem ItsAt.kept {B B' : Nat} {w w' : World} {a : Option Addr} {b len : Nat} {l : List (Int × Int)} (h : ItsAt B w a b len l) (hb : Below B' w w') (hB : B ≤ B') : ItsAt B w' a b len l :=
  ⟨h.addr, h.length, h.below, fun i hi => by
    have h1 := h.below.resolve_left (by omega)
    have h2 := h.cell i hi
    exact ⟨(hb.cell (p := ⟨b, i * 2, none⟩) (by show b < B'; omega)).trans h2.1, (hb.cell (p := ⟨b, i * 2 + 1, none⟩) (by show b < B'; omega)).trans h2.2⟩⟩
theorem ItsAt.mono {B B' : Nat} {w : World} {a : Option Addr} {b len : Nat} {l : List (Int × Int)} (h : ItsAt B w a b len l) (hB : B ≤ B') : ItsAt B' w a b len l :=
  ⟨h.addr, h.length, h.below.imp id (fun g => Nat.lt_of_lt_of_le g hB), h.cell⟩
theorem ItsAt.turned {R : Nat → Prop} {B : Nat} {w w' : World} {a : Option Addr} {b len : Nat} {l : List (Int × Int)} (h : ItsAt B w a b len l) (ht : Turned R w w') (hB : B ≤ w.heap.size) (hn : len = 0 ∨ ¬ R b) : ItsAt B w' a b len l :=
  ⟨h.addr, h.length, h.below, fun i hi => by
    have h1 := h.below.resolve_left (by omega)
    have h2 := h.cell i hi
    have e := ht.block b (by omega) (hn.resolve_left (by omega))
    exact ⟨(World.cell?_of_block (w := w) (a := ⟨b, i * 2, none⟩) e).trans h2.1, (World.cell?_of_block (w := w) (a := ⟨b, i * 2 + 1, none⟩) e).trans h2.2⟩⟩
theorem its_at : ∀ (l : List (Int × Int)) (i : Nat), i < l.length → (its l)[i * 2]? = some (.int .i64 (l.getD i default).1) ∧ (its l)[i * 2 + 1]? = some (.int .i64 (l.getD i default).2)
  | [], i, h => by simp at h
  | x :: r, 0, h => ⟨rfl, rfl⟩
  | x :: r, i + 1, h => by
    have ih := its_at r i (by simpa using h)
    rw [show (i + 1) * 2 = i * 2 + 1 + 1 by omega]
    simp only [its, List.getElem?_cons_succ, List.getD_cons_succ]
    exact ih
/-- What has been gathered is a slice of things. -/
theorem Gath.itsAt {w : World} {base : Nat} {v : Value} {n : Nat} {l : List (Int × Int)} (h : Gath w base 65 2 v n (its l)) (hn : l.length = n) :
    ∃ a cap b, v = .slice a n cap ∧ n ≤ cap ∧ (n = 0 ∨ (base ≤ b ∧ ∃ cur, w.heap[b]? = some (.cells cur 65 (0, 0)))) ∧ ItsAt w.heap.size w a b n l := by
  rcases h with ⟨rfl, _, ao, rfl⟩ | h
  · exact ⟨ao, 0, 0, rfl, Nat.le_refl _, .inl rfl, .inl rfl, hn, .inl rfl, fun i hi => absurd hi (Nat.not_lt_zero _)⟩
  · rcases h.2 with ⟨rfl, rfl⟩ | ⟨g, cap, cur, rfl, hb, hg, hnc, hcm, hcs, htake⟩
    · exact ⟨none, 0, 0, rfl, Nat.le_refl _, .inl rfl, .inl rfl, hn, .inl rfl, fun i hi => absurd hi (Nat.not_lt_zero _)⟩
    · refine ⟨_, cap, g, rfl, hnc, .inr ⟨hb, cur, hg⟩, .inr rfl, hn, .inr (heap_lt hg), fun i hi => ?_⟩
      obtain ⟨e1, e2⟩ := its_at l i (by omega)
      have key : ∀ j u, (its l)[j]? = some u → w.cell? ⟨g, j, none⟩ = some u := by
        intro j u hu
        have := h.cells (g := g) rfl j u hu
        rwa [addr_add, Nat.zero_add] at this
      exact ⟨key _ _ e1, key _ _ e2⟩

theorem owns_grown {A B : World} {base : Nat} {e : TypeId} {size : Nat} {v : Value} {n : Nat} {xs : List Value} {row : Option Nat} (h : A.ownsRow base e size v n xs) (hg : A.grownBy B row) (hr : ∀ r, row = some r → ∃ o : Obj, A.heap[r]? = some o ∧ o.isCells = false) : B.ownsRow base e size v n xs := by
  refine h.kept hg ?_
  rcases h.2 with ⟨rfl, _⟩ | ⟨g, cap, cur, rfl, _, hgb, _⟩
  · exact .inl rfl
  · refine .inr fun e' => ?_
    obtain ⟨o, ho, hc⟩ := hr g (by simpa [Value.ownBlock] using e'.symm)
    rw [hgb] at ho; cases ho; cases hc
theorem owns_block {w : World} {base : Nat} {e : TypeId} {size : Nat} {v : Value} {n : Nat} {xs : List Value} (h : w.ownsRow base e size v n xs) {g : Nat} (hg : v.ownBlock = some g) : base ≤ g ∧ ∃ cur, w.heap[g]? = some (.cells cur e (0, 0)) := by
  rcases h.2 with ⟨rfl, _⟩ | ⟨g', cap, cur, rfl, hb, hgb, _⟩
  · simp [Value.ownBlock] at hg
  · obtain rfl : g' = g := by simpa [Value.ownBlock] using hg
    exact ⟨hb, cur, hgb⟩
theorem below_of_drewN (W : World) (n : Nat) : Below W.heap.size W (W.drewN n) := ⟨rfl, rfl, rfl, Nat.le_refl _, fun _ _ => rfl⟩
theorem Try.infoPair : (Try.prog.info? 65).map (fun i => (i.zero, i.size, i.bytes)) = some (some (.agg #[.int .i64 0, .int .i64 0]), 2, 16) := by kernel_rfl
/-- A box whose slice a loop's body gathers; other boxes that stay. -/
structure Bag (hi Bo : Nat) (tS tE : TypeId) (sz : Nat) (bs : List (Nat × TypeId × Value)) (n₀ : Nat) (w0 : World) (k : Nat) (xs : List Value) (W : World) (v : Value) : Prop where
  box : Boxed W Bo tS v
  row : Gath W hi tE sz v k xs
  oth : ∀ x ∈ bs, Boxed W x.1 x.2.1 x.2.2
  below : Below n₀ w0 W
  size : hi ≤ W.heap.size
def BagI (hi Bo : Nat) (tS tE : TypeId) (sz : Nat) (bs : List (Nat × TypeId × Value)) (n₀ : Nat) (w0 : World) (k : Nat) (xs : List Value) (W : World) : Prop := ∃ v, Bag hi Bo tS tE sz bs n₀ w0 k xs W v
theorem Bag.turned {hi Bo : Nat} {tS tE : TypeId} {sz : Nat} {bs : List (Nat × TypeId × Value)} {n₀ : Nat} {w0 W W' : World} {k : Nat} {xs : List Value} {v : Value} {row : Option Nat} (h : Bag hi Bo tS tE sz bs n₀ w0 k xs W v) (hn : n₀ ≤ hi)
    (hg : W.grownBy W' row) (hr : ∀ r, row = some r → hi ≤ r ∧ ∃ o : Obj, W.heap[r]? = some o ∧ o.isCells = false) : Bag hi Bo tS tE sz bs n₀ w0 k xs W' v :=
  ⟨boxed_kept h.box hg (fun r e => (hr r e).2), gath_kept h.row hg (fun r e => (hr r e).2), fun x hx => boxed_kept (h.oth x hx) hg (fun r e => (hr r e).2),
    h.below.grown hg (by have := h.size; omega) (fun r e => by have := (hr r e).1; omega), Nat.le_trans h.size hg.size⟩
theorem Bag.appended {hi Bo : Nat} {tS tE : TypeId} {sz : Nat} {bs : List (Nat × TypeId × Value)} {n₀ : Nat} {w0 W w1 : World} {k : Nat} {xs ys : List Value} {v v' : Value} {tmp : Obj} {row : Option Nat}
    (h : Bag hi Bo tS tE sz bs n₀ w0 k xs W v) (hBo : n₀ ≤ Bo) (hhi : Bo < hi) (hbs : ∀ x ∈ bs, x.1 ≠ Bo ∧ x.1 < hi)
    (hown : w1.ownsRow hi tE sz v' (k + 1) ys) (hgrow : (W.alloc tmp).grownBy w1 row) (hrow : ∀ g, row = some g → hi ≤ g ∧ ∃ o : Obj, (W.alloc tmp).heap[g]? = some o ∧ o.isCells = true) :
    Boxed w1 Bo tS v ∧ Bag hi Bo tS tE sz bs n₀ w0 (k + 1) ys (w1.setCell ⟨Bo, 0, none⟩ v') v' ∧ KeepsOthers W (w1.setCell ⟨Bo, 0, none⟩ v') ∧ Below n₀ W (w1.setCell ⟨Bo, 0, none⟩ v') := by
  have hs := h.size
  have hne : ∀ j, j < hi → some j ≠ row := fun j hj e => by have := (hrow j e.symm).1; omega
  have hb1 : Boxed w1 Bo tS v := (h.box.alloc tmp).kept hgrow (hne _ (by omega))
  have hset := grownBy_setCell' w1 Bo v'
  have hown2 : (w1.setCell ⟨Bo, 0, none⟩ v').ownsRow hi tE sz v' (k + 1) ys := by
    refine hown.kept hset ?_
    rcases hown.2 with ⟨rfl, _⟩ | ⟨g, cap, cur, rfl, hg, _⟩
    · exact .inl rfl
    · refine .inr fun e => ?_
      have : g = Bo := by simpa [Value.ownBlock] using e
      omega
  have hbw : Below n₀ W (w1.setCell ⟨Bo, 0, none⟩ v') := (((Below.refl n₀ W).alloc (by omega) tmp).grown hgrow (by simp; omega) (fun g e => by have := (hrow g e).1; omega)).setCell (p := ⟨Bo, 0, none⟩) hBo v'
  refine ⟨hb1, ⟨hb1.set v', .inr hown2, fun x hx => ?_, h.below.trans hbw, ?_⟩, ?_, hbw⟩
  · exact (((h.oth x hx).alloc tmp).kept hgrow (hne _ (hbs x hx).2)).kept hset (fun e => (hbs x hx).1 (by cases e; rfl))
  · have h1 := hgrow.size
    have h2 := hset.size
    simp at h1
    omega
  · refine ((KeepsOthers.alloc W tmp).trans (KeepsOthers.of_grownBy hgrow fun j o ej hj => ?_)).trans (KeepsOthers.setCell _ _ _)
    obtain ⟨_, o', ho', hc'⟩ := hrow j ej
    rw [hj] at ho'; cases ho'; exact hc'
/-- What a call hands back: a slice of its own. -/
def PairsPost (L : List (Int × Int)) (w : World) (e : Ending) (w' : World) : Prop := ∃ v, e = .returned v ∧ Gath w' w.heap.size 65 2 v L.length (its L) ∧ Below w.heap.size w w'
theorem its_snoc (l : List (Int × Int)) (x : Int × Int) : its (l ++ [x]) = its l ++ its [x] := its_append l [x]

set_option maxRecDepth 100000 in
set_option maxHeartbeats 2000000 in
theorem all_any {w : World} {m o : Nat} {L : List (Int × Int)} (h : IsM w m o L) (hs : L.length ≤ 100000) :
    Calls Try.prog 13 #[.pointer (some ⟨m, o, none⟩)] w (PairsPost L w) := by
  obtain ⟨i0, hi, hz0, hz1, hz2⟩ := info_parts Try.infoPair
  have HI := Lib.hid hi
  have HZ0 := Lib.hid hz0
  have HZ1 := Lib.hid hz1
  have HZ2 := Lib.hid hz2
  clear hi hz0 hz1 hz2
  have b0 : Below w.heap.size w ((w.alloc (.cells #[] 65)).alloc (.cells #[.slice (some ⟨w.heap.size, 0, none⟩) 0 0] 44)) := ((Below.refl _ w).alloc (Nat.le_refl _) _).alloc (by simp) _
  have HALL := Lib.hid (mall_any h b0 (by omega))
  refine (callsIn_wide (n := 3)).1 ?_
  refine callsIn_of_wp_marks Try.func13 rfl trivial ?_ rfl
  simp only [Try.ntmps13, List.size_toArray, List.length_cons, List.length_nil, Nat.reduceAdd, Nat.reduceSub, Array.replicate_succ, Array.replicate_zero, List.push_toArray, List.append_toArray, List.nil_append, List.cons_append]
  gi_wp2_with (refine ⟨trivial, ?_⟩; gi_at_call 29; refine (callsIn_wide.2 HALL.out).mono ?_; rintro e w1 ⟨sv, rfl, hsq, hB1⟩)
  have hsz := hB1.size
  simp only [World.size_alloc] at hsz hsq hB1
  have hB0 : Below w.heap.size w w1 := b0.trans (hB1.mono (by omega))
  have bO : Boxed w1 (w.heap.size + 1) 44 (.slice (some ⟨w.heap.size, 0, none⟩) 0 0) := by
    have h2 : Boxed ((w.alloc (.cells #[] 65)).alloc (.cells #[.slice (some ⟨w.heap.size, 0, none⟩) 0 0] 44)) (w.heap.size + 1) 44 (.slice (some ⟨w.heap.size, 0, none⟩) 0 0) := by
      have := Boxed.new (w.alloc (.cells #[] 65)) 44 (.slice (some ⟨w.heap.size, 0, none⟩) 0 0)
      rwa [World.size_alloc] at this
    exact (hB1.block _ (by omega)).trans h2
  have hC0 : Bag w1.heap.size (w.heap.size + 1) 44 65 2 [] w.heap.size w 0 [] w1 (.slice (some ⟨w.heap.size, 0, none⟩) 0 0) := ⟨bO, .inl ⟨rfl, rfl, _, rfl⟩, fun x hx => by simp at hx, hB0, Nat.le_refl _⟩
  obtain ⟨lb, rfl, hst⟩ := hsq.stops 2
  refine wpIn_rangeFunc_ownG rfl (by omega) (gf := 51) (lb := lb) rfl trivial (enters_of Try.func51 (by kernel_rfl) rfl)
    hst belowK_t (belowK_b (by omega)) (Below.refl _ _) (fun _ => rfl)
    (fun pre W => BagI w1.heap.size (w.heap.size + 1) 44 65 2 [] w.heap.size w pre.length (its pre) W)
    (fun _ _ _ => False)
    (fun s A B row hs hg hr => hs.elim fun v hC => ⟨v, hC.turned (by omega) hg hr⟩)
    (fun _ _ _ _ _ hs _ _ => hs)
    ⟨_, hC0⟩
    (fun x => { tmps := #[.pointer (some ⟨m, o, none⟩), undef, .slice none 0 0, .pointer (some ⟨w.heap.size + 1, 0, none⟩), .int .i64 x.1, .int .i64 x.2, .slice (some ⟨w.heap.size, 0, none⟩) 0 0, .pointer (some ⟨m, o, none⟩), .func (.func 51) #[] lb, .int .i64 x.1, .int .i64 x.2, undef, undef, undef, undef, undef, undef, undef], defers := [] }) ?assign ?body ?done ?stop
  case assign =>
    intro l x W K hK
    unfold encP
    gi_wp2
    exact hK
  case body =>
    rintro l pre x W ⟨v, hC⟩ hlt
    obtain ⟨a6, cap6, rfl⟩ := hC.row.slice
    have c1 := hC.box.cell
    have HC := Lib.hid hC
    have hszW := hC.size
    clear hC hC0 bO hB0 hst hsq
    gi_wp2_with (gi_at_builtin; refine wpListIn_append_gath _ rfl _ _ 44 rfl w1.heap.size 65 i0 (.agg #[.int .i64 0, .int .i64 0]) 2 16 Try.underlying44 HI.out HZ0.out HZ1.out HZ2.out rfl (by decide) _ _ _ rfl (HC.out.row.alloc _) ⟨W.heap.size, 0, none⟩ 1 1 (its [x]) rfl rfl (cell_two _ _ _) (its_one _) (by decide) (by unfold maxLen; omega) (by omega) (by simp; omega) ?_; intro v' w3 row hown hgrow hrow; obtain ⟨g', cap', rfl⟩ := ownsRow_succ hown; obtain ⟨hb1, hC1, hk1, hm1⟩ := HC.out.appended (by omega) (by omega) (fun x hx => by simp at hx) hown hgrow hrow; have hc1 := hb1.cell; have hf1 := hb1.frozen)
    refine ⟨hk1.from _, hm1, .slice (some ⟨g', 0, none⟩) (pre.length + 1) cap', ?_⟩
    rw [List.length_append, its_snoc]
    exact hC1
  case done =>
    rintro D ys W hD rfl ⟨v, hC⟩ hK
    obtain ⟨a6, cap6, rfl⟩ := hC.row.slice
    have c1 := hC.box.cell
    have HC := Lib.hid hC
    clear hC hC0 bO hB0 hst hsq
    gi_wp2
    refine ⟨by simp, .inl ⟨_, _, rfl, run_takeDeferred hK, ?_⟩⟩
    exact ⟨_, results_tmp rfl _ _ _, _, rfl, gath_putObj (gath_base HC.out.row (by omega)) _ hK rfl, HC.out.below.trans (belowK_b (w := w) (Nat.le_refl _) W D _ _ (by omega) hK rfl rfl)⟩
  case stop =>
    rintro D c pre W _ _ h _
    exact h.elim
end Go.Proofs.Ytpoillgnkmpknaa
