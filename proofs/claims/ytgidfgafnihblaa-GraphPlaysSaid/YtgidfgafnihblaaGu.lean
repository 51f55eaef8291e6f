/- Rows of what is between two: as they lie; compared; gathered by a loop over an iterator. -/
import Derived.Test.YtgidfgafnihblaaGt
import Derived.Laws.StructEq
set_option linter.unusedVariables false
set_option linter.unusedSectionVars false
namespace Go.Proofs.Ytgidfgafnihblaa
open Go.RowKit Go.Shelf Rk

attribute [local go_sem] Oper.semAt_some

def its : List Edg → List Value
  | [] => []
  | x :: r => .int .i64 x.1 :: .int .i64 x.2.1 :: .int .i64 x.2.2 :: its r
theorem its_length : ∀ l : List Edg, (its l).length = l.length * 3
  | [] => rfl
  | x :: r => by simp only [its, List.length_cons, its_length r]; omega
theorem its_append : ∀ l m : List Edg, its (l ++ m) = its l ++ its m
  | [], m => rfl
  | x :: r, m => by simp only [its, List.cons_append, its_append r m]
theorem its_one (x : Edg) : ∀ u ∈ its [x], u.oneCell' = true := by
  intro u h
  simp [its] at h
  rcases h with rfl | rfl | rfl <;> rfl
theorem cell_two (w : World) (x : Edg) (e : TypeId) : ∀ j u, (its [x])[j]? = some u → (w.alloc (.cells #[.int .i64 x.1, .int .i64 x.2.1, .int .i64 x.2.2] e)).cell? ((⟨w.heap.size, 0, none⟩ : Addr).add j) = some u := by
  intro j u hj
  match j, hj with
  | 0, hj => simp [its] at hj; subst hj; simp [Addr.add, go_sem]
  | 1, hj => simp [its] at hj; subst hj; simp [Addr.add, go_sem]
  | 2, hj => simp [its] at hj; subst hj; simp [Addr.add, go_sem]
  | j + 3, hj => simp [its] at hj

/-- A slice of things below block B. -/
structure ItsAt (B : Nat) (w : World) (a : Option Addr) (b len : Nat) (l : List Edg) : Prop where
  addr : len = 0 ∨ a = some ⟨b, 0, none⟩
  length : l.length = len
  below : len = 0 ∨ b < B
  cell : ∀ i, i < len → w.cell? ⟨b, i * 3, none⟩ = some (.int .i64 (l.getD i default).1) ∧ w.cell? ⟨b, i * 3 + 1, none⟩ = some (.int .i64 (l.getD i default).2.1) ∧ w.cell? ⟨b, i * 3 + 2, none⟩ = some (.int .i64 (l.getD i default).2.2)
theorem ItsAt.kept {B B' : Nat} {w w' : World} {a : Option Addr} {b len : Nat} {l : List Edg} (h : ItsAt B w a b len l) (hb : Below B' w w') (hB : B ≤ B') : ItsAt B w' a b len l :=
  ⟨h.addr, h.length, h.below, fun i hi => by
    have h1 := h.below.resolve_left (by omega)
    have h2 := h.cell i hi
    exact ⟨(hb.cell (p := ⟨b, i * 3, none⟩) (by show b < B'; omega)).trans h2.1, (hb.cell (p := ⟨b, i * 3 + 1, none⟩) (by show b < B'; omega)).trans h2.2.1, (hb.cell (p := ⟨b, i * 3 + 2, none⟩) (by show b < B'; omega)).trans h2.2.2⟩⟩
theorem ItsAt.mono {B B' : Nat} {w : World} {a : Option Addr} {b len : Nat} {l : List Edg} (h : ItsAt B w a b len l) (hB : B ≤ B') : ItsAt B' w a b len l :=
  ⟨h.addr, h.length, h.below.imp id (fun g => Nat.lt_of_lt_of_le g hB), h.cell⟩
theorem ItsAt.turned {R : Nat → Prop} {B : Nat} {w w' : World} {a : Option Addr} {b len : Nat} {l : List Edg} (h : ItsAt B w a b len l) (ht : Turned R w w') (hB : B ≤ w.heap.size) (hn : len = 0 ∨ ¬ R b) : ItsAt B w' a b len l :=
  ⟨h.addr, h.length, h.below, fun i hi => by
    have h1 := h.below.resolve_left (by omega)
    have h2 := h.cell i hi
    have e := ht.block b (by omega) (hn.resolve_left (by omega))
    exact ⟨(World.cell?_of_block (w := w) (a := ⟨b, i * 3, none⟩) e).trans h2.1, (World.cell?_of_block (w := w) (a := ⟨b, i * 3 + 1, none⟩) e).trans h2.2.1, (World.cell?_of_block (w := w) (a := ⟨b, i * 3 + 2, none⟩) e).trans h2.2.2⟩⟩
theorem its_at : ∀ (l : List Edg) (i : Nat), i < l.length → (its l)[i * 3]? = some (.int .i64 (l.getD i default).1) ∧ (its l)[i * 3 + 1]? = some (.int .i64 (l.getD i default).2.1) ∧ (its l)[i * 3 + 2]? = some (.int .i64 (l.getD i default).2.2)
  | [], i, h => by simp at h
  | x :: r, 0, h => ⟨rfl, rfl, rfl⟩
  | x :: r, i + 1, h => by
    have ih := its_at r i (by simpa using h)
    rw [show (i + 1) * 3 = i * 3 + 1 + 1 + 1 by omega]
    simp only [its, List.getElem?_cons_succ, List.getD_cons_succ]
    exact ih
/-- What has been gathered is a slice of things. -/
theorem Gath.itsAt {w : World} {base : Nat} {v : Value} {n : Nat} {l : List Edg} (h : Gath w base 41 3 v n (its l)) (hn : l.length = n) :
    ∃ a cap b, v = .slice a n cap ∧ n ≤ cap ∧ (n = 0 ∨ (base ≤ b ∧ ∃ cur, w.heap[b]? = some (.cells cur 41 (0, 0)))) ∧ ItsAt w.heap.size w a b n l := by
  rcases h with ⟨rfl, _, ao, rfl⟩ | h
  · exact ⟨ao, 0, 0, rfl, Nat.le_refl _, .inl rfl, .inl rfl, hn, .inl rfl, fun i hi => absurd hi (Nat.not_lt_zero _)⟩
  · rcases h.2 with ⟨rfl, rfl⟩ | ⟨g, cap, cur, rfl, hb, hg, hnc, hcm, hcs, htake⟩
    · exact ⟨none, 0, 0, rfl, Nat.le_refl _, .inl rfl, .inl rfl, hn, .inl rfl, fun i hi => absurd hi (Nat.not_lt_zero _)⟩
    · refine ⟨_, cap, g, rfl, hnc, .inr ⟨hb, cur, hg⟩, .inr rfl, hn, .inr (heap_lt hg), fun i hi => ?_⟩
      obtain ⟨e1, e2, e3⟩ := its_at l i (by omega)
      have key : ∀ j u, (its l)[j]? = some u → w.cell? ⟨g, j, none⟩ = some u := by
        intro j u hu
        have := h.cells (g := g) rfl j u hu
        rwa [addr_add, Nat.zero_add] at this
      exact ⟨key _ _ e1, key _ _ e2, key _ _ e3⟩

theorem owns_grown {A B : World} {base : Nat} {e : TypeId} {size : Nat} {v : Value} {n : Nat} {xs : List Value} {row : Option Nat} (h : A.ownsRow base e size v n xs) (hg : A.grownBy B row) (hr : ∀ r, row = some r → ∃ o : Obj, A.heap[r]? = some o ∧ o.isCells = false) : B.ownsRow base e size v n xs := by
  refine h.kept hg ?_
  rcases h.2 with ⟨rfl, _⟩ | ⟨g, cap, cur, rfl, _, hgb, _⟩
  · exact .inl rfl
  · refine .inr fun e' => ?_
    obtain ⟨o, ho, hc⟩ := hr g (by simpa [Value.ownBlock] using e'.symm)
    rw [hgb] at ho; cases ho; cases hc
theorem owns_block {w : World} {base : Nat} {e : TypeId} {size : Nat} {v : Value} {n : Nat} {xs : List Value} (h : w.ownsRow base e size v n xs) {g : Nat} (hg : v.ownBlock = some g) : base ≤ g ∧ ∃ cur, w.heap[g]? = some (.cells cur e (0, 0)) := by
  rcases h.2 with ⟨rfl, _⟩ | ⟨g', cap, cur, rfl, hb, hgb, _⟩
  · simp [Value.ownBlock] at hg
  · obtain rfl : g' = g := by simpa [Value.ownBlock] using hg
    exact ⟨hb, cur, hgb⟩
theorem below_of_drewN (W : World) (n : Nat) : Below W.heap.size W (W.drewN n) := ⟨rfl, rfl, rfl, Nat.le_refl _, fun _ _ => rfl⟩
theorem Try.structEdge : Try.prog.underlying 41 = some (.struct (Try.prog.fieldsOf 41)) := by kernel_rfl
theorem Try.stoodEdge : Try.prog.stoodInHeld 41 = false := by kernel_rfl
theorem Try.guardEdge : Try.prog.eqGuardType Try.prog.depth 41 = false := by kernel_rfl
theorem neq_edge (x y : Edg) (V : World) : (binOp BinOp.neq 41 (.agg #[.int .i64 x.1, .int .i64 x.2.1, .int .i64 x.2.2]) (.agg #[.int .i64 y.1, .int .i64 y.2.1, .int .i64 y.2.2])).run Try.prog V = .ok (.bool (!decide (x = y))) V := by
  obtain ⟨a, s, p⟩ := x
  obtain ⟨b, t, q⟩ := y
  simp [go_sem, run_equalIn_agg _ _ _ _ _ Try.structEdge Try.stoodEdge]
  split <;> (try split) <;> (try split) <;> simp_all
set_option maxHeartbeats 1000000 in
theorem same_any {B : Nat} {w : World} {a a' : Option Addr} {b len cap b' len' cap' : Nat} {l l' : List Edg} (h : ItsAt B w a b len l) (h' : ItsAt B w a' b' len' l') (hs : len ≤ 100000) (hs' : len' ≤ 100000) (hBs : B ≤ w.heap.size) :
    Calls Try.prog 14 #[.slice a len cap, .slice a' len' cap'] w fun e w' => e = .returned (.bool (decide (l = l'))) ∧ Below w.heap.size w w' := by
  have hrl := h.length
  have hrl' := h'.length
  by_cases hll : len = len'
  · subst hll
    go_enter Try.func14, Try.ntmps14
    go_wp2
    go_loopw [13] (fun i wr => ∃ k : Nat, k ≤ len ∧ i = .int .i64 k ∧ Hid (l.take k = l'.take k) ∧ Hid (Below w.heap.size w wr)) (fun i _ => len - (intOf i).toNat)
    case atStart => exact ⟨0, Nat.zero_le _, rfl, Lib.hid rfl, Lib.hid (Below.refl _ _)⟩
    case round =>
      obtain ⟨k, hk, rfl, hE, hB⟩ := hrel
      by_cases hlt : k < len
      · have ha : a = some ⟨b, 0, none⟩ := h.addr.resolve_left (by omega)
        have ha' : a' = some ⟨b', 0, none⟩ := h'.addr.resolve_left (by omega)
        subst ha ha'
        obtain ⟨c0, c1, c2⟩ := (h.kept hB.out hBs).cell k hlt
        obtain ⟨d0, d1, d2⟩ := (h'.kept hB.out hBs).cell k hlt
        have hil : (k : Int) < (len : Int) := by omega
        have hx1 : l[k]'(by omega) = l.getD k default := by simp [List.getD, show k < l.length by omega]
        have hy1 : l'[k]'(by omega) = l'.getD k default := by simp [List.getD, show k < l'.length by omega]
        generalize l.getD k default = x at *
        generalize l'.getD k default = y at *
        have hg := Try.guardEdge
        by_cases hxy : x = y
        · have hneq : ∀ V : World, (binOp BinOp.neq 41 (.agg #[.int .i64 x.1, .int .i64 x.2.1, .int .i64 x.2.2]) (.agg #[.int .i64 y.1, .int .i64 y.2.1, .int .i64 y.2.2])).run Try.prog V = .ok (.bool false) V := fun V => by rw [neq_edge, decide_eq_true hxy]; rfl
          have HXY := Lib.hid hxy
          clear hxy
          go_wp2
          go_quiet (fail)
          go_wp2
          go_roundw
          case rel => exact ⟨k + 1, by omega, by go_num, Lib.hid (by rw [List.take_succ_eq_append_getElem (by omega), List.take_succ_eq_append_getElem (by omega), hE.out]; rw [hx1, hy1, HXY.out]), Lib.hid (hB.out.trans ((below_of_drewN _ _).mono hB.out.size))⟩
          case measure => simp [intOf]; omega
        · have hneq : ∀ V : World, (binOp BinOp.neq 41 (.agg #[.int .i64 x.1, .int .i64 x.2.1, .int .i64 x.2.2]) (.agg #[.int .i64 y.1, .int .i64 y.2.1, .int .i64 y.2.2])).run Try.prog V = .ok (.bool true) V := fun V => by rw [neq_edge, decide_eq_false hxy]; rfl
          have HXY := Lib.hid hxy
          clear hxy
          go_wp2
          go_quiet (fail)
          go_wp2
          go_ret
          refine ⟨?_, hB.out.trans ((below_of_drewN _ _).mono hB.out.size)⟩
          have : l ≠ l' := fun e => HXY.out (by rw [← hx1, ← hy1]; simp [e])
          simp [this]
      · obtain rfl : k = len := by omega
        rw [List.take_of_length_le (by omega), List.take_of_length_le (by omega)] at hE
        go_wp2
        go_ret
        exact ⟨by simp [hE.out], hB.out⟩
  · have hneb : ((len : Int) != (len' : Int)) = true := by simp; omega
    have HN : Hid (l ≠ l') := Lib.hid (fun e => hll (by rw [← hrl, ← hrl', e]))
    clear hll
    go_enter Try.func14, Try.ntmps14
    go_wp2
    go_ret
    exact ⟨by simp [HN.out], Below.refl _ _⟩

theorem Try.infoEdge : (Try.prog.info? 41).map (fun i => (i.zero, i.size, i.bytes)) = some (some (.agg #[.int .i64 0, .int .i64 0, .int .i64 0]), 3, 24) := by kernel_rfl
/-- A box whose slice a loop's body gathers; other boxes that stay. -/
structure Bag (hi Bo : Nat) (tS tE : TypeId) (sz : Nat) (bs : List (Nat × TypeId × Value)) (n₀ : Nat) (w0 : World) (k : Nat) (xs : List Value) (W : World) (v : Value) : Prop where
  box : Boxed W Bo tS v
  row : Gath W hi tE sz v k xs
  oth : ∀ x ∈ bs, Boxed W x.1 x.2.1 x.2.2
  below : Below n₀ w0 W
  size : hi ≤ W.heap.size
def BagI (hi Bo : Nat) (tS tE : TypeId) (sz : Nat) (bs : List (Nat × TypeId × Value)) (n₀ : Nat) (w0 : World) (k : Nat) (xs : List Value) (W : World) : Prop := ∃ v, Bag hi Bo tS tE sz bs n₀ w0 k xs W v
theorem Bag.turned {hi Bo : Nat} {tS tE : TypeId} {sz : Nat} {bs : List (Nat × TypeId × Value)} {n₀ : Nat} {w0 W W' : World} {k : Nat} {xs : List Value} {v : Value} {row : Option Nat} (h : Bag hi Bo tS tE sz bs n₀ w0 k xs W v) (hn : n₀ ≤ hi)
    (hg : W.grownBy W' row) (hr : ∀ r, row = some r → hi ≤ r ∧ ∃ o : Obj, W.heap[r]? = some o ∧ o.isCells = false) : Bag hi Bo tS tE sz bs n₀ w0 k xs W' v :=
  ⟨boxed_kept h.box hg (fun r e => (hr r e).2), gath_kept h.row hg (fun r e => (hr r e).2), fun x hx => boxed_kept (h.oth x hx) hg (fun r e => (hr r e).2),
    h.below.grown hg (by have := h.size; omega) (fun r e => by have := (hr r e).1; omega), Nat.le_trans h.size hg.size⟩
theorem Bag.appended {hi Bo : Nat} {tS tE : TypeId} {sz : Nat} {bs : List (Nat × TypeId × Value)} {n₀ : Nat} {w0 W w1 : World} {k : Nat} {xs ys : List Value} {v v' : Value} {tmp : Obj} {row : Option Nat}
    (h : Bag hi Bo tS tE sz bs n₀ w0 k xs W v) (hBo : n₀ ≤ Bo) (hhi : Bo < hi) (hbs : ∀ x ∈ bs, x.1 ≠ Bo ∧ x.1 < hi)
    (hown : w1.ownsRow hi tE sz v' (k + 1) ys) (hgrow : (W.alloc tmp).grownBy w1 row) (hrow : ∀ g, row = some g → hi ≤ g ∧ ∃ o : Obj, (W.alloc tmp).heap[g]? = some o ∧ o.isCells = true) :
    Boxed w1 Bo tS v ∧ Bag hi Bo tS tE sz bs n₀ w0 (k + 1) ys (w1.setCell ⟨Bo, 0, none⟩ v') v' ∧ KeepsOthers W (w1.setCell ⟨Bo, 0, none⟩ v') ∧ Below n₀ W (w1.setCell ⟨Bo, 0, none⟩ v') := by
  have hs := h.size
  have hne : ∀ j, j < hi → some j ≠ row := fun j hj e => by have := (hrow j e.symm).1; omega
  have hb1 : Boxed w1 Bo tS v := (h.box.alloc tmp).kept hgrow (hne _ (by omega))
  have hset := grownBy_setCell' w1 Bo v'
  have hown2 : (w1.setCell ⟨Bo, 0, none⟩ v').ownsRow hi tE sz v' (k + 1) ys := by
    refine hown.kept hset ?_
    rcases hown.2 with ⟨rfl, _⟩ | ⟨g, cap, cur, rfl, hg, _⟩
    · exact .inl rfl
    · refine .inr fun e => ?_
      have : g = Bo := by simpa [Value.ownBlock] using e
      omega
  have hbw : Below n₀ W (w1.setCell ⟨Bo, 0, none⟩ v') := (((Below.refl n₀ W).alloc (by omega) tmp).grown hgrow (by simp; omega) (fun g e => by have := (hrow g e).1; omega)).setCell (p := ⟨Bo, 0, none⟩) hBo v'
  refine ⟨hb1, ⟨hb1.set v', .inr hown2, fun x hx => ?_, h.below.trans hbw, ?_⟩, ?_, hbw⟩
  · exact (((h.oth x hx).alloc tmp).kept hgrow (hne _ (hbs x hx).2)).kept hset (fun e => (hbs x hx).1 (by cases e; rfl))
  · have h1 := hgrow.size
    have h2 := hset.size
    simp at h1
    omega
  · refine ((KeepsOthers.alloc W tmp).trans (KeepsOthers.of_grownBy hgrow fun j o ej hj => ?_)).trans (KeepsOthers.setCell _ _ _)
    obtain ⟨_, o', ho', hc'⟩ := hrow j ej
    rw [hj] at ho'; cases ho'; exact hc'
/-- What a call hands back: a slice of its own. -/
def EdgesPost (L : List Edg) (w : World) (e : Ending) (w' : World) : Prop := ∃ v, e = .returned v ∧ Gath w' w.heap.size 41 3 v L.length (its L) ∧ Below w.heap.size w w'
theorem its_snoc (l : List Edg) (x : Edg) : its (l ++ [x]) = its l ++ its [x] := its_append l [x]

/-- As 'wpListIn_append_gath'; what is turned is a row of that type. -/
theorem wpListIn_append_gathT {F : Fence} {n : Nat} {P : Program} (w : World) {ops : Array Oper} {rest : List Oper} {o : Oper} {a : Act} {Q : Exit → Act → World → Prop}
    (hg : o.guard = none) (s x : Operand) (t : TypeId) (hop : o.op = Op.call { callee := Callee.builtin Builtin.append, args := #[s, x], argTypes := #[t, t] })
    (base : Nat) (e : TypeId) (i : TypeInfo) (z : Value) (size bytes : Nat) (h1 : P.underlying t = some (.slice e)) (h2 : P.info? e = some i) (h3 : i.zero = some z) (h4 : i.size = size) (h5 : i.bytes = bytes) (h6 : z.cells.size = size) (h7 : 0 < size)
    (v : Value) (k : Nat) (xs : List Value) (hs : a.eval s = v) (hown : Gath w base e size v k xs) (ad : Addr) (m c : Nat) (news : List Value) (hx : a.eval x = .slice (some ad) m c) (hn : news.length = m * size)
    (hc : ∀ j u, news[j]? = some u → w.cell? (ad.add j) = some u) (h1c : ∀ u ∈ news, u.oneCell' = true) (hm : 0 < m) (b1 : k + m ≤ maxLen) (b2 : (k + m) * bytes ≤ 140737488355328) (b3 : base ≤ w.heap.size)
    (hK : ∀ v' w' row, w'.ownsRow base e size v' (k + m) (xs ++ news) → w.grownBy w' row → (∀ g, row = some g → base ≤ g ∧ ∃ cur, w.heap[g]? = some (.cells cur e (0, 0))) → wpListIn F n P ops Q rest (a.put o.dst v') w') :
    wpListIn F n P ops Q (o :: rest) a w := by
  rcases hown with ⟨rfl, rfl, ao, rfl⟩ | hown
  · refine wpListIn_plain hg fun K hK' => ?_
    cases ao with
    | some b =>
      obtain ⟨v', w', hrun, r1, r2⟩ := run_append_arg_grows (P := P) w t o.type e i z size bytes h1 h2 h3 h4 h5 h6 h7 b 0 0 [] (by simp) (fun j u hj => by simp at hj) ad m c news hn hc (by omega) b1 b2
      unfold Oper.wpIn
      refine ⟨?_, ?_⟩
      · simp [Oper.about, hop, resolve, Target.leads, Sem.run_pure]
      · rw [Oper.semAt_plain F _ _ (by rw [hop]; intro c hc'; cases hc')]
        simp [execOp, hop, resolve, invoke, builtin, hs, hx, hrun, Result.andThen]
        exact hK' _ _ (hK v' w' none (ownsRow_base r1 b3) r2 (fun g hg => by cases hg))
    | none =>
      obtain ⟨v', w', hrun, r1, r2, r3⟩ := run_append_own (P := P) w base t o.type e i z size bytes h1 h2 h3 h4 h5 h6 h7 (.slice none 0 0) 0 [] (World.ownsRow_nil _ _ _ _) ad m c news hn hc h1c b1 b2 b3
      unfold Oper.wpIn
      refine ⟨?_, ?_⟩
      · simp [Oper.about, hop, resolve, Target.leads, Sem.run_pure]
      · rw [Oper.semAt_plain F _ _ (by rw [hop]; intro c hc'; cases hc')]
        simp [execOp, hop, resolve, invoke, builtin, hs, hx, hrun, Result.andThen]
        exact hK' _ _ (hK v' w' _ r1 r2 (fun g hg => by simp [Value.ownBlock] at hg))
  · refine wpListIn_append_own w hg s x t hop base e i z size bytes h1 h2 h3 h4 h5 h6 h7 v k xs hs hown ad m c news hx hn hc h1c b1 b2 b3 ?_
    intro v' w' r1 r2 r3
    refine hK v' w' _ r1 r2 (fun g hg => owns_block hown hg)
end Go.Proofs.Ytgidfgafnihblaa
