/- General: what a loop over a function gathers by append into a boxed variable, while the function lays new blocks between two rounds. No program in this text. -/
import Derived.Test.YtnkhpmpoemodiaaSq
import Derived.Test.YtnkhpmpoemodiaaRt
set_option linter.unusedVariables false
set_option linter.unusedSectionVars false
namespace Go.Proofs.Ytnkhpmpoemodiaa
open Go.RowKit

/-- As 'wpListIn_append_gath'; what is turned is its own row. -/
theorem wpListIn_append_gathW {F : Fence} {n : Nat} {P : Program} (w : World) {ops : Array Oper} {rest : List Oper} {o : Oper} {a : Act} {Q : Exit → Act → World → Prop}
    (hg : o.guard = none) (s x : Operand) (t : TypeId) (hop : o.op = Op.call { callee := Callee.builtin Builtin.append, args := #[s, x], argTypes := #[t, t] })
    (base : Nat) (e : TypeId) (i : TypeInfo) (z : Value) (size bytes : Nat) (h1 : P.underlying t = some (.slice e)) (h2 : P.info? e = some i) (h3 : i.zero = some z) (h4 : i.size = size) (h5 : i.bytes = bytes) (h6 : z.cells.size = size) (h7 : 0 < size)
    (v : Value) (k : Nat) (xs : List Value) (hs : a.eval s = v) (hown : Gath w base e size v k xs) (ad : Addr) (m c : Nat) (news : List Value) (hx : a.eval x = .slice (some ad) m c) (hn : news.length = m * size)
    (hc : ∀ j u, news[j]? = some u → w.cell? (ad.add j) = some u) (h1c : ∀ u ∈ news, u.oneCell' = true) (hm : 0 < m) (b1 : k + m ≤ maxLen) (b2 : (k + m) * bytes ≤ 140737488355328) (b3 : base ≤ w.heap.size)
    (hK : ∀ v' w' row, w'.ownsRow base e size v' (k + m) (xs ++ news) → w.grownBy w' row → (∀ g, row = some g → v.ownBlock = some g ∧ base ≤ g ∧ ∃ o : Obj, w.heap[g]? = some o ∧ o.isCells = true) → wpListIn F n P ops Q rest (a.put o.dst v') w') :
    wpListIn F n P ops Q (o :: rest) a w := by
  rcases hown with ⟨rfl, rfl, ao, rfl⟩ | hown
  · refine wpListIn_plain hg fun K hK' => ?_
    cases ao with
    | some b =>
      obtain ⟨v', w', hrun, r1, r2⟩ := run_append_arg_grows (P := P) w t o.type e i z size bytes h1 h2 h3 h4 h5 h6 h7 b 0 0 [] (by simp) (fun j u hj => by simp at hj) ad m c news hn hc (by omega) b1 b2
      unfold Oper.wpIn
      refine ⟨?_, ?_⟩
      · simp [Oper.about, hop, resolve, Target.leads, Sem.run_pure]
      · rw [Oper.semAt_plain F _ _ (by rw [hop]; intro c hc'; cases hc')]
        simp [execOp, hop, resolve, invoke, builtin, hs, hx, hrun, Result.andThen]
        exact hK' _ _ (hK v' w' none (ownsRow_base r1 b3) r2 (fun g hg => by cases hg))
    | none =>
      obtain ⟨v', w', hrun, r1, r2, r3⟩ := run_append_own (P := P) w base t o.type e i z size bytes h1 h2 h3 h4 h5 h6 h7 (.slice none 0 0) 0 [] (World.ownsRow_nil _ _ _ _) ad m c news hn hc h1c b1 b2 b3
      unfold Oper.wpIn
      refine ⟨?_, ?_⟩
      · simp [Oper.about, hop, resolve, Target.leads, Sem.run_pure]
      · rw [Oper.semAt_plain F _ _ (by rw [hop]; intro c hc'; cases hc')]
        simp [execOp, hop, resolve, invoke, builtin, hs, hx, hrun, Result.andThen]
        exact hK' _ _ (hK v' w' _ r1 r2 (fun g hg => by simp [Value.ownBlock] at hg))
  · refine wpListIn_append_own w hg s x t hop base e i z size bytes h1 h2 h3 h4 h5 h6 h7 v k xs hs hown ad m c news hx hn hc h1c b1 b2 b3 ?_
    intro v' w' r1 r2 r3
    refine hK v' w' _ r1 r2 (fun g hg => ⟨hg, ?_⟩)
    rcases hown.2 with ⟨rfl, _⟩ | ⟨g', cap', cur, rfl, hb, hg', _⟩
    · simp [Value.ownBlock] at hg
    · simp [Value.ownBlock] at hg
      subst hg
      exact ⟨hb, _, hg', rfl⟩
theorem gath_setI {W : World} {base b : Nat} {e : TypeId} {size : Nat} {v : Value} {n : Nat} {xs : List Value} (h : Gath W base e size v n xs) (hb : b < base) (i : Nat) (u : Value) : Gath (W.setCell ⟨b, i, none⟩ u) base e size v n xs := by
  rcases h with h | hown
  · exact .inl h
  · refine .inr (hown.kept (grown_set W b i u) ?_)
    rcases hown.2 with ⟨rfl, _⟩ | ⟨g, cap, cur, rfl, hg, _⟩
    · exact .inl rfl
    · refine .inr fun e => ?_
      have : g = b := by simpa [Value.ownBlock] using e
      omega
/-- A box whose slice a loop's body gathers; other boxes that stay. -/
structure Bg (hi Bo : Nat) (tS tE : TypeId) (sz : Nat) (bs : List (Nat × TypeId × Array Value)) (n₀ : Nat) (w0 : World) (k : Nat) (xs : List Value) (W : World) (v : Value) : Prop where
  box : Boxed W Bo tS v
  row : Gath W hi tE sz v k xs
  oth : ∀ x ∈ bs, W.heap[x.1]? = some (.cells x.2.2 x.2.1 (0, 0))
  below : Below n₀ w0 W
  size : hi ≤ W.heap.size
  lt : ∀ g, v.ownBlock = some g → g < W.heap.size
section
variable {hi Bo : Nat} {tS tE : TypeId} {sz : Nat} {bs : List (Nat × TypeId × Array Value)} {n₀ : Nat} {w0 W W' w1 : World} {k : Nat} {xs ys : List Value} {v v' : Value} {row : Option Nat}
theorem Bg.turned (h : Bg hi Bo tS tE sz bs n₀ w0 k xs W v) (hn : n₀ ≤ hi)
    (hg : W.grownBy W' row) (hr : ∀ r, row = some r → hi ≤ r ∧ ∃ o : Obj, W.heap[r]? = some o ∧ o.isCells = false) : Bg hi Bo tS tE sz bs n₀ w0 k xs W' v :=
  ⟨boxed_kept h.box hg (fun r e => (hr r e).2), gath_kept h.row hg (fun r e => (hr r e).2), fun x hx => heap_kept (h.oth x hx) hg (fun e => by
      obtain ⟨_, o, ho, hc⟩ := hr _ e.symm
      rw [h.oth x hx] at ho; cases ho; cases hc),
    h.below.grown hg (by have := h.size; omega) (fun r e => by have := (hr r e).1; omega), Nat.le_trans h.size hg.size, fun g e => by have := h.lt g e; have := hg.size; omega⟩
theorem Bg.on (h : Bg hi Bo tS tE sz bs n₀ w0 k xs W v) (hn : n₀ ≤ hi) (hb : Below W.heap.size W W') : Bg hi Bo tS tE sz bs n₀ w0 k xs W' v :=
  h.turned (row := none) hn (grown_below hb none) (fun r e => by cases e)
theorem Bg.app {z u : Nat} {tmp : Obj} (h : Bg hi Bo tS tE sz bs n₀ w0 k xs W v) (hBo : n₀ ≤ Bo) (hhi : Bo < hi) (hn : n₀ ≤ hi) (hbs : ∀ x ∈ bs, x.1 ≠ Bo ∧ x.1 < hi) (hz : hi ≤ z) (hlt : ∀ g, v.ownBlock = some g → g < z) (hu : u ≤ W.heap.size)
    (hown : w1.ownsRow hi tE sz v' (k + 1) ys) (hv' : ∃ a c, v' = .slice (some ⟨a, 0, none⟩) (k + 1) c) (hgrow : (W.alloc tmp).grownBy w1 row) (hrow : ∀ g, row = some g → v.ownBlock = some g ∧ hi ≤ g ∧ ∃ o : Obj, (W.alloc tmp).heap[g]? = some o ∧ o.isCells = true) :
    Boxed w1 Bo tS v ∧ Bg hi Bo tS tE sz bs n₀ w0 (k + 1) ys (w1.setCell ⟨Bo, 0, none⟩ v') v' ∧ KeepsOthers W (w1.setCell ⟨Bo, 0, none⟩ v') ∧ Below n₀ W (w1.setCell ⟨Bo, 0, none⟩ v') ∧ (∀ lo up, (up ≤ Bo ∨ Bo < lo) → up ≤ hi → Mid lo up W (w1.setCell ⟨Bo, 0, none⟩ v')) ∧ Mid z u W (w1.setCell ⟨Bo, 0, none⟩ v') := by
  have hs := h.size
  have hne : ∀ j, j < hi → some j ≠ row := fun j hj e => by have := (hrow j e.symm).2.1; omega
  have hb1 : Boxed w1 Bo tS v := (h.box.alloc tmp).kept hgrow (hne _ (by omega))
  have hset := grownBy_setCell' w1 Bo v'
  have hown2 : (w1.setCell ⟨Bo, 0, none⟩ v').ownsRow hi tE sz v' (k + 1) ys := by
    refine hown.kept hset ?_
    rcases hown.2 with ⟨rfl, _⟩ | ⟨g, cap, cur, rfl, hg, _⟩
    · exact .inl rfl
    · refine .inr fun e => ?_
      have : g = Bo := by simpa [Value.ownBlock] using e
      omega
  have hbw : Below n₀ W (w1.setCell ⟨Bo, 0, none⟩ v') := (((Below.refl n₀ W).alloc (by omega) tmp).grown hgrow (by simp; omega) (fun g e => by have := (hrow g e).2.1; omega)).setCell (p := ⟨Bo, 0, none⟩) hBo v'
  have hsz1 : W.heap.size ≤ w1.heap.size := by have := hgrow.size; simp at this; omega
  have hblk : ∀ j, j < W.heap.size → some j ≠ row → j ≠ Bo → (w1.setCell ⟨Bo, 0, none⟩ v').heap[j]? = W.heap[j]? := fun j h1 h2 h3 => by
    rw [Below.heap_setCell w1 ⟨Bo, 0, none⟩ v' j h3, hgrow.block j (by simp; omega) h2]
    exact heap_alloc_old W tmp h1
  have hsz2 : (w1.setCell ⟨Bo, 0, none⟩ v').heap.size = w1.heap.size := size_set _ _ _
  refine ⟨hb1, ⟨hb1.set v', .inr hown2, fun x hx => ?_, h.below.trans hbw, by omega, ?_⟩, ?_, hbw, ?_, ?_⟩
  · rw [hblk x.1 (heap_lt (h.oth x hx)) (hne _ (hbs x hx).2) (hbs x hx).1]
    exact h.oth x hx
  · intro g e
    rw [hsz2]
    rcases hown.2 with ⟨rfl, _⟩ | ⟨g', cap, cur, rfl, hg, hc, _⟩
    · simp [Value.ownBlock] at e
    · have : g' = g := by simpa [Value.ownBlock] using e
      subst this
      exact heap_lt hc
  · refine ((KeepsOthers.alloc W tmp).trans (KeepsOthers.of_grownBy hgrow fun j o ej hj => ?_)).trans (KeepsOthers.setCell _ _ _)
    obtain ⟨_, _, o', ho', hc'⟩ := hrow j ej
    rw [hj] at ho'; cases ho'; exact hc'
  · intro lo up h1 h2
    exact ⟨by omega, fun j h3 h4 => hblk j (by omega) (hne j (by omega)) (by omega)⟩
  · exact ⟨by omega, fun j h3 h4 => hblk j (by omega) (fun e => by have := hlt _ (hrow j e.symm).1; omega) (by omega)⟩
end
end Go.Proofs.Ytnkhpmpoemodiaa
