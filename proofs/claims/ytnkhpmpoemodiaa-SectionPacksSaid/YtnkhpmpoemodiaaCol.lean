/- General: a loop body over an iterator that gathers by append into a boxed variable, while the iterator's own memory stays. No program in this text. -/
import Derived.Test.YtnkhpmpoemodiaaLib
import Derived.RangeFuncNested
import Derived.RangeFuncBound
import Derived.RangeFuncCalls
import Derived.RangeFuncLeaves
import Derived.RangeFuncBox
import Derived.Shelf.Abstract
import Derived.Shelf.RegionOpen
import Derived.OwnWalkIn
import Derived.TacticsInMore
import Derived.LoopNIn
import Derived.LoopIn
import Derived.Maps.AppendAt
set_option linter.unusedVariables false
namespace Go.Proofs.Ytnkhpmpoemodiaa
open Go.RowKit Go.Shelf

/-- The blocks from lo on, below hi, are as they were. -/
structure Mid (lo hi : Nat) (w w' : World) : Prop where
  size : w.heap.size ≤ w'.heap.size
  block : ∀ k, lo ≤ k → k < hi → w'.heap[k]? = w.heap[k]?
theorem Mid.refl (lo hi : Nat) (w : World) : Mid lo hi w w := ⟨Nat.le_refl _, fun _ _ _ => rfl⟩
theorem Mid.trans {lo hi : Nat} {a b c : World} (h : Mid lo hi a b) (k : Mid lo hi b c) : Mid lo hi a c :=
  ⟨Nat.le_trans h.size k.size, fun i h1 h2 => (k.block i h1 h2).trans (h.block i h1 h2)⟩
theorem Mid.cell {lo hi : Nat} {w w' : World} (h : Mid lo hi w w') {p : Addr} (h1 : lo ≤ p.block) (h2 : p.block < hi) : w'.cell? p = w.cell? p := World.cell?_of_block (w := w) (h.block p.block h1 h2)
theorem Mid.of_below {lo hi B : Nat} {w w' : World} (h : Below B w w') (hB : hi ≤ B) : Mid lo hi w w' := ⟨h.size, fun k _ h2 => h.block k (by omega)⟩
theorem Mid.putObj {lo hi : Nat} {w0 : World} (hhi : hi ≤ w0.heap.size) : ∀ (W : World) (l : Nat) (o o' : Obj), w0.heap.size ≤ l → W.heap[l]? = some o → o.isCells = false → o.isWalk = false → Mid lo hi W (W.putObj l o') := by
  intro W l o o' hl ho _ _
  have hg := grownBy_putObj' W l o'
  refine ⟨hg.size, fun k h1 h2 => hg.block k ?_ ?_⟩
  · have := (Array.getElem?_eq_some_iff.1 ho).1; omega
  · intro e; cases e; omega
theorem Mid.ints {k : IntKind} {lo hi : Nat} {w w' : World} {a : Option Addr} {b off len : Nat} {zs : List Int} {B : Nat} (h : IntsAt k B w a b off len zs) (hm : Mid lo hi w w') (h1 : len = 0 ∨ lo ≤ b) (h2 : len = 0 ∨ b < hi) : IntsAt k B w' a b off len zs :=
  ⟨h.addr, h.length, h.small, h.below, fun i hi' => by
    rw [hm.cell (p := ⟨b, off + i, none⟩) (by show lo ≤ b; omega) (by show b < hi; omega)]; exact h.cell i hi', h.fits⟩

theorem wpListIn_append_gath {F : Fence} {n : Nat} {P : Program} (w : World) {ops : Array Oper} {rest : List Oper} {o : Oper} {a : Act} {Q : Exit → Act → World → Prop}
    (hg : o.guard = none) (s x : Operand) (t : TypeId) (hop : o.op = Op.call { callee := Callee.builtin Builtin.append, args := #[s, x], argTypes := #[t, t] })
    (base : Nat) (e : TypeId) (i : TypeInfo) (z : Value) (size bytes : Nat) (h1 : P.underlying t = some (.slice e)) (h2 : P.info? e = some i) (h3 : i.zero = some z) (h4 : i.size = size) (h5 : i.bytes = bytes) (h6 : z.cells.size = size) (h7 : 0 < size)
    (v : Value) (k : Nat) (xs : List Value) (hs : a.eval s = v) (hown : Gath w base e size v k xs) (ad : Addr) (m c : Nat) (news : List Value) (hx : a.eval x = .slice (some ad) m c) (hn : news.length = m * size)
    (hc : ∀ j u, news[j]? = some u → w.cell? (ad.add j) = some u) (h1c : ∀ u ∈ news, u.oneCell' = true) (hm : 0 < m) (b1 : k + m ≤ maxLen) (b2 : (k + m) * bytes ≤ 140737488355328) (b3 : base ≤ w.heap.size)
    (hK : ∀ v' w' row, w'.ownsRow base e size v' (k + m) (xs ++ news) → w.grownBy w' row → (∀ g, row = some g → base ≤ g ∧ ∃ o : Obj, w.heap[g]? = some o ∧ o.isCells = true) → wpListIn F n P ops Q rest (a.put o.dst v') w') :
    wpListIn F n P ops Q (o :: rest) a w := by
  rcases hown with ⟨rfl, rfl, ao, rfl⟩ | hown
  · refine wpListIn_plain hg fun K hK' => ?_
    cases ao with
    | some b =>
      obtain ⟨v', w', hrun, r1, r2⟩ := run_append_arg_grows (P := P) w t o.type e i z size bytes h1 h2 h3 h4 h5 h6 h7 b 0 0 [] (by simp) (fun j u hj => by simp at hj) ad m c news hn hc (by omega) b1 b2
      unfold Oper.wpIn
      refine ⟨?_, ?_⟩
      · simp [Oper.about, hop, resolve, Target.leads, Sem.run_pure]
      · rw [Oper.semAt_plain F _ _ (by rw [hop]; intro c hc'; cases hc')]
        simp [execOp, hop, resolve, invoke, builtin, hs, hx, hrun, Result.andThen]
        exact hK' _ _ (hK v' w' none (ownsRow_base r1 b3) r2 (fun g hg => by cases hg))
    | none =>
      obtain ⟨v', w', hrun, r1, r2, r3⟩ := run_append_own (P := P) w base t o.type e i z size bytes h1 h2 h3 h4 h5 h6 h7 (.slice none 0 0) 0 [] (World.ownsRow_nil _ _ _ _) ad m c news hn hc h1c b1 b2 b3
      unfold Oper.wpIn
      refine ⟨?_, ?_⟩
      · simp [Oper.about, hop, resolve, Target.leads, Sem.run_pure]
      · rw [Oper.semAt_plain F _ _ (by rw [hop]; intro c hc'; cases hc')]
        simp [execOp, hop, resolve, invoke, builtin, hs, hx, hrun, Result.andThen]
        exact hK' _ _ (hK v' w' _ r1 r2 (fun g hg => by simp [Value.ownBlock] at hg))
  · refine wpListIn_append_own w hg s x t hop base e i z size bytes h1 h2 h3 h4 h5 h6 h7 v k xs hs hown ad m c news hx hn hc h1c b1 b2 b3 ?_
    intro v' w' r1 r2 r3
    refine hK v' w' _ r1 r2 (fun g hg => ⟨(hown.lt g hg).1, ?_⟩)
    rcases hown.2 with ⟨rfl, _⟩ | ⟨g', cap, cur, rfl, _, hgb, _⟩
    · simp [Value.ownBlock] at hg
    · obtain rfl : g' = g := by simpa [Value.ownBlock] using hg
      exact ⟨_, hgb, rfl⟩

/-- What the box holds is gathered; the other two boxes hold what they held. -/
structure Coll (n₀ lo hi Bm Br Bo : Nat) (tM tS tE : TypeId) (uM uR : Value) (w0 : World) (k : Nat) (xs : List Value) (W : World) (v : Value) : Prop where
  box : Boxed W Bo tS v
  row : Gath W hi tE 1 v k xs
  boxM : Boxed W Bm tM uM
  boxR : Boxed W Br tS uR
  below : Below n₀ w0 W
  size : hi ≤ W.heap.size
def CollI (n₀ lo hi Bm Br Bo : Nat) (tM tS tE : TypeId) (uM uR : Value) (w0 : World) (k : Nat) (xs : List Value) (W : World) : Prop := ∃ v, Coll n₀ lo hi Bm Br Bo tM tS tE uM uR w0 k xs W v

theorem gath_kept {w w' : World} {base : Nat} {e : TypeId} {size : Nat} {v : Value} {n : Nat} {xs : List Value} {row : Option Nat} (h : Gath w base e size v n xs) (hg : w.grownBy w' row) (hr : ∀ r, row = some r → ∃ o : Obj, w.heap[r]? = some o ∧ o.isCells = false) : Gath w' base e size v n xs := by
  rcases h with h | h
  · exact .inl h
  · refine .inr (h.kept hg ?_)
    rcases h.2 with ⟨rfl, _⟩ | ⟨g, cap, cur, rfl, _, hgb, _⟩
    · exact .inl rfl
    · refine .inr fun e' => ?_
      obtain ⟨o, ho, hc⟩ := hr g (by simpa [Value.ownBlock] using e'.symm)
      rw [hgb] at ho; cases ho; cases hc
theorem boxed_kept {W W' : World} {B : Nat} {t : TypeId} {v : Value} {row : Option Nat} (h : Boxed W B t v) (hg : W.grownBy W' row) (hr : ∀ r, row = some r → ∃ o : Obj, W.heap[r]? = some o ∧ o.isCells = false) : Boxed W' B t v :=
  h.kept hg (fun e' => by obtain ⟨o, ho, hc⟩ := hr B e'.symm; rw [show W.heap[B]? = _ from h] at ho; cases ho; cases hc)

theorem Coll.turned {n₀ lo hi Bm Br Bo : Nat} {tM tS tE : TypeId} {uM uR : Value} {w0 W W' : World} {k : Nat} {xs : List Value} {v : Value} {row : Option Nat} (h : Coll n₀ lo hi Bm Br Bo tM tS tE uM uR w0 k xs W v) (hn : n₀ ≤ hi) (hw : n₀ ≤ w0.heap.size)
    (hg : W.grownBy W' row) (hr : ∀ r, row = some r → hi ≤ r ∧ ∃ o : Obj, W.heap[r]? = some o ∧ o.isCells = false) : Coll n₀ lo hi Bm Br Bo tM tS tE uM uR w0 k xs W' v :=
  ⟨boxed_kept h.box hg (fun r e => (hr r e).2), gath_kept h.row hg (fun r e => (hr r e).2), boxed_kept h.boxM hg (fun r e => (hr r e).2), boxed_kept h.boxR hg (fun r e => (hr r e).2),
    h.below.grown hg (by have := h.size; omega) (fun r e => by have := (hr r e).1; omega), Nat.le_trans h.size hg.size⟩

/-- Behind an append and the store back. -/
theorem Coll.appended {n₀ lo hi Bm Br Bo : Nat} {tM tS tE : TypeId} {uM uR : Value} {w0 W w1 : World} {k : Nat} {xs ys : List Value} {v v' : Value} {tmp : Obj} {row : Option Nat}
    (h : Coll n₀ lo hi Bm Br Bo tM tS tE uM uR w0 k xs W v) (hBo : n₀ ≤ Bo) (hlo : Bo < lo) (hhi : lo ≤ hi) (hm : Bm ≠ Bo) (hr : Br ≠ Bo) (hbm : Bm < hi) (hbr : Br < hi)
    (hown : w1.ownsRow hi tE 1 v' (k + 1) ys) (hgrow : (W.alloc tmp).grownBy w1 row) (hrow : ∀ g, row = some g → hi ≤ g ∧ ∃ o : Obj, (W.alloc tmp).heap[g]? = some o ∧ o.isCells = true) :
    Boxed w1 Bo tS v ∧ Coll n₀ lo hi Bm Br Bo tM tS tE uM uR w0 (k + 1) ys (w1.setCell ⟨Bo, 0, none⟩ v') v' ∧ KeepsOthers W (w1.setCell ⟨Bo, 0, none⟩ v') ∧ Mid lo hi W (w1.setCell ⟨Bo, 0, none⟩ v') := by
  have hs := h.size
  have hne : ∀ j, j < hi → some j ≠ row := fun j hj e => by have := (hrow j e.symm).1; omega
  have hb1 : Boxed w1 Bo tS v := (h.box.alloc tmp).kept hgrow (hne _ (by omega))
  have hset := grownBy_setCell' w1 Bo v'
  have hown2 : (w1.setCell ⟨Bo, 0, none⟩ v').ownsRow hi tE 1 v' (k + 1) ys := by
    refine hown.kept hset ?_
    rcases hown.2 with ⟨rfl, _⟩ | ⟨g, cap, cur, rfl, hg, _⟩
    · exact .inl rfl
    · refine .inr fun e => ?_
      have : g = Bo := by simpa [Value.ownBlock] using e
      omega
  refine ⟨hb1, ⟨hb1.set v', .inr hown2, ?_, ?_, ?_, ?_⟩, ?_, ?_⟩
  · exact ((h.boxM.alloc tmp).kept hgrow (hne _ hbm)).kept hset (fun e => hm (by cases e; rfl))
  · exact ((h.boxR.alloc tmp).kept hgrow (hne _ hbr)).kept hset (fun e => hr (by cases e; rfl))
  · exact ((h.below.alloc (by omega) tmp).grown hgrow (by simp; omega) (fun g e => by have := (hrow g e).1; omega)).setCell (p := ⟨Bo, 0, none⟩) hBo v'
  · have h1 := hgrow.size
    have h2 := hset.size
    simp at h1
    omega
  · refine ((KeepsOthers.alloc W tmp).trans (KeepsOthers.of_grownBy hgrow fun j o ej hj => ?_)).trans (KeepsOthers.setCell _ _ _)
    obtain ⟨_, o', ho', hc'⟩ := hrow j ej
    rw [hj] at ho'; cases ho'; exact hc'
  · have hmid : Mid lo hi (W.alloc tmp) w1 := ⟨hgrow.size, fun j h1 h2 => hgrow.block j (by simp; omega) (hne j h2)⟩
    have hmid0 : Mid lo hi W (W.alloc tmp) := Mid.of_below ((Below.refl W.heap.size W).alloc (Nat.le_refl _) tmp) hs
    have hmid2 : Mid lo hi w1 (w1.setCell ⟨Bo, 0, none⟩ v') := ⟨hset.size, fun j h1 h2 => hset.block j (by have := hgrow.size; simp at this; omega) (fun e => by cases e; omega)⟩
    exact (hmid0.trans hmid).trans hmid2
theorem Gath.slice {w : World} {base : Nat} {e : TypeId} {size : Nat} {v : Value} {n : Nat} {xs : List Value} (h : Gath w base e size v n xs) : ∃ a cap, v = .slice a n cap := by
  rcases h with ⟨rfl, _, ao, rfl⟩ | h
  · exact ⟨ao, 0, rfl⟩
  · rcases h.2 with ⟨rfl, rfl⟩ | ⟨g, cap, cur, rfl, _⟩
    · exact ⟨none, 0, rfl⟩
    · exact ⟨_, cap, rfl⟩
theorem gath_set {W : World} {base : Nat} {e : TypeId} {size : Nat} {v : Value} {n : Nat} {xs : List Value} (h : Gath W base e size v n xs) {B : Nat} (hB : B < base) (u : Value) : Gath (W.setCell ⟨B, 0, none⟩ u) base e size v n xs := by
  rcases h with h | h
  · exact .inl h
  · refine .inr (h.kept (grownBy_setCell' W B u) ?_)
    rcases h.2 with ⟨rfl, _⟩ | ⟨g, cap, cur, rfl, hg, _⟩
    · exact .inl rfl
    · refine .inr fun e => ?_
      have : g = B := by simpa [Value.ownBlock] using e
      omega
theorem gath_putObj {W : World} {base : Nat} {e : TypeId} {size : Nat} {v : Value} {n : Nat} {xs : List Value} (h : Gath W base e size v n xs) {l : Nat} {o : Obj} (o' : Obj) (hl : W.heap[l]? = some o) (ho : o.isCells = false) : Gath (W.putObj l o') base e size v n xs :=
  gath_kept h (grownBy_putObj' W l o') (fun r e => by cases e; exact ⟨o, hl, ho⟩)
theorem gath_base {W : World} {base base' : Nat} {e : TypeId} {size : Nat} {v : Value} {n : Nat} {xs : List Value} (h : Gath W base e size v n xs) (hb : base' ≤ base) : Gath W base' e size v n xs := h.imp id (fun g => ownsRow_base g hb)
end Go.Proofs.Ytnkhpmpoemodiaa
