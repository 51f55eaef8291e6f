/- A pass, and refine. -/
import Derived.Test.YtjpgkocffceeoaaCol
import Derived.Test.YtjpgkocffceeoaaRfB
import Derived.Test.YtjpgkocffceeoaaCi
set_option linter.unusedVariables false
set_option linter.unusedSectionVars false
namespace Go.Proofs.Ytjpgkocffceeoaa
open Go.RowKit

/-- A box whose slice a loop's body gathers; other boxes that stay. -/
structure Bag (hi Bo : Nat) (tS tE : TypeId) (sz : Nat) (bs : List (Nat × TypeId × Value)) (n₀ : Nat) (w0 : World) (k : Nat) (xs : List Value) (W : World) (v : Value) : Prop where
  box : Boxed W Bo tS v
  row : Gath W hi tE sz v k xs
  oth : ∀ x ∈ bs, Boxed W x.1 x.2.1 x.2.2
  below : Below n₀ w0 W
  size : hi ≤ W.heap.size
def BagI (hi Bo : Nat) (tS tE : TypeId) (sz : Nat) (bs : List (Nat × TypeId × Value)) (n₀ : Nat) (w0 : World) (k : Nat) (xs : List Value) (W : World) : Prop := ∃ v, Bag hi Bo tS tE sz bs n₀ w0 k xs W v
theorem Bag.turned {hi Bo : Nat} {tS tE : TypeId} {sz : Nat} {bs : List (Nat × TypeId × Value)} {n₀ : Nat} {w0 W W' : World} {k : Nat} {xs : List Value} {v : Value} {row : Option Nat} (h : Bag hi Bo tS tE sz bs n₀ w0 k xs W v) (hn : n₀ ≤ hi)
    (hg : W.grownBy W' row) (hr : ∀ r, row = some r → hi ≤ r ∧ ∃ o : Obj, W.heap[r]? = some o ∧ o.isCells = false) : Bag hi Bo tS tE sz bs n₀ w0 k xs W' v :=
  ⟨boxed_kept h.box hg (fun r e => (hr r e).2), gath_kept h.row hg (fun r e => (hr r e).2), fun x hx => boxed_kept (h.oth x hx) hg (fun r e => (hr r e).2),
    h.below.grown hg (by have := h.size; omega) (fun r e => by have := (hr r e).1; omega), Nat.le_trans h.size hg.size⟩
theorem Bag.appended {hi Bo : Nat} {tS tE : TypeId} {sz : Nat} {bs : List (Nat × TypeId × Value)} {n₀ : Nat} {w0 W w1 : World} {k : Nat} {xs ys : List Value} {v v' : Value} {tmp : Obj} {row : Option Nat}
    (h : Bag hi Bo tS tE sz bs n₀ w0 k xs W v) (hBo : n₀ ≤ Bo) (hhi : Bo < hi) (hbs : ∀ x ∈ bs, x.1 ≠ Bo ∧ x.1 < hi)
    (hown : w1.ownsRow hi tE sz v' (k + 1) ys) (hgrow : (W.alloc tmp).grownBy w1 row) (hrow : ∀ g, row = some g → hi ≤ g ∧ ∃ o : Obj, (W.alloc tmp).heap[g]? = some o ∧ o.isCells = true) :
    Boxed w1 Bo tS v ∧ Bag hi Bo tS tE sz bs n₀ w0 (k + 1) ys (w1.setCell ⟨Bo, 0, none⟩ v') v' ∧ KeepsOthers W (w1.setCell ⟨Bo, 0, none⟩ v') ∧ Below n₀ W (w1.setCell ⟨Bo, 0, none⟩ v') := by
  have hs := h.size
  have hne : ∀ j, j < hi → some j ≠ row := fun j hj e => by have := (hrow j e.symm).1; omega
  have hb1 : Boxed w1 Bo tS v := (h.box.alloc tmp).kept hgrow (hne _ (by omega))
  have hset := grownBy_setCell' w1 Bo v'
  have hown2 : (w1.setCell ⟨Bo, 0, none⟩ v').ownsRow hi tE sz v' (k + 1) ys := by
    refine hown.kept hset ?_
    rcases hown.2 with ⟨rfl, _⟩ | ⟨g, cap, cur, rfl, hg, _⟩
    · exact .inl rfl
    · refine .inr fun e => ?_
      have : g = Bo := by simpa [Value.ownBlock] using e
      omega
  have hbw : Below n₀ W (w1.setCell ⟨Bo, 0, none⟩ v') := (((Below.refl n₀ W).alloc (by omega) tmp).grown hgrow (by simp; omega) (fun g e => by have := (hrow g e).1; omega)).setCell (p := ⟨Bo, 0, none⟩) hBo v'
  refine ⟨hb1, ⟨hb1.set v', .inr hown2, fun x hx => ?_, h.below.trans hbw, ?_⟩, ?_, hbw⟩
  · exact (((h.oth x hx).alloc tmp).kept hgrow (hne _ (hbs x hx).2)).kept hset (fun e => (hbs x hx).1 (by cases e; rfl))
  · have h1 := hgrow.size
    have h2 := hset.size
    simp at h1
    omega
  · refine ((KeepsOthers.alloc W tmp).trans (KeepsOthers.of_grownBy hgrow fun j o ej hj => ?_)).trans (KeepsOthers.setCell _ _ _)
    obtain ⟨_, o', ho', hc'⟩ := hrow j ej
    rw [hj] at ho'; cases ho'; exact hc'
/-- As 'wpListIn_append_gath'; what is turned is its own row. -/
theorem wpListIn_append_gathO {F : Fence} {n : Nat} {P : Program} (w : World) {ops : Array Oper} {rest : List Oper} {o : Oper} {a : Act} {Q : Exit → Act → World → Prop}
    (hg : o.guard = none) (s x : Operand) (t : TypeId) (hop : o.op = Op.call { callee := Callee.builtin Builtin.append, args := #[s, x], argTypes := #[t, t] })
    (base : Nat) (e : TypeId) (i : TypeInfo) (z : Value) (size bytes : Nat) (h1 : P.underlying t = some (.slice e)) (h2 : P.info? e = some i) (h3 : i.zero = some z) (h4 : i.size = size) (h5 : i.bytes = bytes) (h6 : z.cells.size = size) (h7 : 0 < size)
    (v : Value) (k : Nat) (xs : List Value) (hs : a.eval s = v) (hown : Gath w base e size v k xs) (ad : Addr) (m c : Nat) (news : List Value) (hx : a.eval x = .slice (some ad) m c) (hn : news.length = m * size)
    (hc : ∀ j u, news[j]? = some u → w.cell? (ad.add j) = some u) (h1c : ∀ u ∈ news, u.oneCell' = true) (hm : 0 < m) (b1 : k + m ≤ maxLen) (b2 : (k + m) * bytes ≤ 140737488355328) (b3 : base ≤ w.heap.size)
    (hK : ∀ v' w' row, w'.ownsRow base e size v' (k + m) (xs ++ news) → w.grownBy w' row → (∀ g, row = some g → v.ownBlock = some g ∧ w.ownsRow base e size v k xs) → wpListIn F n P ops Q rest (a.put o.dst v') w') :
    wpListIn F n P ops Q (o :: rest) a w := by
  rcases hown with ⟨rfl, rfl, ao, rfl⟩ | hown
  · refine wpListIn_plain hg fun K hK' => ?_
    cases ao with
    | some b =>
      obtain ⟨v', w', hrun, r1, r2⟩ := run_append_arg_grows (P := P) w t o.type e i z size bytes h1 h2 h3 h4 h5 h6 h7 b 0 0 [] (by simp) (fun j u hj => by simp at hj) ad m c news hn hc (by omega) b1 b2
      unfold Oper.wpIn
      refine ⟨?_, ?_⟩
      · simp [Oper.about, hop, resolve, Target.leads, Sem.run_pure]
      · rw [Oper.semAt_plain F _ _ (by rw [hop]; intro c hc'; cases hc')]
        simp [execOp, hop, resolve, invoke, builtin, hs, hx, hrun, Result.andThen]
        exact hK' _ _ (hK v' w' none (ownsRow_base r1 b3) r2 (fun g hg => by cases hg))
    | none =>
      obtain ⟨v', w', hrun, r1, r2, r3⟩ := run_append_own (P := P) w base t o.type e i z size bytes h1 h2 h3 h4 h5 h6 h7 (.slice none 0 0) 0 [] (World.ownsRow_nil _ _ _ _) ad m c news hn hc h1c b1 b2 b3
      unfold Oper.wpIn
      refine ⟨?_, ?_⟩
      · simp [Oper.about, hop, resolve, Target.leads, Sem.run_pure]
      · rw [Oper.semAt_plain F _ _ (by rw [hop]; intro c hc'; cases hc')]
        simp [execOp, hop, resolve, invoke, builtin, hs, hx, hrun, Result.andThen]
        exact hK' _ _ (hK v' w' _ r1 r2 (fun g hg => by simp [Value.ownBlock] at hg))
  · refine wpListIn_append_own w hg s x t hop base e i z size bytes h1 h2 h3 h4 h5 h6 h7 v k xs hs hown ad m c news hx hn hc h1c b1 b2 b3 ?_
    intro v' w' r1 r2 r3
    refine hK v' w' _ r1 r2 (fun g hg => ⟨hg, hown⟩)
end Go.Proofs.Ytjpgkocffceeoaa

namespace Go.Proofs.Ytjpgkocffceeoaa
open Go.RowKit Go.Shelf Rk

/-- What a pass counts, move by move. -/
def psI (L : List (Int × Int)) : PsS := L.foldl (fun s x => stepS s (0, x.2)) ⟨0, 0, 0, 0⟩
theorem psI_snoc (L : List (Int × Int)) (x : Int × Int) : psI (L ++ [x]) = stepS (psI L) (0, x.2) := by simp [psI]
theorem psI_enc (L : List (Nat × Int)) : psI (encI L) = passS L := by
  unfold psI encI passS
  rw [List.foldl_map]
  rfl
/-- What is counted stays small. -/
structure PsBd (xs : List (Int × Int)) (s : PsS) : Prop where
  eq : s = psI xs
  fell : - (1099511627776000 * (xs.length : Int)) ≤ s.fell ∧ s.fell ≤ 1099511627776000 * (xs.length : Int)
  most : 0 ≤ s.most ∧ s.most ≤ 1099511627776000 * (xs.length : Int)
  few : s.few ≤ xs.length
  len : s.len = xs.length
theorem PsBd.nil : PsBd [] ⟨0, 0, 0, 0⟩ := ⟨rfl, by simp, by simp, Nat.le_refl _, rfl⟩
theorem PsBd.step {xs : List (Int × Int)} {s : PsS} (h : PsBd xs s) {x : Int × Int} (hx : - 1099511627776000 ≤ x.2 ∧ x.2 ≤ 1099511627776000) : PsBd (xs ++ [x]) (stepS s (0, x.2)) := by
  obtain ⟨h1, h2, h3, h4, h5⟩ := h
  have hl : ((xs ++ [x]).length : Int) = (xs.length : Int) + 1 := by simp
  refine ⟨by rw [psI_snoc, h1], ?_, ?_, ?_, ?_⟩
  · rw [hl]
    unfold stepS
    split <;> (show _ ≤ s.fell + x.2 ∧ s.fell + x.2 ≤ _) <;> constructor <;> omega
  · rw [hl]
    unfold stepS
    split
    · rename_i h6
      simp only at h6
      show 0 ≤ s.fell + x.2 ∧ s.fell + x.2 ≤ _
      constructor <;> omega
    · show 0 ≤ s.most ∧ s.most ≤ _
      constructor <;> omega
  · unfold stepS
    split
    · show s.len + 1 ≤ _; simp; omega
    · show s.few ≤ _; simp; omega
  · unfold stepS
    split <;> (show s.len + 1 = _) <;> simp <;> omega
theorem movesM_bd {n : Nat} {F : Nat → Nat → Int} (h : Tab n F) (ws : Nat → Int) (b : Int → Int) : ∀ (k : Nat) (m : Nat → Int) (mv : Nat → Bool), ∀ x ∈ movesM n F ws b k m mv, - (1099511627776 * (n : Int)) ≤ x.2 ∧ x.2 ≤ 1099511627776 * (n : Int)
  | 0, m, mv => fun x hx => by cases hx
  | k + 1, m, mv => fun x hx => by
    unfold movesM at hx
    split at hx
    · cases hx
    · rcases List.mem_cons.1 hx with rfl | hx
      · exact tG_bd h _ _
      · exact movesM_bd h ws b k _ _ x hx
/-- All that is handed out is small, and of right parts. -/
theorem movesD_in {ws : List Int} {F : Nat → Nat → Int} (h : Tab ws.length F) (hn : ws.length ≤ 1000) (b0 b1 : Int) (ms : List Int) :
    (movesD ws F b0 b1 ms).length ≤ ws.length ∧ (∀ x ∈ movesD ws F b0 b1 ms, x.1 < ms.length ∧ x.1 < ws.length ∧ - 1099511627776000 ≤ x.2 ∧ x.2 ≤ 1099511627776000) ∧ (movesD ws F b0 b1 ms = [] ∨ (ms.length = ws.length ∧ twoM ws.length (mOf ms))) ∧ ((movesD ws F b0 b1 ms).map (·.1)).Nodup := by
  unfold movesD
  split
  · exact ⟨Nat.zero_le _, (fun x hx => by cases hx), Or.inl rfl, List.nodup_nil⟩
  · rename_i hc
    have hr : rightP ws.length ms 2 = true := by
      cases e : rightP ws.length ms 2 with
      | true => rfl
      | false => exact absurd (.inr e) hc
    obtain ⟨r1, _, r3⟩ := rightP_t hr
    refine ⟨movesM_length _ _ _ _ _ _ _, fun x hx => ?_, .inr ⟨r1, fun i hi => ?_⟩, (movesM_new _ _ _ _ _ _ _).1⟩
    · have h1 := ((movesM_new _ _ _ _ _ _ _).2 x hx).1
      have h2 := movesM_bd h _ _ _ _ _ x hx
      exact ⟨by omega, h1, by omega, by omega⟩
    · have := r3 (ms.getD i 0) (by rw [List.getD_eq_getElem?_getD, List.getElem?_eq_getElem (show i < ms.length by omega)]; exact List.getElem_mem _)
      show ms.getD i 0 = 0 ∨ ms.getD i 0 = 1
      omega
/-- What turns while moves are gathered: the boxes, and what is new. -/
def PaT (A hi : Nat) (k : Nat) : Prop := (A ≤ k ∧ k < A + 4) ∨ hi ≤ k
/-- While moves are gathered. -/
structure PaR (A hi : Nat) (w2 : World) (xs : List (Int × Int)) (v : Value) (f m : Int) (c : Nat) (W : World) : Prop where
  bx : Boxed W A 24 v
  row : Gath W hi 3 1 v xs.length (ivals .i64 (xs.map (·.1)))
  b1 : Boxed W (A + 1) 2 (.int .i64 f)
  b2 : Boxed W (A + 1 + 1) 2 (.int .i64 m)
  b3 : Boxed W (A + 1 + 1 + 1) 3 (.int .i64 (c : Int))
  below : Below A w2 W
  size : hi ≤ W.heap.size
  lt : A + 4 ≤ hi
theorem gath_turned {W W' : World} {base : Nat} {e : TypeId} {size : Nat} {v : Value} {n : Nat} {xs : List Value} (h : Gath W base e size v n xs) {R : Nat → Prop} (ht : Turned R W W') (hR : ∀ k, base ≤ k → ¬ R k) : Gath W' base e size v n xs := by
  rcases h with h | ⟨h1, h2⟩
  · exact .inl h
  · refine .inr ⟨h1, ?_⟩
    rcases h2 with h2 | ⟨g, cap, cur, hv, hb, hg, rest⟩
    · exact .inl h2
    · exact .inr ⟨g, cap, cur, hv, hb, ht.old hg (hR g hb), rest⟩
theorem Turned.imp {R R' : Nat → Prop} {W W' : World} (h : Turned R W W') (hi : ∀ k, R k → R' k) : Turned R' W W' := ⟨h.os, h.tape, h.output, h.size, fun k hk hn => h.block k hk (fun e => hn (hi k e))⟩
theorem Turned.trans' {R : Nat → Prop} {W W' W'' : World} (h : Turned R W W') (k : Turned R W' W'') : Turned R W W'' := ⟨k.os.trans h.os, k.tape.trans h.tape, k.output.trans h.output, Nat.le_trans h.size k.size, fun c hc hn => (k.block c (Nat.lt_of_lt_of_le hc h.size) hn).trans (h.block c hc hn)⟩
section
variable {A hi : Nat} {w2 W W' : World} {xs : List (Int × Int)} {v : Value} {f m : Int} {c : Nat}
theorem PaR.turned {row : Option Nat} (h : PaR A hi w2 xs v f m c W) (hg : W.grownBy W' row) (hr : ∀ r, row = some r → A ≤ r ∧ ∃ o : Obj, W.heap[r]? = some o ∧ o.isCells = false) : PaR A hi w2 xs v f m c W' :=
  ⟨boxed_kept h.bx hg (fun r e => (hr r e).2), gath_kept h.row hg (fun r e => (hr r e).2), boxed_kept h.b1 hg (fun r e => (hr r e).2), boxed_kept h.b2 hg (fun r e => (hr r e).2), boxed_kept h.b3 hg (fun r e => (hr r e).2),
    h.below.grown hg (by have := h.size; have := h.lt; omega) (fun r e => (hr r e).1), Nat.le_trans h.size hg.size, h.lt⟩
theorem PaR.mid {lo : Nat} (h : PaR A hi w2 xs v f m c W) (hl : A + 4 ≤ lo) (ht : Turned (fun k => lo ≤ k ∧ k < hi) W W') : PaR A hi w2 xs v f m c W' := by
  have hb : ∀ k t u, k < A + 4 → Boxed W k t u → Boxed W' k t u := fun k t u hk hb => ht.old hb (fun e => by omega)
  refine ⟨hb _ _ _ (by omega) h.bx, ?_, hb _ _ _ (by omega) h.b1, hb _ _ _ (by omega) h.b2, hb _ _ _ (by omega) h.b3, ?_, Nat.le_trans h.size ht.size, h.lt⟩
  · exact gath_turned h.row ht (fun k hk e => by omega)
  · exact ⟨ht.os.trans h.below.os, ht.tape.trans h.below.tape, ht.output.trans h.below.output, Nat.le_trans h.below.size ht.size, fun k hk => by
      have hs := h.size
      have hl2 := h.lt
      exact (ht.block k (by omega) (by omega)).trans (h.below.block k hk)⟩
/-- A box is set. -/
theorem PaR.setB (h : PaR A hi w2 xs v f m c W) {k : Nat} (hk : A ≤ k ∧ k < A + 4) (u : Value) : Gath (W.setCell ⟨k, 0, none⟩ u) hi 3 1 v xs.length (ivals .i64 (xs.map (·.1))) ∧ Below A w2 (W.setCell ⟨k, 0, none⟩ u) ∧ hi ≤ (W.setCell ⟨k, 0, none⟩ u).heap.size ∧ KeepsOthers W (W.setCell ⟨k, 0, none⟩ u) ∧ Turned (PaT A hi) W (W.setCell ⟨k, 0, none⟩ u) := by
  have hl := h.lt
  have ht := Turned.set W k 0 u
  exact ⟨gath_turned h.row ht (fun j hj e => by omega), h.below.setCell (p := ⟨k, 0, none⟩) hk.1 u, Nat.le_trans h.size ht.size, KeepsOthers.setCell _ _ _, ht.imp (fun j e => by subst e; exact .inl hk)⟩
theorem PaR.fell (h : PaR A hi w2 xs v f m c W) (x : Int) : PaR A hi w2 xs v x m c (W.setCell ⟨A + 1, 0, none⟩ (.int .i64 x)) := by
  obtain ⟨k1, k2, k3, _, _⟩ := h.setB (k := A + 1) ⟨by omega, by omega⟩ (.int .i64 x)
  exact ⟨h.bx.other (by omega) _, k1, h.b1.set _, h.b2.other (by omega) _, h.b3.other (by omega) _, k2, k3, h.lt⟩
theorem PaR.most (h : PaR A hi w2 xs v f m c W) (x : Int) : PaR A hi w2 xs v f x c (W.setCell ⟨A + 1 + 1, 0, none⟩ (.int .i64 x)) := by
  obtain ⟨k1, k2, k3, _, _⟩ := h.setB (k := A + 1 + 1) ⟨by omega, by omega⟩ (.int .i64 x)
  exact ⟨h.bx.other (by omega) _, k1, h.b1.other (by omega) _, h.b2.set _, h.b3.other (by omega) _, k2, k3, h.lt⟩
theorem PaR.few (h : PaR A hi w2 xs v f m c W) (x : Nat) : PaR A hi w2 xs v f m x (W.setCell ⟨A + 1 + 1 + 1, 0, none⟩ (.int .i64 (x : Int))) := by
  obtain ⟨k1, k2, k3, _, _⟩ := h.setB (k := A + 1 + 1 + 1) ⟨by omega, by omega⟩ (.int .i64 (x : Int))
  exact ⟨h.bx.other (by omega) _, k1, h.b1.other (by omega) _, h.b2.other (by omega) _, h.b3.set _, k2, k3, h.lt⟩
theorem PaR.drew (h : PaR A hi w2 xs v f m c W) : PaR A hi w2 xs v f m c W.drew := ⟨h.bx, h.row.drew, h.b1, h.b2, h.b3, h.below.drew, h.size, h.lt⟩
/-- A move is put behind. -/
theorem PaR.app {w3 : World} {tmp : Obj} {row : Option Nat} {x : Int × Int} {g cap : Nat} (h : PaR A hi w2 xs v f m c W) (hown : w3.ownsRow hi 3 1 (.slice (some ⟨g, 0, none⟩) (xs.length + 1) cap) (xs.length + 1) (ivals .i64 (xs.map (·.1)) ++ [.int .i64 x.1])) (hgrow : (W.alloc tmp).grownBy w3 row)
    (hrow : ∀ r, row = some r → v.ownBlock = some r ∧ (W.alloc tmp).ownsRow hi 3 1 v xs.length (ivals .i64 (xs.map (·.1)))) :
    Boxed w3 A 24 v ∧ PaR A hi w2 (xs ++ [x]) (.slice (some ⟨g, 0, none⟩) (xs.length + 1) cap) f m c (w3.setCell ⟨A, 0, none⟩ (.slice (some ⟨g, 0, none⟩) (xs.length + 1) cap)) ∧
      KeepsOthers W (w3.setCell ⟨A, 0, none⟩ (.slice (some ⟨g, 0, none⟩) (xs.length + 1) cap)) ∧ Turned (PaT A hi) W (w3.setCell ⟨A, 0, none⟩ (.slice (some ⟨g, 0, none⟩) (xs.length + 1) cap)) := by
  have hs := h.size
  have hl := h.lt
  have hrw : ∀ r, row = some r → hi ≤ r ∧ ∃ o : Obj, (W.alloc tmp).heap[r]? = some o ∧ o.isCells = true := fun r e => by
    obtain ⟨k1, k2⟩ := hrow r e
    rcases k2.2 with ⟨hv, _⟩ | ⟨g', cap', cur, hv, hb, hg, _⟩
    · rw [hv] at k1; simp [Value.ownBlock] at k1
    · rw [hv] at k1
      simp [Value.ownBlock] at k1
      subst k1
      exact ⟨hb, _, hg, rfl⟩
  have hne : ∀ j, j < hi → some j ≠ row := fun j hj e => by have := (hrw j e.symm).1; omega
  have b0 : Boxed w3 A 24 v := (h.bx.alloc tmp).kept hgrow (hne _ (by omega))
  have b1 : Boxed w3 (A + 1) 2 (.int .i64 f) := (h.b1.alloc tmp).kept hgrow (hne _ (by omega))
  have b2 : Boxed w3 (A + 1 + 1) 2 (.int .i64 m) := (h.b2.alloc tmp).kept hgrow (hne _ (by omega))
  have b3 : Boxed w3 (A + 1 + 1 + 1) 3 (.int .i64 (c : Int)) := (h.b3.alloc tmp).kept hgrow (hne _ (by omega))
  have hset := Turned.set w3 A 0 (.slice (some ⟨g, 0, none⟩) (xs.length + 1) cap)
  have hT : Turned (PaT A hi) W w3 := ⟨hgrow.os, hgrow.tape, hgrow.output, Nat.le_trans (by simp) hgrow.size, fun k hk hn => by
    have h1 := hgrow.block k (by simp; omega) (fun e => hn (.inr (hrw k e.symm).1))
    rw [h1]
    exact heap_alloc_old W tmp hk⟩
  refine ⟨b0, ⟨b0.set _, ?_, b1.other (by omega) _, b2.other (by omega) _, b3.other (by omega) _, ?_, ?_, hl⟩, ?_, hT.trans' (hset.imp (fun j e => by subst e; exact .inl ⟨by omega, by omega⟩))⟩
  · rw [List.length_append, List.length_singleton, List.map_append, List.map_cons, List.map_nil, ivals_snoc]
    exact gath_turned (.inr hown) hset (fun k hk e => by omega)
  · exact (((h.below.alloc (by omega) tmp).grown hgrow (by simp; omega) (fun r e => by have := (hrw r e).1; omega))).setCell (p := ⟨A, 0, none⟩) (Nat.le_refl _) _
  · exact Nat.le_trans (Nat.le_trans hs hT.size) hset.size
  · refine ((KeepsOthers.alloc W tmp).trans (KeepsOthers.of_grownBy hgrow fun j o ej hj => ?_)).trans (KeepsOthers.setCell _ _ _)
    obtain ⟨_, o', ho', hc'⟩ := hrw j ej
    rw [hj] at ho'; cases ho'; exact hc'
end
/-- What a round has turned. -/
def KT (A hi : Nat) (W B : World) : Prop := KeepsOthers W B ∧ Turned (PaT A hi) W B
theorem KT.set {A hi : Nat} {W B : World} (h : KT A hi W B) {k : Nat} (hk : A ≤ k ∧ k < A + 4) (u : Value) : KT A hi W (B.setCell ⟨k, 0, none⟩ u) :=
  ⟨h.1.trans (KeepsOthers.setCell _ _ _), h.2.trans' ((Turned.set B k 0 u).imp (fun j e => by subst e; exact .inl hk))⟩
theorem KT.drew {A hi : Nat} {W B : World} (h : KT A hi W B) : KT A hi W B.drew := ⟨h.1.trans (KeepsOthers.drew _), ⟨h.2.os, h.2.tape, h.2.output, h.2.size, h.2.block⟩⟩
theorem KT.fin {A hi : Nat} {W B : World} (h : KT A hi W B) {b n₀ lo up lo2 : Nat} (h1 : n₀ ≤ A) (h2 : A + 4 ≤ lo) (h3 : up ≤ hi) (h4 : A + 4 ≤ lo2) (h5 : hi ≤ W.heap.size) (h6 : A + 4 ≤ hi) : KeepsFrom b W B ∧ Below n₀ W B ∧ Mid lo up W B ∧ Mid lo2 hi W B := by
  have hb : ∀ k, k < hi → (k < A ∨ A + 4 ≤ k) → B.heap[k]? = W.heap[k]? := fun k hk hn => h.2.block k (by omega) (fun e => by rcases e with e | e <;> omega)
  exact ⟨h.1.from _, ⟨h.2.os, h.2.tape, h.2.output, h.2.size, fun k hk => h.2.block k (by omega) (fun e => by rcases e with e | e <;> omega)⟩, ⟨h.2.size, fun k k1 k2 => hb k (by omega) (by omega)⟩, ⟨h.2.size, fun k k1 k2 => hb k k2 (by omega)⟩⟩
theorem behindL_snoc (ms : List Int) (L : List (Nat × Int)) (x : Nat × Int) : behindL ms (L ++ [x]) = flipL (behindL ms L) x.1 := by simp [behindL]
theorem behindL_two {n : Nat} (L : List (Nat × Int)) : ∀ ms : List Int, ms.length = n → twoM n (mOf ms) → (∀ x ∈ L, x.1 < n) → twoM n (mOf (behindL ms L)) := by
  induction L with
  | nil => intro ms _ h2 _; exact h2
  | cons x r ih =>
    intro ms hl h2 hx
    have hx1 := hx x (List.mem_cons_self ..)
    exact ih (flipL ms x.1) (by rw [flipL_length]; exact hl) (by rw [flipL_of (by omega)]; exact h2.flip hx1) (fun y hy => hx y (List.mem_cons_of_mem _ hy))
/-- While moves are taken. -/
structure BhR (pb len : Nat) (ms : List Int) (L : List (Nat × Int)) (j : Nat) (W wr : World) : Prop where
  row : OwR wr pb 3 len (fun i => .int .i64 ((behindL ms (L.take j)).getD i 0))
  turned : Turned (fun k => k = pb ∧ len ≠ 0) W wr
theorem BhR.step {pb len : Nat} {ms : List Int} {L : List (Nat × Int)} {j : Nat} {W wr : World} (h : BhR pb len ms L j W wr) (hl : ms.length = len) (hj : j < L.length) (hi : L[j].1 < len) :
    BhR pb len ms L (j + 1) W (wr.setCell ⟨pb, L[j].1, none⟩ (.int .i64 (1 - (behindL ms (L.take j)).getD L[j].1 0))) := by
  have e : L.take (j + 1) = L.take j ++ [L[j]] := by rw [List.take_succ_eq_append_getElem hj]
  refine ⟨(h.row.set hi _).congr (fun c hc => ?_), h.turned.trans' ((Turned.set wr pb _ _).imp (fun k e => ⟨e, by omega⟩))⟩
  rw [e, behindL_snoc]
  unfold flipL
  by_cases e2 : c = L[j].1
  · subst e2
    rw [if_pos rfl]
    have : L[j].1 < (behindL ms (L.take j)).length := by rw [behindL_length]; omega
    simp [List.getD_eq_getElem?_getD, this]
  · rw [if_neg e2]
    simp [List.getD_eq_getElem?_getD, show ¬ L[j].1 = c from fun h => e2 h.symm]
end Go.Proofs.Ytjpgkocffceeoaa

namespace Go.Proofs.Ytjpgkocffceeoaa
open Go.RowKit Go.Shelf Rk

attribute [local go_sem] Oper.semAt_some

theorem wf_smallR (m : Nat) (h : m ≤ 1000) : (Lit.int .i64 (m : Int)).wf = true := by
  have h1 : IntKind.i64.min = -9223372036854775808 := by decide
  have h2 : IntKind.i64.max = 9223372036854775807 := by decide
  show (decide (IntKind.i64.min ≤ (m : Int)) && decide ((m : Int) ≤ IntKind.i64.max)) = true
  rw [h1, h2, Bool.and_eq_true, decide_eq_true_eq, decide_eq_true_eq]
  omega
/-- The parts behind a pass. -/
def passP (ms : List Int) (L : List (Nat × Int)) : List Int := behindL ms (L.take (passS L).few)
def PassPost (w : World) (zs : List Int) (L : List (Nat × Int)) (e : Ending) (w' : World) : Prop :=
  ∃ pa pb pc, e = .returned (.tuple #[.slice pa zs.length pc, .int .i64 (passS L).most]) ∧ IntsAt .i64 w'.heap.size w' pa pb 0 zs.length (passP zs L) ∧ (zs.length = 0 ∨ w.heap.size ≤ pb) ∧ (pa = none → zs.length = 0 ∧ pc = 0) ∧ Below w.heap.size w w'
set_option maxRecDepth 100000 in
set_option maxHeartbeats 4000000 in
theorem pass_any {w : World} {g nb : Nat} {ws : List Int} {F : Nat → Nat → Int} (h0 : IsG w g nb ws F) (hn : ws.length ≤ 1000) {a : Option Addr} {b off len cap : Nat} {zs : List Int} (hp : IntsAt .i64 w.heap.size w a b off len zs) (hpn : a = none → len = 0 ∧ cap = 0) (hlen : len ≤ 65536) (b0 b1 : Int) :
    Calls Try.prog 29 #[.pointer (some ⟨g, 0, none⟩), .slice a len cap, .agg #[.int .i64 b0, .int .i64 b1]] w (PassPost w zs (movesD ws F b0 b1 zs)) := by
  have hb1 : Below w.heap.size w (w.alloc (.cells #[.int .i64 b0, .int .i64 b1] 46)) := (Below.refl _ w).alloc (Nat.le_refl _) _
  have hbx : (w.alloc (.cells #[.int .i64 b0, .int .i64 b1] 46)).heap[w.heap.size]? = some (.cells #[.int .i64 b0, .int .i64 b1] 46 (0, 0)) := heap_new (w := w) _ rfl
  have hwhl := hp.length
  have HCl := Lib.hid (cloneI_any (cap := cap) (hp.kept hb1 (Nat.le_refl _)) hpn hlen)
  have HB1 := Lib.hid hb1
  have HBX := Lib.hid hbx
  have HP := Lib.hid hp
  have HG := Lib.hid h0
  have HPN := Lib.hid hpn
  clear hb1 hbx hp h0 hpn
  refine (callsIn_wide (n := 3)).1 ?_
  refine callsIn_of_wp_marks Try.func29 rfl trivial ?_ rfl
  simp only [Try.ntmps29, List.size_toArray, List.length_cons, List.length_nil, Nat.reduceAdd, Nat.reduceSub, Array.replicate_succ, Array.replicate_zero, List.push_toArray, List.append_toArray, List.nil_append, List.cons_append]
  refine wpIn_wide.2 ?_
  go_upto_region 1 with fail
  generalize (w.alloc (.cells #[.int .i64 b0, .int .i64 b1] 46)) = w1 at *
  go_wp2_with fail
  refine HCl.out.mono ?_
  rintro e w2 ⟨pa, pb, pc, rfl, hcap, hI, hnew, hb2, hnn, hcur⟩
  rw [hwhl] at hI hnew hnn hcur hcap ⊢
  have HB2 := Lib.hid (HB1.out.trans (hb2.mono HB1.out.size))
  have HO2 := Lib.hid (IntsAt.own hI hcur)
  have HI2 := Lib.hid hI
  have HNew := Lib.hid hnew
  have HNn := Lib.hid hnn
  have HBX2 := Lib.hid (heap_below HBX.out hb2 (heap_lt HBX.out))
  have HZ := Lib.hid hb2.size
  clear hI hnew hnn hcur hcap hb2 HCl HBX
  go_upto_region 4 with fail
  have b0 : Below w2.heap.size w2 ((((w2.alloc (.cells #[.slice none 0 0] 24)).alloc (.cells #[.int .i64 0] 2)).alloc (.cells #[.int .i64 0] 2)).alloc (.cells #[.int .i64 0] 3)) := ((((Below.refl _ w2).alloc (Nat.le_refl _) _).alloc (by simp) _).alloc (by simp; omega) _).alloc (by simp; omega) _
  have q0 : Boxed ((((w2.alloc (.cells #[.slice none 0 0] 24)).alloc (.cells #[.int .i64 0] 2)).alloc (.cells #[.int .i64 0] 2)).alloc (.cells #[.int .i64 0] 3)) w2.heap.size 24 (.slice none 0 0) := (((Boxed.new w2 _ _).alloc _).alloc _).alloc _
  have q1 : Boxed ((((w2.alloc (.cells #[.slice none 0 0] 24)).alloc (.cells #[.int .i64 0] 2)).alloc (.cells #[.int .i64 0] 2)).alloc (.cells #[.int .i64 0] 3)) (w2.heap.size + 1) 2 (.int .i64 0) := by
    have := Boxed.new (w2.alloc (.cells #[.slice none 0 0] 24)) 2 (.int .i64 0)
    simp only [World.size_alloc] at this
    exact (this.alloc _).alloc _
  have q2 : Boxed ((((w2.alloc (.cells #[.slice none 0 0] 24)).alloc (.cells #[.int .i64 0] 2)).alloc (.cells #[.int .i64 0] 2)).alloc (.cells #[.int .i64 0] 3)) (w2.heap.size + 1 + 1) 2 (.int .i64 0) := by
    have := Boxed.new ((w2.alloc (.cells #[.slice none 0 0] 24)).alloc (.cells #[.int .i64 0] 2)) 2 (.int .i64 0)
    simp only [World.size_alloc] at this
    exact this.alloc _
  have q3 : Boxed ((((w2.alloc (.cells #[.slice none 0 0] 24)).alloc (.cells #[.int .i64 0] 2)).alloc (.cells #[.int .i64 0] 2)).alloc (.cells #[.int .i64 0] 3)) (w2.heap.size + 1 + 1 + 1) 3 (.int .i64 0) := by
    have := Boxed.new (((w2.alloc (.cells #[.slice none 0 0] 24)).alloc (.cells #[.int .i64 0] 2)).alloc (.cells #[.int .i64 0] 2)) 3 (.int .i64 0)
    simp only [World.size_alloc] at this
    exact this
  have hz4 : ((((w2.alloc (.cells #[.slice none 0 0] 24)).alloc (.cells #[.int .i64 0] 2)).alloc (.cells #[.int .i64 0] 2)).alloc (.cells #[.int .i64 0] 3)).heap.size = w2.heap.size + 1 + 1 + 1 + 1 := by simp
  have HQ := Lib.hid (And.intro b0 (And.intro q0 (And.intro q1 (And.intro q2 (And.intro q3 hz4)))))
  clear b0 q0 q1 q2 q3 hz4
  generalize ((((w2.alloc (.cells #[.slice none 0 0] 24)).alloc (.cells #[.int .i64 0] 2)).alloc (.cells #[.int .i64 0] 2)).alloc (.cells #[.int .i64 0] 3)) = w4 at *
  obtain ⟨A, hA⟩ : ∃ A, w2.heap.size = A := ⟨_, rfl⟩
  have HA := Lib.hid hA
  rw [hA] at HQ ⊢
  have hwA : w.heap.size ≤ A := by rw [← hA]; exact HB2.out.size
  clear hA
  have HBX4 := Lib.hid (heap_below HBX2.out HQ.out.1 (by rw [← HA.out]; exact heap_lt HBX2.out))
  have k0 := heap_cell HBX4.out (i := 0) rfl
  have k1 := heap_cell HBX4.out (i := 1) rfl
  simp only [List.getElem_toArray, List.getElem_cons_zero, List.getElem_cons_succ] at k0 k1
  have HMv := Lib.hid (moves_any (cap := cap) HG.out (HB2.out.trans (HQ.out.1.mono hwA)) ((HP.out.kept HB2.out (Nat.le_refl _)).kept (HQ.out.1) hwA |>.mono (by have := HQ.out.1.size; have := HB2.out.size; rw [HA.out] at *; omega)) HPN.out b0 b1)
  go_wp2_with fail
  refine HMv.out.mono ?_
  rintro e w5 ⟨u, rfl, ⟨gf, lb, rfl, hen, hsq⟩, hb5⟩
  obtain ⟨hL1, hL2, hL3, _⟩ := movesD_in HG.out.tab hn b0 b1 zs
  obtain ⟨L, hL⟩ : ∃ L, movesD ws F b0 b1 zs = L := ⟨_, rfl⟩
  rw [hL] at hL1 hL2 hL3 hsq ⊢
  have HL := Lib.hid hL
  have HL2 := Lib.hid hL2
  have HL3 := Lib.hid hL3
  have hDl : (encI L).length = L.length := by simp [encI]
  have HDl := Lib.hid hDl
  have HMEM : Hid (∀ x ∈ encI L, - 1099511627776000 ≤ x.2 ∧ x.2 ≤ 1099511627776000) := Lib.hid (fun x hx => by
    obtain ⟨y, hy, rfl⟩ := List.mem_map.1 hx
    exact (HL2.out y hy).2.2)
  obtain ⟨i0, hi, hz0, hz1, hz2⟩ := info_parts Gc.Try.infoInt
  have HI := Lib.hid hi
  have HZ0 := Lib.hid hz0
  have HZ1 := Lib.hid hz1
  have HZ2 := Lib.hid hz2
  have hz4 := HQ.out.2.2.2.2.2
  have hz5 := hb5.size
  have HB5 := Lib.hid hb5
  have HSq := Lib.hid (hsq 2)
  clear hL hL2 hL3 hDl hi hz0 hz1 hz2 hb5 hsq HMv k0 k1 HBX4 HBX2
  obtain ⟨D, hD⟩ : ∃ D, encI L = D := ⟨_, rfl⟩
  rw [hD] at HSq HMEM HDl
  have HD := Lib.hid hD
  clear hD
  go_wp2_with fail
  refine (wpIn_wide (n := 3)).1 ?_
  refine wpIn_rangeFunc_seqO rfl (by omega) (gf := gf) (lb := lb) rfl trivial hen HSq.out (by omega) (by omega) (Below.refl _ _) (fun _ => rfl)
    (fun hi pre W => ∃ (v : Value) (s : PsS), PaR A hi w2 pre v s.fell s.most s.few W ∧ PsBd pre s)
    (fun _ _ _ _ => False)
    (fun hi pre X Y row hs hg hr => by obtain ⟨v, s, hP, hS⟩ := hs; exact ⟨v, s, hP.turned hg (fun r e => ⟨by have := (hr r e).1; omega, (hr r e).2⟩), hS⟩)
    (fun c hi s X Y row hs _ _ => hs)
    (fun hi s X Y hs ht => by obtain ⟨v, t, hP, hS⟩ := hs; exact ⟨v, t, hP.mid (lo := w5.heap.size + 2) (by omega) ht, hS⟩)
    (fun hi W1 hW1 h1 h2 => ⟨_, ⟨0, 0, 0, 0⟩, ⟨heap_below (heap_below HQ.out.2.1 HB5.out (by omega)) hW1 (by omega), .inl ⟨rfl, rfl, _, rfl⟩, heap_below (heap_below HQ.out.2.2.1 HB5.out (by omega)) hW1 (by omega), heap_below (heap_below HQ.out.2.2.2.1 HB5.out (by omega)) hW1 (by omega), heap_below (heap_below HQ.out.2.2.2.2.1 HB5.out (by omega)) hW1 (by omega), (HQ.out.1.trans (HB5.out.mono (by omega))).trans (hW1.mono (by omega)), h1, by omega⟩, PsBd.nil⟩)
    (fun x a' W => a' = { tmps := #[.pointer (some ⟨g, 0, none⟩), .slice a len cap, .agg #[.int .i64 b0, .int .i64 b1], undef, undef, .pointer (some ⟨w.heap.size, 0, none⟩), .slice none 0 0, .int .i64 0, .slice pa len pc, .pointer (some ⟨A, 0, none⟩), .pointer (some ⟨A + 1, 0, none⟩), .pointer (some ⟨A + 1 + 1, 0, none⟩), .pointer (some ⟨A + 1 + 1 + 1, 0, none⟩), .int .i64 x.1, .int .i64 x.2, undef, undef, .slice a len cap, .slice pa len pc, .pointer (some ⟨g, 0, none⟩), .slice a len cap, .agg #[.int .i64 b0, .int .i64 b1], .func (.func gf) #[] lb, .int .i64 x.1, .int .i64 x.2, undef, undef, undef, undef, undef, undef, undef, undef, undef, undef, undef, undef, undef, undef, undef, undef, undef, undef, undef, undef, undef, undef, undef, undef, undef, undef, undef, undef, undef, undef, undef, undef], defers := [] })
    (fun x a' W l o o' hs hl ho hc => hs) ?assign ?body ?done ?stop
  case assign =>
    rintro l hi pre x W K ⟨v, s, hP, hS⟩ hK
    unfold encP
    gi_wp2
    exact hK _ _ (KeepsFrom.refl _ _) ⟨Below.refl _ _, Mid.refl _ _ _, Mid.refl _ _ _⟩ ⟨v, s, hP, hS⟩ rfl
  case body =>
    rintro l hi pre x a' W hlo hszW ⟨v, s, hP, hS⟩ rfl hpre
    have hpl : pre.length + 1 ≤ 1000 := by
      have := hpre.length_le
      rw [HDl.out] at this
      simp at this
      omega
    have hx : - 1099511627776000 ≤ x.2 ∧ x.2 ≤ 1099511627776000 := HMEM.out x (hpre.subset (by simp))
    obtain ⟨a6, cap6, rfl⟩ := hP.row.slice
    have c0 := hP.bx.cell
    have f0 := hP.bx.frozen
    have HP := Lib.hid hP
    have HS := Lib.hid hS
    have HHi := Lib.hid (And.intro hlo hszW)
    obtain ⟨x1, x2⟩ := x
    simp only at hx
    have hs := hS.fell
    have hsm := hS.most
    have hsf := hS.few
    have hsl := hS.len
    have HX := Lib.hid (hS.step (x := (x1, x2)) hx)
    have hStep : stepS s (0, x2) = if s.most < s.fell + x2 then ⟨s.fell + x2, s.fell + x2, s.len + 1, s.len + 1⟩ else ⟨s.fell + x2, s.most, s.few, s.len + 1⟩ := rfl
    simp only at HX
    rw [hStep] at HX
    clear hP hS hStep
    obtain ⟨sf, sm, sn, sl⟩ := s
    simp only at hs hsm hsf hsl HX HP c0 f0
    have hw1 : IntKind.i64.wrap (sf + x2) = sf + x2 := IntWalk.i64_in _ (by omega)
    by_cases hgt : sm < sf + x2
    · rw [if_pos hgt] at HX
      have hgd : decide (sm < sf + x2) = true := decide_eq_true hgt
      clear hgt
      gi_wp2_with (gi_at_builtin; refine wpListIn_append_gathO _ rfl _ _ 24 rfl hi 3 i0 (.int .i64 0) 1 8 Try.underlying24 HI.out HZ0.out HZ1.out HZ2.out rfl (by decide) _ _ _ rfl (gath_kept HP.out.row (World.grownBy_alloc W _ none) (fun r e => by cases e)) ⟨W.heap.size, 0, none⟩ 1 1 [.int .i64 x1] rfl rfl (cell_one W _ _) (one_val rfl) (by decide) (by unfold maxLen; omega) (by omega) (by simp; omega) ?_; intro v' w3 row hown hgrow hrow; obtain ⟨g5, cap5, rfl⟩ := ownsRow_succ hown; obtain ⟨hb1, hA1, hk1, ht1⟩ := HP.out.app (x := (x1, x2)) hown hgrow hrow; have c5 := hb1.cell; have f5 := hb1.frozen; have HA1 := Lib.hid hA1; have HKT := Lib.hid (And.intro hk1 ht1); have q1 := hA1.b1.cell; have p1 := hA1.b1.frozen; have HA2 := Lib.hid (hA1.fell (sf + x2)); have q2 := HA2.out.b1.cell; have q3 := HA2.out.b2.cell; clear hown hgrow hrow hb1 hA1 hk1 ht1)
      have hX := HA2.out.drew
      have hKT : KT A hi W ((w3.setCell ⟨A, 0, none⟩ (.slice (some ⟨g5, 0, none⟩) (pre.length + 1) cap5)).setCell ⟨A + 1, 0, none⟩ (.int .i64 (sf + x2))).drew := (KT.set HKT.out ⟨by omega, by omega⟩ _).drew
      refine region_round_T (fun X => X.cell? ⟨A + 1, 0, none⟩ = some (.int .i64 (sf + x2)) ∧ X.cell? ⟨A, 0, none⟩ = some (.slice (some ⟨g5, 0, none⟩) (pre.length + 1) cap5)) (fun _ => true) rfl (by kernel_rfl) rfl ?_
      change AnyT _ _ _ _ _ _ _ _ 5 _ _ (World.drew _)
      generalize ((w3.setCell ⟨A, 0, none⟩ (.slice (some ⟨g5, 0, none⟩) (pre.length + 1) cap5)).setCell ⟨A + 1, 0, none⟩ (.int .i64 (sf + x2))).drew = X at hX hKT ⊢
      clear c5 f5 q1 p1 q2 q3 HA1 HA2 HKT c0 f0
      refine AnyT.take (i := 0) (v := .int .i64 (sf + x2)) rfl rfl (by kernel_rfl) (by kernel_rfl) (by kernel_rfl) (by kernel_rfl) (by kernel_rfl) (fun _ _ _ h => h) (by kernel_rfl) (fun x hx => by have c := hx.1; go_simp) (fun _ => rfl) ⟨hX.b1.cell, hX.bx.cell⟩ ?_
      try simp only [List.getElem_toArray, List.getElem_cons_zero, List.getElem_cons_succ, Act.put, List.setIfInBounds_toArray, List.set_cons_zero, List.set_cons_succ]
      refine AnyT.take (i := 1) (v := (.slice (some ⟨g5, 0, none⟩) (pre.length + 1) cap5)) rfl rfl (by kernel_rfl) (by kernel_rfl) (by kernel_rfl) (by kernel_rfl) (by kernel_rfl) (fun _ _ _ h => h) (by kernel_rfl) (fun x hx => by have c := hx.2; go_simp) (fun _ => rfl) ⟨hX.b1.cell, hX.bx.cell⟩ ?_
      try simp only [List.getElem_toArray, List.getElem_cons_zero, List.getElem_cons_succ, Act.put, List.setIfInBounds_toArray, List.set_cons_zero, List.set_cons_succ]
      refine AnyT.take (i := 2) (v := .int .i64 ((pre.length : Int) + 1)) rfl rfl (by kernel_rfl) (by kernel_rfl) (by kernel_rfl) (by kernel_rfl) (by kernel_rfl) (fun _ _ _ h => h) (by kernel_rfl) (fun x hx => by go_simp) (fun _ => rfl) ⟨hX.b1.cell, hX.bx.cell⟩ ?_
      try simp only [List.getElem_toArray, List.getElem_cons_zero, List.getElem_cons_succ, Act.put, List.setIfInBounds_toArray, List.set_cons_zero, List.set_cons_succ]
      have fin : ∀ B, PaR A hi w2 (pre ++ [(x1, x2)]) (.slice (some ⟨g5, 0, none⟩) (pre.length + 1) cap5) (sf + x2) (sf + x2) (pre.length + 1) B → KT A hi W B → KeepsFrom w5.heap.size W B ∧ (Below w.heap.size W B ∧ Mid w4.heap.size w5.heap.size W B ∧ Mid (w5.heap.size + 2) hi W B) ∧ ∃ (v : Value) (s : PsS), PaR A hi w2 (pre ++ [(x1, x2)]) v s.fell s.most s.few B ∧ PsBd (pre ++ [(x1, x2)]) s := fun B hPB hKB => by
        obtain ⟨k1, k2, k3, k4⟩ := KT.fin hKB (b := w5.heap.size) (n₀ := w.heap.size) (lo := w4.heap.size) (up := w5.heap.size) (lo2 := w5.heap.size + 2) (by omega) (by omega) (by omega) (by omega) (by omega) (by omega)
        refine ⟨k1, ⟨k2, k3, k4⟩, .slice (some ⟨g5, 0, none⟩) (pre.length + 1) cap5, _, ?_, HX.out⟩
        rw [hsl]
        exact hPB
      have HFin := Lib.hid fin
      clear fin
      refine AnyT.ready (rs := [3]) (by kernel_rfl) (by simp) (ReadyT.cons rfl (fun K hK => ?_) ReadyT.nil)
      have c5 := hX.b2.cell
      have f5 := hX.b2.frozen
      go_simp
      have hX2 := hX.most (sf + x2)
      have hK2 := hKT.set (k := A + 1 + 1) ⟨by omega, by omega⟩ (.int .i64 (sf + x2))
      refine hK _ _ (fun _ => ⟨hX2.b1.cell, hX2.bx.cell⟩) ?_
      clear hK K c5 f5
      try simp only [List.getElem_toArray, List.getElem_cons_zero, List.getElem_cons_succ, Act.put, List.setIfInBounds_toArray, List.set_cons_zero, List.set_cons_succ]
      generalize X.setCell ⟨A + 1 + 1, 0, none⟩ (.int .i64 (sf + x2)) = X2 at hX2 hK2 ⊢
      refine AnyT.ready (rs := [4]) (by kernel_rfl) (by simp) (ReadyT.cons rfl (fun K hK => ?_) ReadyT.nil)
      have c5 := hX2.b3.cell
      have f5 := hX2.b3.frozen
      go_simp
      have hX3 := hX2.few (pre.length + 1)
      have hK3 := hK2.set (k := A + 1 + 1 + 1) ⟨by omega, by omega⟩ (.int .i64 ((pre.length + 1 : Nat) : Int))
      refine hK _ _ (fun _ => ⟨hX3.b1.cell, hX3.bx.cell⟩) ?_
      clear hK K c5 f5
      try simp only [List.getElem_toArray, List.getElem_cons_zero, List.getElem_cons_succ, Act.put, List.setIfInBounds_toArray, List.set_cons_zero, List.set_cons_succ]
      refine AnyT.done (by kernel_rfl) ?_ _
      have HE := Lib.hid (HFin.out _ hX3 hK3)
      clear hX hX2 hX3 hKT hK2 hK3 HFin
      gi_wp2
      exact HE.out
    · rw [if_neg hgt] at HX
      have hgd : decide (sm < sf + x2) = false := decide_eq_false hgt
      clear hgt
      gi_wp2_with (gi_at_builtin; refine wpListIn_append_gathO _ rfl _ _ 24 rfl hi 3 i0 (.int .i64 0) 1 8 Try.underlying24 HI.out HZ0.out HZ1.out HZ2.out rfl (by decide) _ _ _ rfl (gath_kept HP.out.row (World.grownBy_alloc W _ none) (fun r e => by cases e)) ⟨W.heap.size, 0, none⟩ 1 1 [.int .i64 x1] rfl rfl (cell_one W _ _) (one_val rfl) (by decide) (by unfold maxLen; omega) (by omega) (by simp; omega) ?_; intro v' w3 row hown hgrow hrow; obtain ⟨g5, cap5, rfl⟩ := ownsRow_succ hown; obtain ⟨hb1, hA1, hk1, ht1⟩ := HP.out.app (x := (x1, x2)) hown hgrow hrow; have c5 := hb1.cell; have f5 := hb1.frozen; have HA1 := Lib.hid hA1; have HKT := Lib.hid (And.intro hk1 ht1); have q1 := hA1.b1.cell; have p1 := hA1.b1.frozen; have HA2 := Lib.hid (hA1.fell (sf + x2)); have q2 := HA2.out.b1.cell; have q3 := HA2.out.b2.cell; clear hown hgrow hrow hb1 hA1 hk1 ht1)
      have hKT : KT A hi W ((w3.setCell ⟨A, 0, none⟩ (.slice (some ⟨g5, 0, none⟩) (pre.length + 1) cap5)).setCell ⟨A + 1, 0, none⟩ (.int .i64 (sf + x2))) := KT.set HKT.out ⟨by omega, by omega⟩ _
      obtain ⟨k1, k2, k3, k4⟩ := KT.fin hKT (b := w5.heap.size) (n₀ := w.heap.size) (lo := w4.heap.size) (up := w5.heap.size) (lo2 := w5.heap.size + 2) (by omega) (by omega) (by omega) (by omega) (by omega) (by omega)
      exact ⟨k1, ⟨k2, k3, k4⟩, _, _, HA2.out, HX.out⟩
  case done =>
    rintro E hi W hE ⟨v, s, hP, hS⟩ hK
    have hfit : ∀ n ∈ D.map (·.1), (Lit.int .i64 n).wf = true := fun n hn' => by
      obtain ⟨y, hy, rfl⟩ := List.mem_map.1 hn'
      rw [← HD.out] at hy
      obtain ⟨z, hz, rfl⟩ := List.mem_map.1 hy
      have := (HL2.out z hz).2.1
      exact wf_smallR z.1 (by omega)
    obtain ⟨a6, cap6, b6, rfl, hc6, _, hb6, hI6⟩ := hP.row.ints (by simp) hfit
    have hse : s = passS L := by rw [hS.eq, ← HD.out, psI_enc]
    have hfew := hS.few
    rw [hse] at hP hfew
    have HBe := Lib.hid hP.below
    have hsz6 := hP.size
    have hlt6 := hP.lt
    have c0 := hP.bx.cell
    have HC2 := Lib.hid hP.b2
    have c3 := hP.b3.cell
    obtain ⟨few, hfe⟩ : ∃ x, (passS L).few = x := ⟨_, rfl⟩
    rw [hfe] at hfew c3
    have HFe := Lib.hid hfe
    have hfc : (few : Int) ≤ (cap6 : Int) := by omega
    have hf0 : (0 : Int) ≤ (few : Int) := by omega
    have hI7 := hI6.take few hfew
    rw [hwhl] at HL2 HL3
    have hdl := HDl.out
    have HI6 : Hid (∀ j, j < few → W.cell? ⟨b6, j, none⟩ = some (.int .i64 ((L.getD j (0, 0)).1 : Int)) ∧ a6 = some ⟨b6, 0, none⟩ ∧ hi ≤ b6) := Lib.hid (fun j hj => by
      have h1 := hI7.cell j hj
      rw [Nat.zero_add, ← HD.out] at h1
      refine ⟨?_, hI7.addr.resolve_left (by omega), hb6.resolve_left (by omega)⟩
      rw [h1]
      have hjL : j < L.length := by omega
      simp [encI, List.getD_eq_getElem?_getD, List.getElem?_take, hj, hjL])
    have HR0 : Hid (BhR pb len zs L 0 W W) := Lib.hid ⟨by
      rw [List.take_zero]
      have hb : Below A w2 W := HBe.out
      exact HO2.out.below hb (by
        by_cases e : len = 0
        · exact .inl e
        · exact .inr (by have := HO2.out.lt (by omega); rw [HA.out] at this; exact this)), Turned.refl' _ _⟩
    have hpbA : len = 0 ∨ pb < A := by
      by_cases e : len = 0
      · exact .inl e
      · exact .inr (by have := HO2.out.lt (by omega); rw [HA.out] at this; exact this)
    have HPb := Lib.hid hpbA
    have hpba := HI2.out.addr
    have HK := Lib.hid hK
    have HTw : Hid (L = [] ∨ twoM len (mOf zs)) := Lib.hid (HL3.out.imp id (fun h => by rw [show len = ws.length from h.1]; exact h.2))
    clear hI6 hI7 hb6 hP hS hse hfe hfit hpbA hK HSq HL3
    have hfL : few ≤ L.length := by omega
    have HDe := Lib.hid hdl
    go_wp2
    clear c0 c3 hdl
    go_loopw [42] (fun i wr => ∃ j : Nat, i = .int .i64 j ∧ j ≤ few ∧ Hid (BhR pb len zs L j W wr)) (fun i _ => few - (intOf i).toNat)
    case atStart => exact ⟨0, rfl, Nat.zero_le _, HR0⟩
    case round =>
      clear HR0
      obtain ⟨j, rfl, hj, HR⟩ := hrel
      by_cases hlt : j < few
      · have hjf : (j : Int) < (few : Int) := by omega
        have hjL : j < L.length := by omega
        obtain ⟨q1, q2, q3⟩ := HI6.out j hlt
        have hib := (HL2.out L[j] (List.getElem_mem hjL)).1
        have hpb := HPb.out.resolve_left (by omega)
        have hpa := hpba.resolve_left (by omega)
        have hst := HR.out.turned
        have cb : wr.cell? ⟨b6, j, none⟩ = some (.int .i64 (L[j].1 : Int)) := by
          have hlb := World.block_lt_of_cell? _ _ q1
          rw [World.cell?_of_block (w := W) (hst.block b6 hlb (fun e => by have := e.1; omega)), q1, List.getD_eq_getElem?_getD, List.getElem?_eq_getElem hjL]
          rfl
        have cm := HR.out.row.cell hib
        have fm := HR.out.row.frozen (by omega) L[j].1
        have h2 : (behindL zs (L.take j)).getD L[j].1 0 = 0 ∨ (behindL zs (L.take j)).getD L[j].1 0 = 1 := by
          rcases HTw.out with e | e
          · rw [e] at hjL; simp at hjL
          · exact behindL_two (n := len) (L.take j) zs hwhl e (fun x hx => (HL2.out x (List.mem_of_mem_take hx)).1) _ hib
        have HR1 := Lib.hid (HR.out.step hwhl hjL hib)
        generalize (behindL zs (L.take j)).getD L[j].1 0 = mm at *
        obtain ⟨ii, hii⟩ : ∃ ii, L[j].1 = ii := ⟨_, rfl⟩
        rw [hii] at hib cb cm fm HR1
        have hi1 : (ii : Int) < (len : Int) := by omega
        have hi0 : (0 : Int) ≤ (ii : Int) := by omega
        have hw0 : IntKind.i64.wrap (1 - mm) = 1 - mm := IntWalk.i64_in _ (by rcases h2 with rfl | rfl <;> omega)
        rw [q2, hpa]
        clear q1 h2 hii hst hib HR
        go_wp2
        go_roundw
        case rel => exact ⟨j + 1, by go_num, by omega, HR1⟩
        case measure => simp [intOf]; omega
      · obtain rfl : j = few := by omega
        have hst := HR.out.turned
        have hne : ∀ k, A ≤ k → ¬ (k = pb ∧ len ≠ 0) := fun k hk e => by
          have := HPb.out.resolve_left e.2
          omega
        have HC2' := Lib.hid (show Boxed wr (A + 1 + 1) 2 (.int .i64 (passS L).most) from hst.old HC2.out (hne _ (by omega)))
        have c2 := HC2'.out.cell
        have HK2 := Lib.hid (hst.old HK.out (hne _ (by omega)))
        have HT := Lib.hid hst
        clear hst
        go_wp2
        go_quiet (fail)
        obtain ⟨w9, hw9⟩ : ∃ w9, wr.drewN nq = w9 := ⟨_, rfl⟩
        have hK9 : w9.heap[E]? = some (.deferred (some [])) := by rw [← hw9]; exact HK2.out
        have hR9 : OwR w9 pb 3 len (fun i => .int .i64 ((behindL zs (L.take j)).getD i 0)) := by rw [← hw9]; exact ⟨HR.out.row.row⟩
        have hT9 : Turned (fun k => k = pb ∧ len ≠ 0) W w9 := by rw [← hw9]; exact ⟨HT.out.os, HT.out.tape, HT.out.output, HT.out.size, HT.out.block⟩
        rw [hw9]
        have HK9 := Lib.hid hK9
        have HR9 := Lib.hid hR9
        have HT9 := Lib.hid hT9
        clear hw9 hK9 hR9 hT9 HR HT HC2' c2 HK2
        go_wp2
        refine ⟨by simp, .inl ⟨_, _, rfl, run_takeDeferred HK9.out, ?_⟩⟩
        rw [HL.out]
        have hfin := HR9.out.turned (R := fun k => k = E) ⟨(grownBy_putObj' w9 E (.deferred none)).os, (grownBy_putObj' w9 E (.deferred none)).tape, (grownBy_putObj' w9 E (.deferred none)).output, (grownBy_putObj' w9 E (.deferred none)).size, fun k hk hn' => (grownBy_putObj' w9 E (.deferred none)).block k hk (fun e => hn' (by cases e; rfl))⟩ (HPb.out.imp id (fun g => by omega))
        have hzb : (behindL zs (L.take j)).length = len := by rw [behindL_length]; exact hwhl
        refine ⟨_, by simp [results, Try.f29, go_sem]; rfl, pa, pb, pc, by rw [hwhl], ?_, ?_, by rw [hwhl]; exact HNn.out, ?_⟩
        · rw [hwhl]
          unfold passP
          rw [HFe.out]
          refine ⟨hpba, hzb, by unfold maxLen; omega, ?_, fun i hi' => by rw [Nat.zero_add]; exact hfin.cell hi', fun n hn' => ?_⟩
          · by_cases e : len = 0
            · exact .inl e
            · exact .inr (hfin.lt (by omega))
          · rcases HTw.out with e | e
            · rw [e] at hn'
              exact HP.out.fits n (by simpa [behindL] using hn')
            · obtain ⟨i, hi', rfl⟩ := List.getElem_of_mem hn'
              rw [hzb] at hi'
              have := behindL_two (n := len) (L.take j) zs hwhl e (fun x hx => (HL2.out x (List.mem_of_mem_take hx)).1) i hi'
              unfold mOf at this
              rw [List.getD_eq_getElem?_getD, List.getElem?_eq_getElem (by omega)] at this
              simp only [Option.getD_some] at this
              rcases this with e2 | e2 <;> rw [e2] <;> decide
        · rw [hwhl]
          exact HNew.out.imp id (fun g => Nat.le_trans HB1.out.size g)
        · have h1 : Below w.heap.size w W := HB2.out.trans (HBe.out.mono hwA)
          have h2 : Below w.heap.size W w9 := ⟨HT9.out.os, HT9.out.tape, HT9.out.output, HT9.out.size, fun k hk => HT9.out.block k (Nat.lt_of_lt_of_le hk h1.size) (fun e => by
            have := HNew.out.resolve_left e.2
            have := HB1.out.size
            omega)⟩
          exact (h1.trans h2).trans (belowK_b (w := w) (Nat.le_refl _) _ E _ _ (by omega) HK9.out rfl rfl)
  case stop =>
    rintro E hi c pre W hD hpre h hK
    exact h.elim
end Go.Proofs.Ytjpgkocffceeoaa

namespace Go.Proofs.Ytjpgkocffceeoaa
open Go.RowKit Rk

theorem movesM_take (n : Nat) (F : Nat → Nat → Int) (ws : Nat → Int) (b : Int → Int) : ∀ (k j : Nat) (m : Nat → Int) (mv : Nat → Bool), j ≤ k → (movesM n F ws b k m mv).take j = movesM n F ws b j m mv
  | k, 0, m, mv, _ => by simp [movesM]
  | 0, j + 1, m, mv, h => by omega
  | k + 1, j + 1, m, mv, h => by
    unfold movesM
    cases hb : bestM (mayM ws m mv (hvM n ws m) b) (tG n F m) n with
    | none => simp
    | some i =>
      simp only [List.take_succ_cons]
      rw [movesM_take n F ws b k j _ _ (by omega)]
theorem passS_few {L : List (Nat × Int)} : (passS L).few ≤ L.length ∧ 0 ≤ (passS L).most ∧ (passS L).most = ((L.take (passS L).few).map (·.2)).sum := by
  have h := passS_take L L.length (Nat.le_refl _)
  rw [List.take_length] at h
  exact ⟨h.2.2.1, h.2.2.2.2, h.2.2.2.1⟩
theorem passS_zero : ∀ (L : List (Nat × Int)) (k : Nat), k ≤ L.length → ((passS (L.take k)).most = 0 → (passS (L.take k)).few = 0) := fun L k => by
  induction k with
  | zero => intro _ _; simp [passS]
  | succ k ih =>
    intro hk h0
    have hx : L.take (k + 1) = L.take k ++ [L[k]] := by rw [List.take_succ_eq_append_getElem (by omega)]
    have hs : passS (L.take (k + 1)) = stepS (passS (L.take k)) L[k] := by rw [hx, passS_snoc]
    have hp := (passS_take L k (by omega)).2.2.2.2
    rw [hs] at h0 ⊢
    unfold stepS at h0 ⊢
    split at h0
    · rename_i h6
      simp only at h0
      omega
    · rename_i h6
      rw [if_neg h6]
      exact ih (by omega) h0
theorem passP_zero {ms : List Int} {L : List (Nat × Int)} (h : (passS L).most = 0) : passP ms L = ms := by
  have := passS_zero L L.length (Nat.le_refl _)
  rw [List.take_length] at this
  unfold passP
  rw [this h]
  rfl
/-- What is cut. -/
def cutE (n : Nat) (F : Nat → Nat → Int) (ms : List Int) : Int := cuS ms (edgesD n F)
theorem cutE_pos {n : Nat} {F : Nat → Nat → Int} (h : Tab n F) (ms : List Int) : 0 ≤ cutE n F ms := by
  refine (cuS_bd ms (edgesD n F) (fun x hx => ?_)).1
  obtain ⟨a, b, _, _, _, rfl, h0⟩ := mem_upTo n hx
  exact ⟨by show 0 ≤ F a b; omega, h.hi a b⟩
theorem pass_cut {ws : List Int} {F : Nat → Nat → Int} (h : Tab ws.length F) (hn : ws.length ≤ 1000) (b0 b1 : Int) (ms : List Int) :
    cutE ws.length F ms - cutE ws.length F (passP ms (movesD ws F b0 b1 ms)) = (passS (movesD ws F b0 b1 ms)).most := by
  obtain ⟨_, _, h3, _⟩ := movesD_in h hn b0 b1 ms
  obtain ⟨k1, k2, k3⟩ := passS_few (L := movesD ws F b0 b1 ms)
  rcases h3 with e | ⟨hl, h2⟩
  · rw [e]
    simp [passP, passS, behindL]
  · rw [k3]
    unfold passP
    have hm : movesD ws F b0 b1 ms = [] ∨ movesD ws F b0 b1 ms = movD ws F (bF b0 b1) ms := by
      unfold movesD
      split
      · exact .inl rfl
      · exact .inr rfl
    rcases hm with e | e
    · rw [e]; simp [passS, behindL]
    · rw [e] at k1 ⊢
      have hL := movesM_length ws.length F (wsF ws) (bF b0 b1) ws.length (mOf ms) (fun _ => false)
      have ht := movesM_take ws.length F (wsF ws) (bF b0 b1) ws.length (passS (movD ws F (bF b0 b1) ms)).few (mOf ms) (fun _ => false) (Nat.le_trans k1 hL)
      have hc := moves_cut h (wsF ws) (bF b0 b1) (passS (movD ws F (bF b0 b1) ms)).few ms (fun _ => false) hl h2
      rw [← ht] at hc
      exact hc
/-- Passes, until one gains nothing. -/
inductive Ends (ws : List Int) (F : Nat → Nat → Int) (b0 b1 : Int) : List Int → List Int → Prop
  | stop {ms : List Int} : (passS (movesD ws F b0 b1 ms)).most = 0 → Ends ws F b0 b1 ms ms
  | go {ms q : List Int} : (passS (movesD ws F b0 b1 ms)).most ≠ 0 → Ends ws F b0 b1 (passP ms (movesD ws F b0 b1 ms)) q → Ends ws F b0 b1 ms q
theorem Ends.one {ws : List Int} {F : Nat → Nat → Int} {b0 b1 : Int} {ms q q' : List Int} (h : Ends ws F b0 b1 ms q) (h' : Ends ws F b0 b1 ms q') : q = q' := by
  induction h with
  | stop h0 =>
    cases h' with
    | stop _ => rfl
    | go h1 _ => exact absurd h0 h1
  | go h0 _ ih =>
    cases h' with
    | stop h1 => exact absurd h1 h0
    | go _ h2 => exact ih h2
theorem Ends.last {ws : List Int} {F : Nat → Nat → Int} {b0 b1 : Int} {ms q : List Int} (h : Ends ws F b0 b1 ms q) : (passS (movesD ws F b0 b1 q)).most = 0 := by
  induction h with
  | stop h0 => exact h0
  | go _ _ ih => exact ih
theorem passP_length (ms : List Int) (L : List (Nat × Int)) : (passP ms L).length = ms.length := behindL_length _ _
theorem Ends.length {ws : List Int} {F : Nat → Nat → Int} {b0 b1 : Int} {ms q : List Int} (h : Ends ws F b0 b1 ms q) : q.length = ms.length := by
  induction h with
  | stop h0 => rfl
  | go _ _ ih => rw [ih, passP_length]
end Go.Proofs.Ytjpgkocffceeoaa

namespace Go.Proofs.Ytjpgkocffceeoaa
open Go.RowKit Go.Shelf Rk

attribute [local go_sem] Oper.semAt_some

def RefPost (ws : List Int) (F : Nat → Nat → Int) (b0 b1 : Int) (w : World) (zs : List Int) (e : Ending) (w' : World) : Prop :=
  ∃ pa pb pc q, e = .returned (.slice pa zs.length pc) ∧ Ends ws F b0 b1 zs q ∧ IntsAt .i64 w'.heap.size w' pa pb 0 zs.length q ∧ (zs.length = 0 ∨ w.heap.size ≤ pb) ∧ (pa = none → zs.length = 0 ∧ pc = 0) ∧ Below w.heap.size w w'
/-- Between two passes. -/
structure RfR (w : World) (ws : List Int) (F : Nat → Nat → Int) (b0 b1 : Int) (zs : List Int) (a : Option Addr) (b off cap : Nat) (ms : List Int) (W : World) : Prop where
  part : IntsAt .i64 W.heap.size W a b off zs.length ms
  pnil : a = none → zs.length = 0 ∧ cap = 0
  ends : ∀ q, Ends ws F b0 b1 ms q → Ends ws F b0 b1 zs q
  box : W.heap[w.heap.size]? = some (.cells #[.int .i64 b0, .int .i64 b1] 46 (0, 0))
  below : Below w.heap.size w W
set_option maxRecDepth 100000 in
set_option maxHeartbeats 4000000 in
theorem refine_any {w : World} {g nb : Nat} {ws : List Int} {F : Nat → Nat → Int} (h0 : IsG w g nb ws F) (hn : ws.length ≤ 1000) {a : Option Addr} {b off cap : Nat} {zs : List Int} (hp : IntsAt .i64 w.heap.size w a b off zs.length zs) (hpn : a = none → zs.length = 0 ∧ cap = 0) (hlen : zs.length ≤ 65536) (b0 b1 : Int) :
    Calls Try.prog 31 #[.pointer (some ⟨g, 0, none⟩), .slice a zs.length cap, .agg #[.int .i64 b0, .int .i64 b1]] w (RefPost ws F b0 b1 w zs) := by
  have hb1 : Below w.heap.size w (w.alloc (.cells #[.int .i64 b0, .int .i64 b1] 46)) := (Below.refl _ w).alloc (Nat.le_refl _) _
  have HR0 : Hid (RfR w ws F b0 b1 zs a b off cap zs (w.alloc (.cells #[.int .i64 b0, .int .i64 b1] 46))) := Lib.hid ⟨(hp.kept hb1 (Nat.le_refl _)).mono hb1.size, hpn, fun q h => h, heap_new (w := w) _ rfl, hb1⟩
  have HG := Lib.hid h0
  clear hb1 hp hpn h0
  refine (callsIn_wide (n := 3)).1 ?_
  refine callsIn_of_wp Try.func31 rfl trivial ?_ rfl
  simp only [Try.ntmps31, List.size_toArray, List.length_cons, List.length_nil, Nat.reduceAdd, Nat.reduceSub, Array.replicate_succ, Array.replicate_zero, List.push_toArray, List.append_toArray, List.nil_append, List.cons_append]
  gi_wp2_with fail
  generalize (w.alloc (.cells #[.int .i64 b0, .int .i64 b1] 46)) = w1 at *
  refine wpIn_loop_ghost (fun gh ac wr => ∃ (a : Option Addr) (b off cap : Nat) (ms : List Int) (u7 u8 u9 u10 u11 u12 u13 u14 u15 u16 u17 u18 u19 : Value), gh = (cutE ws.length F ms).toNat ∧ Hid (RfR w ws F b0 b1 zs a b off cap ms wr) ∧ ac = { tmps := #[.pointer (some ⟨g, 0, none⟩), .slice a zs.length cap, .agg #[.int .i64 b0, .int .i64 b1], undef, undef, .pointer (some ⟨w.heap.size, 0, none⟩), .slice none 0 0, u7, u8, u9, u10, u11, u12, u13, u14, u15, u16, u17, u18, u19], defers := [] }) (cutE ws.length F zs).toNat ?_ ?_
  · exact ⟨_, _, _, _, _, _, _, _, _, _, _, _, _, _, _, _, _, _, rfl, HR0, rfl⟩
  · rintro gh ac wr ⟨a, b, off, cap, ms, u7, u8, u9, u10, u11, u12, u13, u14, u15, u16, u17, u18, u19, rfl, HR, rfl⟩
    clear HR0
    have HPs := Lib.hid (pass_any (cap := cap) (HG.out.below HR.out.below) hn HR.out.part HR.out.pnil hlen b0 b1)
    have hml := HR.out.part.length
    have hct := pass_cut HG.out.tab hn b0 b1 ms
    have hps := cutE_pos HG.out.tab (passP ms (movesD ws F b0 b1 ms))
    have hmp := (passS_few (L := movesD ws F b0 b1 ms)).2.1
    have HZe := Lib.hid (passP_zero (ms := ms) (L := movesD ws F b0 b1 ms))
    have HSt := Lib.hid (Ends.stop (ws := ws) (F := F) (b0 := b0) (b1 := b1) (ms := ms))
    have HGo := Lib.hid (fun q => Ends.go (ws := ws) (F := F) (b0 := b0) (b1 := b1) (ms := ms) (q := q))
    have k0 := heap_cell HR.out.box (i := 0) rfl
    have k1 := heap_cell HR.out.box (i := 1) rfl
    simp only [List.getElem_toArray, List.getElem_cons_zero, List.getElem_cons_succ] at k0 k1
    unfold PassPost at HPs
    generalize passP ms (movesD ws F b0 b1 ms) = ps at *
    generalize (passS (movesD ws F b0 b1 ms)).most = mo at *
    have HCt := Lib.hid hct
    have HPs0 := Lib.hid hps
    have HMl := Lib.hid hml
    clear hct hps hml
    gi_wp2_with fail
    refine ⟨trivial, (callsIn_wide.2 HPs.out).mono ?_⟩
    rintro e w3 ⟨pa, pb, pc, rfl, hI, hlo, hnn, hb3⟩
    rw [HMl.out] at hI hlo hnn ⊢
    have hB3 := HR.out.below.trans (hb3.mono HR.out.below.size)
    have hbx3 := heap_below HR.out.box hb3 (heap_lt HR.out.box)
    by_cases hz : mo = 0
    · subst hz
      have HE : Hid (RefPost ws F b0 b1 w zs (.returned (.slice pa zs.length pc)) w3) := Lib.hid ⟨pa, pb, pc, ms, rfl, HR.out.ends _ (HSt.out rfl), by rw [HZe.out rfl] at hI; exact hI, hlo.imp id (fun g => Nat.le_trans HR.out.below.size g), hnn, hB3⟩
      clear hI hlo hnn hb3 hB3 hbx3 HPs HSt HGo HZe HCt HPs0 k0 k1
      gi_wp2
      refine bodyPost_ret (results_tmp rfl _ _ _) rfl ?_
      exact HE.out
    · have hzb : ((mo : Int) == 0) = false := by simpa using hz
      have hR3 : RfR w ws F b0 b1 zs pa pb 0 pc ps w3 := ⟨hI, hnn, fun q h => HR.out.ends _ (HGo.out q hz h), hbx3, hB3⟩
      have hlt : (cutE ws.length F ps).toNat < (cutE ws.length F ms).toNat := by
        have := HCt.out
        have := HPs0.out
        omega
      have HR3 := Lib.hid hR3
      clear hI hlo hnn hb3 hB3 hbx3 HPs HSt HGo HZe HCt HPs0 k0 k1 hR3 hz
      gi_wp2
      exact ⟨_, hlt, _, _, _, _, _, _, _, _, _, _, _, _, _, _, _, _, _, _, rfl, HR3, rfl⟩
end Go.Proofs.Ytjpgkocffceeoaa
