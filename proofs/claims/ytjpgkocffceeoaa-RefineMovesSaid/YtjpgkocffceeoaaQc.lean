/- Contract: the reference's New. -/
import Derived.Test.YtjpgkocffceeoaaQb
import Derived.Test.YtjpgkocffceeoaaAw
import Derived.Deep.DeepCutAuto
import Derived.Deep.RegionLaw
set_option linter.unusedVariables false
set_option linter.unusedSectionVars false
namespace Go.Proofs.Ytjpgkocffceeoaa
open Go.RowKit Rk

theorem xown_block {w : World} {base : Nat} {e : TypeId} {size : Nat} {v : Value} {n : Nat} {xs : List Value} (h : w.ownsRow base e size v n xs) {g : Nat} (hg : v.ownBlock = some g) : base ≤ g ∧ ∃ cur, w.heap[g]? = some (.cells cur e (0, 0)) := by
  rcases h.2 with ⟨rfl, _⟩ | ⟨g', cap, cur, rfl, hb, hgb, _⟩
  · simp [Value.ownBlock] at hg
  · obtain rfl : g' = g := by simpa [Value.ownBlock] using hg
    exact ⟨hb, cur, hgb⟩
theorem xown_kept {A B : World} {base : Nat} {e : TypeId} {size : Nat} {v : Value} {n : Nat} {xs : List Value} {row : Option Nat} (h : A.ownsRow base e size v n xs) (hg : A.grownBy B row) (hr : ∀ r, row = some r → ∀ cur, A.heap[r]? ≠ some (.cells cur e (0, 0))) : B.ownsRow base e size v n xs := by
  refine h.kept hg ?_
  cases ho : v.ownBlock with
  | none => exact .inl rfl
  | some g =>
    refine .inr fun e' => ?_
    obtain ⟨_, cur, hc⟩ := xown_block h ho
    exact hr g e'.symm cur hc
theorem xown_slice {A : World} {base : Nat} {e : TypeId} {size : Nat} {v : Value} {n : Nat} {xs : List Value} (h : A.ownsRow base e size v n xs) : ∃ a cap, v = .slice a n cap ∧ n ≤ cap ∧ (n = 0 ∨ ∃ g, a = some ⟨g, 0, none⟩) := by
  rcases h.2 with ⟨rfl, rfl⟩ | ⟨g, cap, cur, rfl, _, _, hc, _⟩
  · exact ⟨none, 0, rfl, Nat.le_refl _, .inl rfl⟩
  · exact ⟨_, cap, rfl, hc, .inr ⟨g, rfl⟩⟩
def rowVals (n : Nat) (rows : Nat → Nat) (k : Nat) : List Value := (List.range k).map (fun a => Value.slice (some ⟨rows a, 0, none⟩) n n)
theorem rowVals_succ (n : Nat) (rows : Nat → Nat) (k : Nat) : rowVals n rows (k + 1) = rowVals n rows k ++ [.slice (some ⟨rows k, 0, none⟩) n n] := by simp [rowVals, List.range_succ]
theorem rowVals_congr {n : Nat} {rows rows' : Nat → Nat} {k : Nat} (h : ∀ a, a < k → rows a = rows' a) : rowVals n rows k = rowVals n rows' k := by
  unfold rowVals
  exact List.map_congr_left fun a ha => by rw [h a (List.mem_range.1 ha)]
/-- While the table is laid: kw weights, kr rows. -/
structure NxR (w : World) (Bg Br n kw kr : Nat) (zs : List Int) (wv rv : Value) (rows : Nat → Nat) (W : World) : Prop where
  gbox : W.heap[Bg]? = some (.cells #[wv, rv] 29 (0, 0))
  res : ∃ x y, W.heap[Br]? = some (.cells #[x, y] 29 (0, 0))
  wown : W.ownsRow w.heap.size 2 1 wv kw (ivals .i64 (zs.take kw))
  rown : W.ownsRow w.heap.size 22 1 rv kr (rowVals n rows kr)
  row : ∀ a, a < kr → w.heap.size ≤ rows a ∧ some (rows a) ≠ wv.ownBlock ∧ W.heap[rows a]? = some (.cells (rowC n (noTab a)) 2 (0, 0))
  inj : ∀ a b, a < kr → b < kr → rows a = rows b → a = b
  below : Below w.heap.size w W
section
variable {w W w5 : World} {Bg Br n kw kr : Nat} {zs : List Int} {wv rv : Value} {rows : Nat → Nat}
theorem NxR.on (h : NxR w Bg Br n kw kr zs wv rv rows W) (hb : Below W.heap.size W w5) : NxR w Bg Br n kw kr zs wv rv rows w5 :=
  ⟨heap_below h.gbox hb (heap_lt h.gbox), (by obtain ⟨x, y, hr⟩ := h.res; exact ⟨x, y, heap_below hr hb (heap_lt hr)⟩), xown_kept h.wown (grown_below hb none) (fun r e => by cases e), xown_kept h.rown (grown_below hb none) (fun r e => by cases e),
    fun a ha => ⟨(h.row a ha).1, (h.row a ha).2.1, heap_below (h.row a ha).2.2 hb (heap_lt (h.row a ha).2.2)⟩, h.inj, h.below.trans (hb.mono h.below.size)⟩
theorem NxR.box5 (h : NxR w Bg Br n kw kr zs wv rv rows W) (hg : W.grownBy w5 wv.ownBlock ∨ W.grownBy w5 rv.ownBlock) : w5.heap[Bg]? = some (.cells #[wv, rv] 29 (0, 0)) := by
  rcases hg with hg | hg
  · exact heap_kept h.gbox hg (fun e => by obtain ⟨_, cur, hc⟩ := xown_block h.wown e.symm; rw [h.gbox] at hc; cases hc)
  · exact heap_kept h.gbox hg (fun e => by obtain ⟨_, cur, hc⟩ := xown_block h.rown e.symm; rw [h.gbox] at hc; cases hc)
theorem NxR.weights (h : NxR w Bg Br n kw kr zs wv rv rows W) (hne : Bg ≠ Br) (hBg : w.heap.size ≤ Bg) {x : Int} (hx : zs.take (kw + 1) = zs.take kw ++ [x]) {g cap : Nat}
    (hown : w5.ownsRow w.heap.size 2 1 (.slice (some ⟨g, 0, none⟩) (kw + 1) cap) (kw + 1) (ivals .i64 (zs.take kw) ++ [.int .i64 x])) (hg : W.grownBy w5 wv.ownBlock) (hw : wv.ownBlock = some g ∨ W.heap.size ≤ g) :
    NxR w Bg Br n (kw + 1) kr zs (.slice (some ⟨g, 0, none⟩) (kw + 1) cap) rv rows (w5.setCell ⟨Bg, 0, none⟩ (.slice (some ⟨g, 0, none⟩) (kw + 1) cap)) := by
  have ty : ∀ r, wv.ownBlock = some r → ∃ cur, W.heap[r]? = some (.cells cur 2 (0, 0)) := fun r e => (xown_block h.wown e).2
  have n1 : some Bg ≠ wv.ownBlock := fun e => by obtain ⟨cur, hc⟩ := ty Bg e.symm; rw [h.gbox] at hc; cases hc
  obtain ⟨rx, ry, hres⟩ := h.res
  have n2 : some Br ≠ wv.ownBlock := fun e => by obtain ⟨cur, hc⟩ := ty Br e.symm; rw [hres] at hc; cases hc
  have g5 := heap_kept h.gbox hg n1
  have r5 := heap_kept hres hg n2
  have hset := grown_set w5 Bg 0 (.slice (some ⟨g, 0, none⟩) (kw + 1) cap)
  have tyB : ∀ (e : TypeId), e ≠ 29 → ∀ r, some Bg = some r → ∀ cur, w5.heap[r]? ≠ some (.cells cur e (0, 0)) := fun e he r er cur hc => by
    cases er; rw [g5] at hc; injection hc with hc; injection hc with _ ht; exact he ht.symm
  have ro5 : w5.ownsRow w.heap.size 22 1 rv kr (rowVals n rows kr) := xown_kept h.rown hg (fun r e cur hc => by
    obtain ⟨cur', hc'⟩ := ty r e
    rw [hc] at hc'; injection hc' with hc'; injection hc' with _ ht; exact absurd ht (by decide))
  refine ⟨by have := heap_set g5 0 (.slice (some ⟨g, 0, none⟩) (kw + 1) cap); simpa using this, ⟨rx, ry, heap_other r5 (Ne.symm hne) _ _⟩, ?_, xown_kept ro5 hset (tyB _ (by decide)), fun a ha => ?_, h.inj, ?_⟩
  · rw [hx, ivals_snoc]
    exact xown_kept hown hset (tyB _ (by decide))
  · obtain ⟨h1, h2, h3⟩ := h.row a ha
    have h3' := heap_kept h3 hg h2
    refine ⟨h1, fun e => ?_, heap_other h3' (fun e => ?_) _ _⟩
    · simp [Value.ownBlock] at e
      rcases hw with hw | hw
      · exact h2 (by rw [hw, e])
      · have := heap_lt h3; omega
    · rw [e, g5] at h3'; injection h3' with h3'; injection h3' with _ ht; exact absurd ht (by decide)
  · exact (h.below.grown hg h.below.size (fun k e => (xown_block h.wown e).1)).setCell (p := ⟨Bg, 0, none⟩) hBg _
theorem NxR.rowed (h : NxR w Bg Br n kw kr zs wv rv rows W) (hne : Bg ≠ Br) (hBg : w.heap.size ≤ Bg) {rb : Nat} (hrb : W.heap[rb]? = some (.cells (rowC n (noTab kr)) 2 (0, 0))) (hrl : w.heap.size ≤ rb) (hrw : some rb ≠ wv.ownBlock) (hri : ∀ a, a < kr → rows a ≠ rb) {g cap : Nat}
    (hown : w5.ownsRow w.heap.size 22 1 (.slice (some ⟨g, 0, none⟩) (kr + 1) cap) (kr + 1) (rowVals n rows kr ++ [.slice (some ⟨rb, 0, none⟩) n n])) (hg : W.grownBy w5 rv.ownBlock) (hw : rv.ownBlock = some g ∨ W.heap.size ≤ g) :
    NxR w Bg Br n kw (kr + 1) zs wv (.slice (some ⟨g, 0, none⟩) (kr + 1) cap) (fun a => if a = kr then rb else rows a) (w5.setCell ⟨Bg, 1, none⟩ (.slice (some ⟨g, 0, none⟩) (kr + 1) cap)) := by
  have ty : ∀ r, rv.ownBlock = some r → ∃ cur, W.heap[r]? = some (.cells cur 22 (0, 0)) := fun r e => (xown_block h.rown e).2
  have n1 : some Bg ≠ rv.ownBlock := fun e => by obtain ⟨cur, hc⟩ := ty Bg e.symm; rw [h.gbox] at hc; cases hc
  obtain ⟨rx, ry, hres⟩ := h.res
  have n2 : some Br ≠ rv.ownBlock := fun e => by obtain ⟨cur, hc⟩ := ty Br e.symm; rw [hres] at hc; cases hc
  have g5 := heap_kept h.gbox hg n1
  have r5 := heap_kept hres hg n2
  have hset := grown_set w5 Bg 1 (.slice (some ⟨g, 0, none⟩) (kr + 1) cap)
  have tyB : ∀ (e : TypeId), e ≠ 29 → ∀ r, some Bg = some r → ∀ cur, w5.heap[r]? ≠ some (.cells cur e (0, 0)) := fun e he r er cur hc => by
    cases er; rw [g5] at hc; injection hc with hc; injection hc with _ ht; exact he ht.symm
  have wo5 : w5.ownsRow w.heap.size 2 1 wv kw (ivals .i64 (zs.take kw)) := xown_kept h.wown hg (fun r e cur hc => by
    obtain ⟨cur', hc'⟩ := ty r e
    rw [hc] at hc'; injection hc' with hc'; injection hc' with _ ht; exact absurd ht (by decide))
  have keep : ∀ (r : Nat) (c : Array Value), W.heap[r]? = some (.cells c 2 (0, 0)) → (w5.setCell ⟨Bg, 1, none⟩ (.slice (some ⟨g, 0, none⟩) (kr + 1) cap)).heap[r]? = some (.cells c 2 (0, 0)) := fun r c hr => by
    have hr5 := heap_kept hr hg (fun e => by obtain ⟨cur, hc⟩ := ty r e.symm; rw [hr] at hc; injection hc with hc; injection hc with _ ht; exact absurd ht (by decide))
    refine heap_other hr5 (fun e => ?_) _ _
    rw [e, g5] at hr5; injection hr5 with hr5; injection hr5 with _ ht; exact absurd ht (by decide)
  refine ⟨by have := heap_set g5 1 (.slice (some ⟨g, 0, none⟩) (kr + 1) cap); simpa using this, ⟨rx, ry, heap_other r5 (Ne.symm hne) _ _⟩, xown_kept wo5 hset (tyB _ (by decide)), ?_, fun a ha => ?_, fun a b ha hb e => ?_, ?_⟩
  · rw [rowVals_succ, if_pos rfl, rowVals_congr (rows' := rows) (fun a ha => by rw [if_neg (by omega)])]
    exact xown_kept hown hset (tyB _ (by decide))
  · by_cases e : a = kr
    · subst e
      simp only [if_pos]
      exact ⟨hrl, hrw, keep _ _ hrb⟩
    · simp only [if_neg e]
      obtain ⟨h1, h2, h3⟩ := h.row a (by omega)
      exact ⟨h1, h2, keep _ _ h3⟩
  · by_cases e1 : a = kr <;> by_cases e2 : b = kr
    · omega
    · simp only [if_pos e1, if_neg e2] at e; exact absurd e.symm (hri b (by omega))
    · simp only [if_neg e1, if_pos e2] at e; exact absurd e (hri a (by omega))
    · simp only [if_neg e1, if_neg e2] at e; exact h.inj a b (by omega) (by omega) e
  · exact (h.below.grown hg h.below.size (fun k e => (xown_block h.rown e).1)).setCell (p := ⟨Bg, 1, none⟩) hBg _
theorem NxR.answer (h : NxR w Bg Br n kw kr zs wv rv rows W) (hne : Bg ≠ Br) (hBr : w.heap.size ≤ Br) (x y : Value) : NxR w Bg Br n kw kr zs wv rv rows ((W.setCell ⟨Br, 0, none⟩ x).setCell ⟨Br, 1, none⟩ y) := by
  obtain ⟨rx, ry, hres⟩ := h.res
  have hg : W.grownBy ((W.setCell ⟨Br, 0, none⟩ x).setCell ⟨Br, 1, none⟩ y) (some Br) := (grown_set W Br 0 x).trans (grown_set _ Br 1 y)
  have ty : ∀ (e : TypeId), e ≠ 29 → ∀ r, some Br = some r → ∀ cur, W.heap[r]? ≠ some (.cells cur e (0, 0)) := fun e he r er cur hc => by
    cases er; rw [hres] at hc; injection hc with hc; injection hc with _ ht; exact he ht.symm
  refine ⟨heap_kept h.gbox hg (fun e => hne (by cases e; rfl)), ⟨x, y, ?_⟩, xown_kept h.wown hg (ty _ (by decide)), xown_kept h.rown hg (ty _ (by decide)), fun a ha => ⟨(h.row a ha).1, (h.row a ha).2.1, heap_kept (h.row a ha).2.2 hg (fun e => ?_)⟩, h.inj, (h.below.setCell (p := ⟨Br, 0, none⟩) hBr _).setCell (p := ⟨Br, 1, none⟩) hBr _⟩
  · have := heap_set (heap_set hres 0 x) 1 y
    simpa using this
  · exact ty _ (by decide) _ e.symm _ (h.row a ha).2.2
/-- Behind it: a graph. -/
theorem NxR.done {aw ar : Option Addr} {cw cr : Nat} (h : NxR w Bg Br n n n zs (.slice aw n cw) (.slice ar n cr) rows W) (hl : zs.length = n) (hs : n ≤ 4096) (hf : ∀ x ∈ zs, (Lit.int .i64 x).wf = true) : ∃ X : XD, X.val n = .agg #[.slice aw n cw, .slice ar n cr] ∧ IsX W X w.heap.size zs noTab := by
  have htk : zs.take n = zs := List.take_of_length_le (by omega)
  obtain ⟨wb, hwb1, hwb2⟩ : ∃ wb, (n = 0 ∨ (aw = some ⟨wb, 0, none⟩ ∧ w.heap.size ≤ wb)) ∧ ∀ i, i < n → W.cell? ⟨wb, i, none⟩ = some (.int .i64 (zs.getD i 0)) := by
    rcases h.wown.2 with ⟨_, h0⟩ | ⟨g, cap, cur, e, hb, hg, _, _, _, _⟩
    · exact ⟨0, .inl h0, fun i hi => by omega⟩
    · cases e
      refine ⟨g, .inr ⟨rfl, hb⟩, fun i hi => ?_⟩
      have hc := h.wown.cells (g := g) rfl i (.int .i64 (zs.getD i 0)) (by rw [htk]; simp [ivals, List.getD_eq_getElem?_getD, List.getElem?_eq_getElem (show i < zs.length by omega)])
      rwa [addr_add, Nat.zero_add] at hc
  obtain ⟨rb, hrb⟩ : ∃ rb, n = 0 ∨ (ar = some ⟨rb, 0, none⟩ ∧ w.heap.size ≤ rb ∧ ∃ cs, W.heap[rb]? = some (.cells cs 22 (0, 0)) ∧ ∀ a, a < n → cs[a]? = some (.slice (some ⟨rows a, 0, none⟩) n n)) := by
    rcases h.rown.2 with ⟨_, h0⟩ | ⟨g, cap, cur, e, hb, hg, hnc, _, hcs, htake⟩
    · exact ⟨0, .inl h0⟩
    · cases e
      refine ⟨g, .inr ⟨rfl, hb, cur, hg, fun a ha => ?_⟩⟩
      have e1 : (cur.toList.take (n * 1))[a]? = (rowVals n rows n)[a]? := by rw [htake]
      rw [List.getElem?_take_of_lt (by omega)] at e1
      rw [← Array.getElem?_toList, e1]
      simp [rowVals, ha]
  have hwl : ∀ i, i < n → wb < W.heap.size := fun i hi => World.block_lt_of_cell? _ _ (hwb2 i hi)
  refine ⟨⟨aw, cw, wb, ar, cr, rb, rows⟩, rfl, ⟨?_, ?_, ?_, fun a ha => ?_, fun a b ha hb => h.inj a b (by omega) (by omega), Tab.none _, by omega⟩⟩
  · rw [hl]
    exact ⟨hwb1.imp id And.left, hl, by unfold maxLen; omega, by
      by_cases h0 : n = 0
      · exact .inl h0
      · exact .inr (hwl 0 (by omega)), fun i hi => by rw [Nat.zero_add]; exact hwb2 i hi, hf⟩
  · rw [hl]; exact hwb1.imp id And.right
  · rw [hl]; exact hrb
  · rw [hl] at ha ⊢
    obtain ⟨h1, h2, h3⟩ := h.row a ha
    refine ⟨h1, fun e => h2 ?_, h3⟩
    obtain ⟨e1, _⟩ := hwb1.resolve_left (by omega)
    rw [e1]
    show some (rows a) = some wb
    rw [show rows a = wb from e]
end
end Go.Proofs.Ytjpgkocffceeoaa
