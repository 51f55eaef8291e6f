/- Contract: the reference's copy of a model. -/
import Derived.Test.YtjcmeacgfflfmaaGreatMow
import Derived.Test.YtjcmeacgfflfmaaGreatMcs
import Derived.Test.YtjcmeacgfflfmaaGreatMdW
import Derived.Test.YtjcmeacgfflfmaaGreatAw
import Derived.Deep.RegionHeld3
set_option linter.unusedVariables false
set_option linter.unusedSectionVars false
set_option linter.unusedSimpArgs false
namespace Go.Proofs.YtjcmeacgfflfmaaGreat.Md
open Go.RowKit Go.Shelf

theorem wpList_append_zero' {P : Program} {w : World} {ops : Array Oper} {rest : List Oper} {o : Oper} {a : Act} {Q : Exit → Act → World → Prop} (hgd : o.guard = none) (s x : Operand) (t : TypeId)
    (ho : o.op = .call { callee := .builtin .append, args := #[s, x], argTypes := #[t, t] })
    (e : TypeId) (i : TypeInfo) (ht : P.underlying t = some (.slice e)) (hi : P.info? e = some i)
    (ao : Option Addr) (hs : a.eval s = .slice ao 0 0) (px : Option Addr) (c : Nat) (hx : a.eval x = .slice px 0 c)
    (h : wpList P ops Q rest (a.put o.dst (.slice ao 0 0)) w) : wpList P ops Q (o :: rest) a w := by
  refine wpList_plain hgd fun K hK => ?_
  have hrun : (Builtin.append_ #[t, t] o.type #[.slice ao 0 0, .slice px 0 c]).run P w = .ok (.slice ao 0 0) w := by
    cases ao <;> cases px <;> simp [Builtin.append_, run_underlying ht, sizeOf, typeInfo, hi, Builtin.lenOf, Builtin.firstCells, storeCells, loadCells, loadCellsFrom, Result.andThen]
  unfold Oper.wp
  simp [execOp, ho, resolve, invoke, builtin, hs, hx, hrun, Result.andThen]
  exact hK _ _ h
/-- A row appended to nothing. -/
theorem wpList_append_cl {α : Type} {enc : α → List Value} {fit : α → Prop} {sz : Nat} (hsz : ∀ x, (enc x).length = sz) (hone : ∀ L : List α, ∀ u ∈ L.flatMap enc, u.oneCell' = true) {P : Program} {w : World} {ops : Array Oper} {rest : List Oper} {o : Oper} {a : Act} {Q : Exit → Act → World → Prop} (hgd : o.guard = none) (s x : Operand) (t : TypeId)
    (ho : o.op = .call { callee := .builtin .append, args := #[s, x], argTypes := #[t, t] })
    (e : TypeId) (i : TypeInfo) (z : Value) (bytes : Nat) (ht : P.underlying t = some (.slice e)) (hi : P.info? e = some i) (hz : i.zero = some z)
    (hsize : i.size = sz) (hby : i.bytes = bytes) (hzs : z.cells.size = sz) (h0 : 0 < sz)
    (ao : Option Addr) (hs : a.eval s = .slice ao 0 0) {pa : Option Addr} {b off len c : Nat} {L : List α} (hx : a.eval x = .slice pa len c) (hr : RowsAt enc fit sz w.heap.size w pa b off len L) (hl : len * bytes ≤ 140737488355328)
    (h : ∀ a' b' c' w', OwnR enc fit sz e w.heap.size w' a' b' L → Below w.heap.size w w' → wpList P ops Q rest (a.put o.dst (.slice a' len c')) w') : wpList P ops Q (o :: rest) a w := by
  by_cases hn : len = 0
  · subst hn
    have hL : L = [] := List.eq_nil_of_length_eq_zero hr.length
    exact wpList_append_zero' hgd s x t ho e i ht hi ao hs pa c hx (h ao 0 0 w ⟨.inl hL, by rw [hL]; exact Nat.zero_le _, hr.fits⟩ (Below.refl _ _))
  · obtain rfl := hr.length
    have hpa := hr.addr.resolve_left hn
    subst hpa
    refine wpList_append_gathP w hgd s x t ho w.heap.size e i z sz bytes ht hi hz hsize hby hzs h0 (.slice ao 0 0) 0 [] hs (.inl ⟨rfl, rfl, _, rfl⟩) ⟨b, off, none⟩ L.length c (L.flatMap enc) hx (flat_lenU hsz _) (rows_cells hsz hr) (hone L) (by omega) (by have := hr.small; omega) (by rw [Nat.zero_add]; exact hl) (Nat.le_refl _) ?_
    intro v' w' row hown hg hrow
    rw [Nat.zero_add, List.nil_append] at hown
    obtain ⟨g, cp, rfl, hgb, hrc⟩ := rowc_owned hsz hown rfl (by omega)
    exact h _ g cp w' ⟨.inr ⟨rfl, hgb, hrc⟩, hr.small, hr.fits⟩ ((Below.refl _ w).grown hg (Nat.le_refl _) (fun r e => (hrow r e).2))
theorem owns_typed {w : World} {base : Nat} {e : TypeId} {size : Nat} {v : Value} {n : Nat} {xs : List Value} (h : w.ownsRow base e size v n xs) {g : Nat} (hg : v.ownBlock = some g) : base ≤ g ∧ ∃ cur, w.heap[g]? = some (.cells cur e (0, 0)) := by
  rcases h.2 with ⟨rfl, _⟩ | ⟨g', cap, cur, rfl, hb, hc, _⟩
  · simp [Value.ownBlock] at hg
  · have : g' = g := by simpa [Value.ownBlock] using hg
    subst this
    exact ⟨hb, cur, hc⟩
theorem owns_succ {w : World} {base : Nat} {e : TypeId} {size : Nat} {v : Value} {n : Nat} {xs : List Value} (h : w.ownsRow base e size v (n + 1) xs) : ∃ g cap, v = .slice (some ⟨g, 0, none⟩) (n + 1) cap := by
  rcases h.2 with ⟨rfl, h1⟩ | ⟨g, cap, cur, rfl, _⟩
  · omega
  · exact ⟨g, cap, rfl⟩
theorem OwnP.grown {base : Nat} {W W' : World} {q : ProcV} {row : Option Nat} (h : OwnP base W q) (hg : W.grownBy W' row) (hr : ∀ r, row = some r → ∃ cur, W.heap[r]? = some (.cells cur 34 (0, 0))) : OwnP base W' q := by
  have hT : Turned (fun k => row = some k) W W' := ⟨hg.os, hg.tape, hg.output, hg.size, fun k hk hn => hg.block k hk (fun e => hn e.symm)⟩
  exact ⟨h.vars.turned hT (fun _ cur hc e => by obtain ⟨c, h2⟩ := hr _ e; rw [hc] at h2; cases h2), h.vo, h.steps.turned hT (fun _ cur hc e => by obtain ⟨c, h2⟩ := hr _ e; rw [hc] at h2; cases h2), h.so⟩
theorem OwnP.box {base N : Nat} {W : World} {q : ProcV} (h : OwnP base W q) (hN : N < base) (i : Nat) (v : Value) : OwnP base (W.setCell ⟨N, i, none⟩ v) q := ⟨h.vars.box hN i v, h.vo, h.steps.box hN i v, h.so⟩
/-- While the reference copies: its boxes; the processes that were gathered. -/
structure Rp (w : World) (x : ModelV) (P : List ProcV) (v : Value) (W : World) : Prop where
  box : W.heap[w.heap.size]? = some (.cells #[.int .i64 x.ver, .slice x.pa x.procs.length x.pc, .slice x.la x.links.length x.lc, .slice x.ea x.events.length x.ec] 26 (0, 0))
  res : W.heap[w.heap.size + 1]? = some (.cells #[.int .i64 0, .slice none 0 0, .slice none 0 0, .slice none 0 0] 26 (0, 0))
  out : W.heap[w.heap.size + 1 + 1]? = some (.cells #[.int .i64 x.ver, v, .slice none 0 0, .slice none 0 0] 26 (0, 0))
  own : W.ownsRow (w.heap.size + 1 + 1 + 1) 34 4 v P.length (P.flatMap encP)
  each : ∀ (i : Nat) q, P[i]? = some q → ∃ q0, x.procs[i]? = some q0 ∧ q.p = q0.p ∧ OwnP (w.heap.size + 1 + 1 + 1) W q
  low : Below w.heap.size w W
theorem Rp.on {w : World} {x : ModelV} {P : List ProcV} {v : Value} {W W' : World} (h : Rp w x P v W) (hb : Below W.heap.size W W') : Rp w x P v W' :=
  ⟨heap_below h.box hb (heap_lt h.box), heap_below h.res hb (heap_lt h.res), heap_below h.out hb (heap_lt h.out), h.own.kept (grown_below hb none) (by rcases h.own.2 with ⟨h1, _⟩ | ⟨g, cap, cur, h1, _⟩; exact .inl (by rw [h1]; rfl); exact .inr (by rw [h1]; simp [Value.ownBlock])), fun i q hi => by
    obtain ⟨q0, h1, h2, h3⟩ := h.each i q hi
    exact ⟨q0, h1, h2, h3.on hb⟩, h.low.trans (hb.mono h.low.size)⟩
theorem Rp.size {w : World} {x : ModelV} {P : List ProcV} {v : Value} {W : World} (h : Rp w x P v W) : w.heap.size + 1 + 1 + 1 ≤ W.heap.size := heap_lt h.out
theorem grown_lowU {w X Y : World} {row : Option Nat} (h : Below w.heap.size w X) (hg : X.grownBy Y row) (hr : ∀ r, row = some r → w.heap.size ≤ r) : Below w.heap.size w Y := h.grown hg h.size hr
/-- One more. -/
theorem Rp.next {w : World} {x : ModelV} {P : List ProcV} {v v' : Value} {W W' : World} {q q0 : ProcV} {row : Option Nat} (h : Rp w x P v W) (hq0 : x.procs[P.length]? = some q0) (hp : q.p = q0.p) (ho : OwnP (w.heap.size + 1 + 1 + 1) W q)
    (hown : W'.ownsRow (w.heap.size + 1 + 1 + 1) 34 4 v' (P.length + 1) (P.flatMap encP ++ encP q)) (hg : W.grownBy W' row) (hrow : ∀ g, row = some g → v.ownBlock = some g ∧ w.heap.size + 1 + 1 + 1 ≤ g) :
    W'.heap[w.heap.size + 1 + 1]? = some (.cells #[.int .i64 x.ver, v, .slice none 0 0, .slice none 0 0] 26 (0, 0)) ∧ Rp w x (P ++ [q]) v' (W'.setCell ⟨w.heap.size + 1 + 1, 1, none⟩ v') := by
  have hne : ∀ j, j < w.heap.size + 1 + 1 + 1 → some j ≠ row := fun j hj e => by have := (hrow j e.symm).2; omega
  have hty : ∀ r, row = some r → ∃ cur, W.heap[r]? = some (.cells cur 34 (0, 0)) := fun r e => (owns_typed h.own (hrow r e).1).2
  have hout := heap_kept h.out hg (hne _ (by omega))
  refine ⟨hout, heap_other (heap_kept h.box hg (hne _ (by omega))) (by omega) _ _, heap_other (heap_kept h.res hg (hne _ (by omega))) (by omega) _ _, heap_set hout 1 v', ?_, fun i y hi => ?_, ?_⟩
  · rw [List.length_append, List.length_singleton, List.flatMap_append, List.flatMap_singleton]
    refine hown.kept (grown_set W' (w.heap.size + 1 + 1) 1 v') ?_
    rcases hown.2 with ⟨rfl, _⟩ | ⟨g, cap, cur, rfl, hb, _⟩
    · exact .inl rfl
    · refine .inr fun e => ?_
      have : g = w.heap.size + 1 + 1 := by simpa [Value.ownBlock] using e
      omega
  · by_cases e : i < P.length
    · rw [List.getElem?_append_left e] at hi
      obtain ⟨y0, h1, h2, h3⟩ := h.each i y hi
      exact ⟨y0, h1, h2, (h3.grown hg hty).box (by omega) _ _⟩
    · rw [List.getElem?_append_right (by omega)] at hi
      obtain rfl : i = P.length := by
        have := (List.getElem?_eq_some_iff.1 hi).1
        simp at this
        omega
      simp at hi
      subst hi
      exact ⟨q0, hq0, hp, (ho.grown hg hty).box (by omega) _ _⟩
  · exact (grown_lowU h.low hg (fun r e => by have := (hrow r e).2; omega)).setCell (p := ⟨w.heap.size + 1 + 1, 1, none⟩) (by show w.heap.size ≤ w.heap.size + 1 + 1; omega) v'

/-- What was gathered, as a model with nothing but processes. -/
theorem Rp.rows {w : World} {x : ModelV} {P : List ProcV} {v : Value} {W : World} (h : Rp w x P v W) (hl : P.length = x.procs.length) (hf : ∀ q ∈ x.procs, fitP q) (hs : x.procs.length ≤ maxLen) :
    P.map (fun y => y.p) = x.procs.map (fun y => y.p) ∧ ∃ pa pb pc, v = .slice pa x.procs.length pc ∧ OwnM (w.heap.size + 1 + 1 + 1) W ⟨x.ver, P, [], [], pa, pb, 0, pc, none, 0, 0, 0, none, 0, 0, 0⟩ := by
  have hm : P.map (fun y => y.p) = x.procs.map (fun y => y.p) := by
    apply List.ext_getElem?
    intro i
    rw [List.getElem?_map, List.getElem?_map]
    cases hi : P[i]? with
    | none =>
      rw [List.getElem?_eq_none (by rw [← hl]; exact List.getElem?_eq_none_iff.1 hi)]
    | some q =>
      obtain ⟨q0, h1, h2, _⟩ := h.each i q hi
      rw [h1]
      simp [h2]
  have hfit : ∀ q ∈ P, fitP q := fun q hq => by
    obtain ⟨i, hi⟩ := List.getElem?_of_mem hq
    obtain ⟨q0, h1, h2, _⟩ := h.each i q hi
    have := hf q0 (List.mem_of_getElem? h1)
    unfold fitP at this ⊢
    rw [h2]
    exact this
  have hin : ∀ p ∈ P, OwnP (w.heap.size + 1 + 1 + 1) W p := fun p hp => by
    obtain ⟨i, hi⟩ := List.getElem?_of_mem hp
    obtain ⟨q0, _, _, h3⟩ := h.each i p hi
    exact h3
  refine ⟨hm, ?_⟩
  by_cases h0 : P.length = 0
  · have hP : P = [] := List.eq_nil_of_length_eq_zero h0
    rcases h.own.2 with ⟨h1, _⟩ | ⟨g, cap, cur, h1, _⟩
    · exact ⟨none, 0, 0, by rw [h1, ← hl, h0], ⟨⟨.inl hP, by rw [hl]; exact hs, hfit⟩, rfl, hin, ⟨.inl rfl, Nat.zero_le _, fun y hy => by simp at hy⟩, rfl, ⟨.inl rfl, Nat.zero_le _, fun y hy => by simp at hy⟩, rfl⟩⟩
    · exact ⟨_, 0, cap, by rw [h1, hl], ⟨⟨.inl hP, by rw [hl]; exact hs, hfit⟩, rfl, hin, ⟨.inl rfl, Nat.zero_le _, fun y hy => by simp at hy⟩, rfl, ⟨.inl rfl, Nat.zero_le _, fun y hy => by simp at hy⟩, rfl⟩⟩
  · obtain ⟨g, cap, rfl, hb, hrc⟩ := rowc_owned (enc := encP) (fun _ => rfl) h.own rfl (by omega)
    exact ⟨_, g, cap, by rw [hl], ⟨⟨.inr ⟨rfl, hb, hrc⟩, by rw [hl]; exact hs, hfit⟩, rfl, hin, ⟨.inl rfl, Nat.zero_le _, fun y hy => by simp at hy⟩, rfl, ⟨.inl rfl, Nat.zero_le _, fun y hy => by simp at hy⟩, rfl⟩⟩
set_option maxRecDepth 100000 in
set_option maxHeartbeats 4000000 in
theorem rcopy_any {w : World} {x : ModelV} (h : ModelAt w.heap.size w x) (hs : Sized x.m) : Calls Tryz.prog 11 #[.agg #[.int .i64 x.ver, .slice x.pa x.procs.length x.pc, .slice x.la x.links.length x.lc, .slice x.ea x.events.length x.ec]] w (CopyQ w x.m) := by
  have HM := Lib.hid h
  have HS := Lib.hid hs
  have HR : Hid (Rp w x [] (.slice none 0 0) (((w.alloc (.cells #[.int .i64 x.ver, .slice x.pa x.procs.length x.pc, .slice x.la x.links.length x.lc, .slice x.ea x.events.length x.ec] 26)).alloc (.cells #[.int .i64 0, .slice none 0 0, .slice none 0 0, .slice none 0 0] 26)).alloc (.cells #[.int .i64 x.ver, .slice none 0 0, .slice none 0 0, .slice none 0 0] 26))) := Lib.hid ⟨heap_alloc (heap_alloc (heap_new _ rfl) _) _, heap_alloc (heap_new _ (by simp)) _, heap_new _ (by simp), World.ownsRow_nil _ _ _ _, fun i q hi => by simp at hi, ((below_one w _).alloc (by simp) _).alloc (by simp; omega) _⟩
  have hsm : (x.procs.length : Int) ≤ 20000 := by have := HS.out.procs; unfold ModelV.m at this; rw [List.length_map] at this; omega
  clear h hs
  go_enter Tryz.func11, Tryz.ntmps11
  go_upto_region 2 with fail
  generalize ((w.alloc (.cells #[.int .i64 x.ver, .slice x.pa x.procs.length x.pc, .slice x.la x.links.length x.lc, .slice x.ea x.events.length x.ec] 26)).alloc (.cells #[.int .i64 0, .slice none 0 0, .slice none 0 0, .slice none 0 0] 26)).alloc (.cells #[.int .i64 x.ver, .slice none 0 0, .slice none 0 0, .slice none 0 0] 26) = w1 at *
  go_wp2_with fail
  go_loopw [4] (fun i wr => ∃ (P : List ProcV) (v : Value), i = .int .i64 (P.length : Int) ∧ P.length ≤ x.procs.length ∧ Hid (Rp w x P v wr)) (fun i _ => x.procs.length - (intOf i).toNat)
  case atStart => exact ⟨[], _, rfl, Nat.zero_le _, HR⟩
  case round =>
    clear HR
    obtain ⟨P, v, rfl, hj, HR⟩ := hrel
    have hj0 : (0 : Int) ≤ (P.length : Int) := Int.natCast_nonneg _
    have c1 : wr.cell? ⟨w.heap.size, 1, none⟩ = some (.slice x.pa x.procs.length x.pc) := heap_cell HR.out.box rfl
    by_cases hlt : P.length < x.procs.length
    · have hji : (P.length : Int) < (x.procs.length : Int) := by omega
      obtain ⟨q, hq⟩ : ∃ q, x.procs[P.length]? = some q := ⟨_, List.getElem?_eq_getElem hlt⟩
      have HMw := HM.out.on HR.out.low
      have ha := HMw.procs.addr.resolve_left (by omega)
      rw [ha] at c1
      have r0 : wr.cell? ⟨x.pb, x.po + P.length * 4, none⟩ = some (.string q.p.name) := HMw.procs.cell _ q hq 0 _ rfl
      have r1 : wr.cell? ⟨x.pb, x.po + P.length * 4 + 1, none⟩ = some (.int .i64 q.p.weight) := HMw.procs.cell _ q hq 1 _ rfl
      have r2 : wr.cell? ⟨x.pb, x.po + P.length * 4 + 2, none⟩ = some (.slice q.va q.p.vars.length q.vc) := HMw.procs.cell _ q hq 2 _ rfl
      have r3 : wr.cell? ⟨x.pb, x.po + P.length * 4 + 3, none⟩ = some (.slice q.sa q.p.steps.length q.sc) := HMw.procs.cell _ q hq 3 _ rfl
      have hvl : q.p.vars.length ≤ 20000 ∧ q.p.steps.length ≤ 20000 := HS.out.inner q.p (by unfold ModelV.m; exact List.mem_map_of_mem (List.mem_of_getElem? hq))
      have HI := Lib.hid (HMw.inner q (List.mem_of_getElem? hq))
      have HQ := Lib.hid hq
      have HA := Lib.hid ha
      have hbs := HR.out.size
      clear hq HMw ha
      go_upto_region 6 with fail
      clear c1 r0 r1 r2 r3
      have hb2 := below_one wr (.cells #[.string q.p.name, .int .i64 q.p.weight, .slice q.va q.p.vars.length q.vc, .slice q.sa q.p.steps.length q.sc] 34)
      have hp2 : (wr.alloc (.cells #[.string q.p.name, .int .i64 q.p.weight, .slice q.va q.p.vars.length q.vc, .slice q.sa q.p.steps.length q.sc] 34)).heap[wr.heap.size]? = some (.cells #[.string q.p.name, .int .i64 q.p.weight, .slice q.va q.p.vars.length q.vc, .slice q.sa q.p.steps.length q.sc] 34 (0, 0)) := heap_new _ rfl
      generalize wr.alloc (.cells #[.string q.p.name, .int .i64 q.p.weight, .slice q.va q.p.vars.length q.vc, .slice q.sa q.p.steps.length q.sc] 34) = w2 at *
      have hT5 : wr.heap.size < w2.heap.size := heap_lt hp2
      have d2 : (w2.alloc (.cells #[] 40)).cell? ⟨wr.heap.size, 2, none⟩ = some (.slice q.va q.p.vars.length q.vc) := heap_cell (heap_alloc hp2 _) rfl
      have HP2 := Lib.hid hp2
      have HB2 := Lib.hid hb2
      clear hp2 hb2
      have hrv := Lib.hid ((HI.out.on HB2.out).vars.on (below_one w2 (.cells #[] 40)))
      obtain ⟨i0, hi, hz0, hz1, hz2⟩ := info_parts Tryz.infoV
      have HI0 := Lib.hid hi
      have HZ0 := Lib.hid hz0
      have HZ1 := Lib.hid hz1
      have HZ2 := Lib.hid hz2
      clear hi hz0 hz1 hz2
      have HPS : Hid (∀ (w3 : World) (va : Option Addr) (vb : Nat), OwnR encV fitV 2 40 (w2.alloc (.cells #[] 40)).heap.size w3 va vb q.p.vars → Below (w2.alloc (.cells #[] 40)).heap.size (w2.alloc (.cells #[] 40)) w3 → Below w2.heap.size w2 w3 ∧ w3.heap[wr.heap.size]? = some (.cells #[.string q.p.name, .int .i64 q.p.weight, .slice q.va q.p.vars.length q.vc, .slice q.sa q.p.steps.length q.sc] 34 (0, 0)) ∧ OwnR encV fitV 2 40 w2.heap.size w3 va vb q.p.vars) := Lib.hid (fun w3 va vb ho hb => by
        have hb2 := (below_one w2 (.cells #[] 40)).trans (hb.mono (by simp))
        exact ⟨hb2, heap_below HP2.out hb2 (heap_lt HP2.out), ho.mono (by simp)⟩)
      go_upto_region 7 with (at_builtin; refine wpList_append_cl (enc := encV) (fit := fitV) (fun _ => rfl) oneVU rfl _ _ 31 rfl 40 i0 (.agg zV) 24 Tryz.underlying31 HI0.out HZ0.out HZ1.out HZ2.out rfl (by decide) _ rfl rfl hrv.out (by omega) ?_; intro va vb vc w3 hov hbv; obtain ⟨hb3, hp3, ho3⟩ := HPS.out w3 va vb hov hbv; have fz := heap_frozen hp3 2; have cz := heap_cell hp3 (i := 2) rfl; have H3 := Lib.hid (And.intro hb3 (And.intro hp3 ho3)); clear hb3 hp3 ho3 hov hbv)
      clear d2 fz cz hrv HPS HI0 HZ0 HZ1 HZ2
      have hp4 : (w3.setCell ⟨wr.heap.size, 2, none⟩ (.slice va q.p.vars.length vc)).heap[wr.heap.size]? = some (.cells #[.string q.p.name, .int .i64 q.p.weight, .slice va q.p.vars.length vc, .slice q.sa q.p.steps.length q.sc] 34 (0, 0)) := heap_set H3.out.2.1 2 _
      have hv4 : OwnR encV fitV 2 40 w2.heap.size (w3.setCell ⟨wr.heap.size, 2, none⟩ (.slice va q.p.vars.length vc)) va vb q.p.vars := H3.out.2.2.box hT5 2 _
      have hb4 : Below wr.heap.size wr (w3.setCell ⟨wr.heap.size, 2, none⟩ (.slice va q.p.vars.length vc)) := Below.box (HB2.out.trans (H3.out.1.mono HB2.out.size)) (Nat.le_refl _) 2 _
      clear H3
      generalize w3.setCell ⟨wr.heap.size, 2, none⟩ (.slice va q.p.vars.length vc) = w4 at *
      have HP4 := Lib.hid hp4
      have HB4 := Lib.hid hb4
      have HV4 := Lib.hid (hv4.mono (Nat.le_of_lt hT5))
      have d2 : (w4.alloc (.cells #[] 38)).cell? ⟨wr.heap.size, 3, none⟩ = some (.slice q.sa q.p.steps.length q.sc) := heap_cell (heap_alloc hp4 _) rfl
      clear hp4 hb4 hv4 HP2 HB2 hT5
      have hT5 : wr.heap.size < w4.heap.size := heap_lt HP4.out
      have hrv := Lib.hid ((HI.out.on HB4.out).steps.on (below_one w4 (.cells #[] 38)))
      obtain ⟨i0, hi, hz0, hz1, hz2⟩ := info_parts Tryz.infoS
      have HI0 := Lib.hid hi
      have HZ0 := Lib.hid hz0
      have HZ1 := Lib.hid hz1
      have HZ2 := Lib.hid hz2
      clear hi hz0 hz1 hz2
      have HPS : Hid (∀ (w3 : World) (sa : Option Addr) (sb : Nat), OwnR encS fitS 5 38 (w4.alloc (.cells #[] 38)).heap.size w3 sa sb q.p.steps → Below (w4.alloc (.cells #[] 38)).heap.size (w4.alloc (.cells #[] 38)) w3 → Below w4.heap.size w4 w3 ∧ w3.heap[wr.heap.size]? = some (.cells #[.string q.p.name, .int .i64 q.p.weight, .slice va q.p.vars.length vc, .slice q.sa q.p.steps.length q.sc] 34 (0, 0)) ∧ OwnR encS fitS 5 38 w4.heap.size w3 sa sb q.p.steps) := Lib.hid (fun w3 sa sb ho hb => by
        have hb2 := (below_one w4 (.cells #[] 38)).trans (hb.mono (by simp))
        exact ⟨hb2, heap_below HP4.out hb2 (heap_lt HP4.out), ho.mono (by simp)⟩)
      go_upto_region 8 with (at_builtin; refine wpList_append_cl (enc := encS) (fit := fitS) (fun _ => rfl) oneSU rfl _ _ 32 rfl 38 i0 (.agg zS) 56 Tryz.underlying32 HI0.out HZ0.out HZ1.out HZ2.out rfl (by decide) _ rfl rfl hrv.out (by omega) ?_; intro sa sb sc w5 hov hbv; obtain ⟨hb3, hp3, ho3⟩ := HPS.out w5 sa sb hov hbv; have fz := heap_frozen hp3 3; have cz := heap_cell hp3 (i := 3) rfl; have H3 := Lib.hid (And.intro hb3 (And.intro hp3 ho3)); clear hb3 hp3 ho3 hov hbv)
      clear d2 fz cz hrv HPS HI0 HZ0 HZ1 HZ2
      have hp6 : (w5.setCell ⟨wr.heap.size, 3, none⟩ (.slice sa q.p.steps.length sc)).heap[wr.heap.size]? = some (.cells #[.string q.p.name, .int .i64 q.p.weight, .slice va q.p.vars.length vc, .slice sa q.p.steps.length sc] 34 (0, 0)) := heap_set H3.out.2.1 3 _
      have hs6 : OwnR encS fitS 5 38 w4.heap.size (w5.setCell ⟨wr.heap.size, 3, none⟩ (.slice sa q.p.steps.length sc)) sa sb q.p.steps := H3.out.2.2.box hT5 3 _
      have hv6 : OwnR encV fitV 2 40 wr.heap.size (w5.setCell ⟨wr.heap.size, 3, none⟩ (.slice sa q.p.steps.length sc)) va vb q.p.vars := (HV4.out.on H3.out.1).turned (R := fun k => k = wr.heap.size) (Turned.one _ _ 3 _) (fun _ cur hc e => by rw [e, H3.out.2.1] at hc; cases hc)
      have hb6 : Below wr.heap.size wr (w5.setCell ⟨wr.heap.size, 3, none⟩ (.slice sa q.p.steps.length sc)) := Below.box (HB4.out.trans (H3.out.1.mono HB4.out.size)) (Nat.le_refl _) 3 _
      clear H3
      generalize w5.setCell ⟨wr.heap.size, 3, none⟩ (.slice sa q.p.steps.length sc) = w6 at *
      have HR6 := Lib.hid (HR.out.on hb6)
      have HO6 : Hid (OwnP (w.heap.size + 1 + 1 + 1) w6 { q with va := va, vb := vb, vo := 0, vc := vc, sa := sa, sb := sb, so := 0, sc := sc }) := Lib.hid ⟨hv6.mono hbs, rfl, hs6.mono (by omega), rfl⟩
      have e0 : w6.cell? ⟨wr.heap.size, 0, none⟩ = some (.string q.p.name) := heap_cell hp6 rfl
      have e1 : w6.cell? ⟨wr.heap.size, 1, none⟩ = some (.int .i64 q.p.weight) := heap_cell hp6 rfl
      have e2 : w6.cell? ⟨wr.heap.size, 2, none⟩ = some (.slice va q.p.vars.length vc) := heap_cell hp6 rfl
      have e3 : w6.cell? ⟨wr.heap.size, 3, none⟩ = some (.slice sa q.p.steps.length sc) := heap_cell hp6 rfl
      have g1 : w6.cell? ⟨w.heap.size + 1 + 1, 1, none⟩ = some v := heap_cell HR6.out.out rfl
      clear hp6 hs6 hv6 hb6 HP4 HB4 HV4 HI HR
      obtain ⟨i0, hi, hz0, hz1, hz2⟩ := info_parts Tryz.infoP
      have HI0 := Lib.hid hi
      have HZ0 := Lib.hid hz0
      have HZ1 := Lib.hid hz1
      have HZ2 := Lib.hid hz2
      clear hi hz0 hz1 hz2
      have HR7 := Lib.hid (HR6.out.on (below_one w6 (.cells #[.string q.p.name, .int .i64 q.p.weight, .slice va q.p.vars.length vc, .slice sa q.p.steps.length sc] 34)))
      have HO7 := Lib.hid (HO6.out.on (below_one w6 (.cells #[.string q.p.name, .int .i64 q.p.weight, .slice va q.p.vars.length vc, .slice sa q.p.steps.length sc] 34)))
      have HC7 : Hid (∀ j u, (encP { q with va := va, vb := vb, vo := 0, vc := vc, sa := sa, sb := sb, so := 0, sc := sc })[j]? = some u → (w6.alloc (.cells #[.string q.p.name, .int .i64 q.p.weight, .slice va q.p.vars.length vc, .slice sa q.p.steps.length sc] 34)).cell? ((⟨w6.heap.size, 0, none⟩ : Addr).add j) = some u) := Lib.hid (fun j u hu => by
        rw [addr_add]
        exact heap_cell (heap_new (w := w6) (.cells #[.string q.p.name, .int .i64 q.p.weight, .slice va q.p.vars.length vc, .slice sa q.p.steps.length sc] 34) rfl) (by rw [Nat.zero_add, ← Array.getElem?_toList]; exact hu))
      have hbs6 : w.heap.size + 1 + 1 + 1 ≤ w6.heap.size := HR6.out.size
      have HN7 : Hid (∀ (v' : Value) (w8 : World) (row : Option Nat), w8.ownsRow (w.heap.size + 1 + 1 + 1) 34 4 v' (P.length + 1) (P.flatMap encP ++ encP { q with va := va, vb := vb, vo := 0, vc := vc, sa := sa, sb := sb, so := 0, sc := sc }) → (w6.alloc (.cells #[.string q.p.name, .int .i64 q.p.weight, .slice va q.p.vars.length vc, .slice sa q.p.steps.length sc] 34)).grownBy w8 row → (∀ g, row = some g → v.ownBlock = some g ∧ w.heap.size + 1 + 1 + 1 ≤ g) → w8.heap[w.heap.size + 1 + 1]? = some (.cells #[.int .i64 x.ver, v, .slice none 0 0, .slice none 0 0] 26 (0, 0)) ∧ Rp w x (P ++ [{ q with va := va, vb := vb, vo := 0, vc := vc, sa := sa, sb := sb, so := 0, sc := sc }]) v' (w8.setCell ⟨w.heap.size + 1 + 1, 1, none⟩ v')) := Lib.hid (fun v' w8 row h1 h2 h3 => HR7.out.next HQ.out rfl HO7.out h1 h2 h3)
      have HG7 := Lib.hid (Or.inr HR7.out.own : Gath (w6.alloc (.cells #[.string q.p.name, .int .i64 q.p.weight, .slice va q.p.vars.length vc, .slice sa q.p.steps.length sc] 34)) (w.heap.size + 1 + 1 + 1) 34 4 v P.length (P.flatMap encP))
      clear HR6 HO6 HR7 HO7 HQ HA
      go_wp2_with (at_builtin; refine wpList_append_gathP _ rfl _ _ 22 rfl (w.heap.size + 1 + 1 + 1) 34 i0 (.agg zP) 4 72 Tryz.underlying22 HI0.out HZ0.out HZ1.out HZ2.out rfl (by decide) v P.length (P.flatMap encP) rfl HG7.out ⟨w6.heap.size, 0, none⟩ 1 1 (encP { q with va := va, vb := vb, vo := 0, vc := vc, sa := sa, sb := sb, so := 0, sc := sc }) rfl rfl HC7.out (fun u hu => by unfold encP at hu; simp only [List.mem_cons, List.not_mem_nil, or_false] at hu; rcases hu with rfl | rfl | rfl | rfl <;> rfl) (by decide) (by unfold maxLen; omega) (by omega) (by simp; omega) ?_; intro v' w8 row hown hg hrow; obtain ⟨g', cap', rfl⟩ := owns_succ hown; obtain ⟨hbx, hnx⟩ := HN7.out _ w8 row hown hg hrow; have fz := heap_frozen hbx 1; have cz := heap_cell hbx (i := 1) rfl; have H8 := Lib.hid hnx; clear hbx hnx hown hg hrow)
      go_roundw
      case rel => exact ⟨P ++ [{ q with va := va, vb := vb, vo := 0, vc := vc, sa := sa, sb := sb, so := 0, sc := sc }], _, by simp, by simp; omega, H8⟩
      case measure => simp [intOf]; omega
    · have hPl : P.length = x.procs.length := by omega
      obtain ⟨hm, pa, pb, pc, rfl, hown⟩ := HR.out.rows hPl HM.out.procs.fits HM.out.procs.small
      have HPl := Lib.hid hPl
      have HMm := Lib.hid hm
      have HF := Lib.hid hown
      have hb3 := HR.out.size
      have hlt2 : ¬ ((P.length : Int) < (x.procs.length : Int)) := by omega
      clear hm hown hPl hlt hj0 hj
      have e2 : wr.cell? ⟨w.heap.size + 1 + 1, 2, none⟩ = some (.slice none 0 0) := heap_cell HR.out.out rfl
      have c2 : wr.cell? ⟨w.heap.size, 2, none⟩ = some (.slice x.la x.links.length x.lc) := heap_cell HR.out.box rfl
      have hll : x.links.length ≤ 20000 := HS.out.links
      have hel : x.events.length ≤ 20000 := HS.out.events
      have hrv := Lib.hid (HM.out.on HR.out.low).links
      obtain ⟨i0, hi, hz0, hz1, hz2⟩ := info_parts Tryz.infoL
      have HI0 := Lib.hid hi
      have HZ0 := Lib.hid hz0
      have HZ1 := Lib.hid hz1
      have HZ2 := Lib.hid hz2
      clear hi hz0 hz1 hz2
      have HKs : Hid (∀ W, Below wr.heap.size wr W → W.heap[w.heap.size + 1 + 1]? = some (.cells #[.int .i64 x.ver, .slice pa x.procs.length pc, .slice none 0 0, .slice none 0 0] 26 (0, 0))) := Lib.hid (fun W hb => heap_below HR.out.out hb (heap_lt HR.out.out))
      go_upto_region 10 with (at_builtin; refine wpList_append_cl (enc := encL) (fit := fitL) (fun _ => rfl) oneLU rfl _ _ 23 rfl 42 i0 (.agg zL) 64 Tryz.underlying23 HI0.out HZ0.out HZ1.out HZ2.out rfl (by decide) _ rfl rfl hrv.out (by omega) ?_; intro la lb lc w2 hov hbv; have hx2 := HKs.out _ hbv; have fz := heap_frozen hx2 2; have cz := heap_cell hx2 (i := 2) rfl; have HL2 := Lib.hid hov; have HB2 := Lib.hid hbv; clear hov hbv)
      clear e2 c2 hrv HI0 HZ0 HZ1 HZ2 HKs
      try clear fz
      try clear cz
      have hx3 : (w2.setCell ⟨w.heap.size + 1 + 1, 2, none⟩ (.slice la x.links.length lc)).heap[w.heap.size + 1 + 1]? = some (.cells #[.int .i64 x.ver, .slice pa x.procs.length pc, .slice la x.links.length lc, .slice none 0 0] 26 (0, 0)) := heap_set hx2 2 _
      have hF3 : OwnM (w.heap.size + 1 + 1 + 1) (w2.setCell ⟨w.heap.size + 1 + 1, 2, none⟩ (.slice la x.links.length lc)) ⟨x.ver, P, [], [], pa, pb, 0, pc, none, 0, 0, 0, none, 0, 0, 0⟩ := (HF.out.on HB2.out).box hx2 rfl 2 _
      have hL3 : OwnR encL fitL 5 42 (w.heap.size + 1 + 1 + 1) (w2.setCell ⟨w.heap.size + 1 + 1, 2, none⟩ (.slice la x.links.length lc)) la lb x.links := (HL2.out.mono hb3).box (by omega) 2 _
      have hb4 : Below w.heap.size w (w2.setCell ⟨w.heap.size + 1 + 1, 2, none⟩ (.slice la x.links.length lc)) := Below.box (HR.out.low.trans (HB2.out.mono HR.out.low.size)) (by omega) 2 _
      have hxb : (w2.setCell ⟨w.heap.size + 1 + 1, 2, none⟩ (.slice la x.links.length lc)).heap[w.heap.size]? = some (.cells #[.int .i64 x.ver, .slice x.pa x.procs.length x.pc, .slice x.la x.links.length x.lc, .slice x.ea x.events.length x.ec] 26 (0, 0)) := heap_other (heap_below HR.out.box HB2.out (heap_lt HR.out.box)) (by omega) 2 _
      have hxr : (w2.setCell ⟨w.heap.size + 1 + 1, 2, none⟩ (.slice la x.links.length lc)).heap[w.heap.size + 1]? = some (.cells #[.int .i64 0, .slice none 0 0, .slice none 0 0, .slice none 0 0] 26 (0, 0)) := heap_other (heap_below HR.out.res HB2.out (heap_lt HR.out.res)) (by omega) 2 _
      clear hx2 HF HL2 HB2 HR hb3
      generalize w2.setCell ⟨w.heap.size + 1 + 1, 2, none⟩ (.slice la x.links.length lc) = w3 at *
      have HF := Lib.hid hF3
      have HL := Lib.hid hL3
      have HB := Lib.hid hb4
      have HXr := Lib.hid hxr
      have HX3 := Lib.hid hx3
      have e2 : w3.cell? ⟨w.heap.size + 1 + 1, 3, none⟩ = some (.slice none 0 0) := heap_cell hx3 rfl
      have c2 : w3.cell? ⟨w.heap.size, 3, none⟩ = some (.slice x.ea x.events.length x.ec) := heap_cell hxb rfl
      have hb3 : w.heap.size + 1 + 1 + 1 ≤ w3.heap.size := heap_lt hx3
      have hrv := Lib.hid (HM.out.on hb4).events
      obtain ⟨i0, hi, hz0, hz1, hz2⟩ := info_parts Tryz.infoE
      have HI0 := Lib.hid hi
      have HZ0 := Lib.hid hz0
      have HZ1 := Lib.hid hz1
      have HZ2 := Lib.hid hz2
      have HKs : Hid (∀ W, Below w3.heap.size w3 W → W.heap[w.heap.size + 1 + 1]? = some (.cells #[.int .i64 x.ver, .slice pa x.procs.length pc, .slice la x.links.length lc, .slice none 0 0] 26 (0, 0))) := Lib.hid (fun W hb => heap_below HX3.out hb (heap_lt HX3.out))
      clear hi hz0 hz1 hz2 hF3 hL3 hb4 hxr hxb hx3
      go_upto_region 11 with (at_builtin; refine wpList_append_cl (enc := encE) (fit := fitE) (fun _ => rfl) oneEU rfl _ _ 24 rfl 57 i0 (.agg zE) 32 Tryz.underlying24 HI0.out HZ0.out HZ1.out HZ2.out rfl (by decide) _ rfl rfl hrv.out (by omega) ?_; intro ea eb ec w4 hov hbv; have hx2 := HKs.out _ hbv; have fz := heap_frozen hx2 3; have cz := heap_cell hx2 (i := 3) rfl; have HE2 := Lib.hid hov; have HB2 := Lib.hid hbv; clear hov hbv)
      clear e2 c2 hrv HI0 HZ0 HZ1 HZ2 HKs
      try clear fz
      try clear cz
      have hx5 : (w4.setCell ⟨w.heap.size + 1 + 1, 3, none⟩ (.slice ea x.events.length ec)).heap[w.heap.size + 1 + 1]? = some (.cells #[.int .i64 x.ver, .slice pa x.procs.length pc, .slice la x.links.length lc, .slice ea x.events.length ec] 26 (0, 0)) := heap_set hx2 3 _
      have hF5 : OwnM (w.heap.size + 1 + 1 + 1) (w4.setCell ⟨w.heap.size + 1 + 1, 3, none⟩ (.slice ea x.events.length ec)) ⟨x.ver, P, [], [], pa, pb, 0, pc, none, 0, 0, 0, none, 0, 0, 0⟩ := (HF.out.on HB2.out).box hx2 rfl 3 _
      have hL5 : OwnR encL fitL 5 42 (w.heap.size + 1 + 1 + 1) (w4.setCell ⟨w.heap.size + 1 + 1, 3, none⟩ (.slice ea x.events.length ec)) la lb x.links := (HL.out.on HB2.out).box (by omega) 3 _
      have hE5 : OwnR encE fitE 3 57 (w.heap.size + 1 + 1 + 1) (w4.setCell ⟨w.heap.size + 1 + 1, 3, none⟩ (.slice ea x.events.length ec)) ea eb x.events := (HE2.out.mono hb3).box (by omega) 3 _
      have hb6 : Below w.heap.size w (w4.setCell ⟨w.heap.size + 1 + 1, 3, none⟩ (.slice ea x.events.length ec)) := Below.box (HB.out.trans (HB2.out.mono HB.out.size)) (by omega) 3 _
      have hr5 : (w4.setCell ⟨w.heap.size + 1 + 1, 3, none⟩ (.slice ea x.events.length ec)).heap[w.heap.size + 1]? = some (.cells #[.int .i64 0, .slice none 0 0, .slice none 0 0, .slice none 0 0] 26 (0, 0)) := heap_other (heap_below HXr.out HB2.out (heap_lt HXr.out)) (by omega) 3 _
      clear hx2 HF HL HE2 HB2 HB hb3 HXr HX3
      generalize w4.setCell ⟨w.heap.size + 1 + 1, 3, none⟩ (.slice ea x.events.length ec) = w5 at *
      have HM5 : Hid (OwnM (w.heap.size + 1 + 1 + 1) w5 ⟨x.ver, P, x.links, x.events, pa, pb, 0, pc, la, lb, 0, lc, ea, eb, 0, ec⟩) := Lib.hid ⟨hF5.procs, rfl, hF5.inner, hL5, rfl, hE5, rfl⟩
      have HB5 := Lib.hid hb6
      have HR5 := Lib.hid hr5
      have c0 : w5.cell? ⟨w.heap.size + 1 + 1, 0, none⟩ = some (.int .i64 x.ver) := heap_cell hx5 rfl
      have c1 : w5.cell? ⟨w.heap.size + 1 + 1, 1, none⟩ = some (.slice pa x.procs.length pc) := heap_cell hx5 rfl
      have c2 : w5.cell? ⟨w.heap.size + 1 + 1, 2, none⟩ = some (.slice la x.links.length lc) := heap_cell hx5 rfl
      have c3 : w5.cell? ⟨w.heap.size + 1 + 1, 3, none⟩ = some (.slice ea x.events.length ec) := heap_cell hx5 rfl
      have f0 := heap_frozen hr5 0
      have f1 := heap_frozen hr5 1
      have f2 := heap_frozen hr5 2
      have f3 := heap_frozen hr5 3
      have d0 : w5.cell? ⟨w.heap.size + 1, 0, none⟩ = some (.int .i64 0) := heap_cell hr5 rfl
      have d1 : w5.cell? ⟨w.heap.size + 1, 1, none⟩ = some (.slice none 0 0) := heap_cell hr5 rfl
      have d2 : w5.cell? ⟨w.heap.size + 1, 2, none⟩ = some (.slice none 0 0) := heap_cell hr5 rfl
      have d3 : w5.cell? ⟨w.heap.size + 1, 3, none⟩ = some (.slice none 0 0) := heap_cell hr5 rfl
      clear hF5 hL5 hE5 hb6 hr5 hx5
      go_wp2
      have hr4 := heap_set (heap_set (heap_set (heap_set HR5.out 0 (.int .i64 x.ver)) 1 (.slice pa x.procs.length pc)) 2 (.slice la x.links.length lc)) 3 (.slice ea x.events.length ec)
      have hT : Turned (fun k => k = w.heap.size + 1) w5 _ := Turned.set' (Turned.set' (Turned.set' (Turned.set' (Turned.refl' (fun k => k = w.heap.size + 1) w5) rfl 0 (.int .i64 x.ver)) rfl 1 (.slice pa x.procs.length pc)) rfl 2 (.slice la x.links.length lc)) rfl 3 (.slice ea x.events.length ec)
      have hlow := Below.box (Below.box (Below.box (Below.box HB5.out (Nat.le_succ _) 0 (.int .i64 x.ver)) (Nat.le_succ _) 1 (.slice pa x.procs.length pc)) (Nat.le_succ _) 2 (.slice la x.links.length lc)) (Nat.le_succ _) 3 (.slice ea x.events.length ec)
      refine bodyPost_ret (mdl_ret rfl hr4 rfl) rfl ?_
      generalize (((w5.setCell ⟨w.heap.size + 1, 0, none⟩ (.int .i64 x.ver)).setCell ⟨w.heap.size + 1, 1, none⟩ (.slice pa x.procs.length pc)).setCell ⟨w.heap.size + 1, 2, none⟩ (.slice la x.links.length lc)).setCell ⟨w.heap.size + 1, 3, none⟩ (.slice ea x.events.length ec) = W4 at *
      refine ⟨⟨x.ver, P, x.links, x.events, pa, pb, 0, pc, la, lb, 0, lc, ea, eb, 0, ec⟩, by dsimp only; rw [HPl.out], by unfold ModelV.m; dsimp only; rw [HMm.out], ?_, hlow⟩
      exact (HM5.out.turned hT (fun b cur t hc hl e => by
        rw [e, HR5.out] at hc
        cases hc
        cases hl)).mono (by omega)
end Go.Proofs.YtjcmeacgfflfmaaGreat.Md
