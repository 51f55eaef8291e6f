/- Contract: a model copied, to the last list. -/
import Derived.Test.YtenjhbibhkjdaaaUa
set_option linter.unusedVariables false
set_option linter.unusedSectionVars false
set_option linter.unusedSimpArgs false
namespace Go.Proofs.Ytenjhbibhkjdaaa.Md
open Go.RowKit Go.Shelf

/-- A process whose lists are one's own. -/
structure OwnP (base : Nat) (W : World) (p : ProcV) : Prop where
  vars : OwnR encV fitV 2 81 base W p.va p.vb p.p.vars
  vo : p.vo = 0
  steps : OwnR encS fitS 5 100 base W p.sa p.sb p.p.steps
  so : p.so = 0
theorem OwnP.at_ {base : Nat} {W : World} {p : ProcV} (h : OwnP base W p) : ProcIn W.heap.size W p := ⟨by rw [h.vo]; exact h.vars.rows, by rw [h.so]; exact h.steps.rows⟩
theorem OwnP.on {base : Nat} {W W' : World} {p : ProcV} (h : OwnP base W p) (hb : Below W.heap.size W W') : OwnP base W' p := ⟨h.vars.on hb, h.vo, h.steps.on hb, h.so⟩
theorem OwnP.mono {base base' : Nat} {W : World} {p : ProcV} (h : OwnP base W p) (hb : base' ≤ base) : OwnP base' W p := ⟨h.vars.mono hb, h.vo, h.steps.mono hb, h.so⟩
/-- A model whose lists are one's own. -/
structure OwnM (base : Nat) (W : World) (x : ModelV) : Prop where
  procs : OwnR encP fitP 4 39 base W x.pa x.pb x.procs
  po : x.po = 0
  inner : ∀ p ∈ x.procs, OwnP base W p
  links : OwnR encL fitL 5 50 base W x.la x.lb x.links
  lo : x.lo = 0
  events : OwnR encE fitE 3 52 base W x.ea x.eb x.events
  eo : x.eo = 0
theorem OwnM.at_ {base : Nat} {W : World} {x : ModelV} (h : OwnM base W x) : ModelAt W.heap.size W x :=
  ⟨by rw [h.po]; exact h.procs.rows, fun p hp => (h.inner p hp).at_, by rw [h.lo]; exact h.links.rows, by rw [h.eo]; exact h.events.rows⟩
theorem OwnM.on {base : Nat} {W W' : World} {x : ModelV} (h : OwnM base W x) (hb : Below W.heap.size W W') : OwnM base W' x :=
  ⟨h.procs.on hb, h.po, fun p hp => (h.inner p hp).on hb, h.links.on hb, h.lo, h.events.on hb, h.eo⟩
theorem OwnM.mono {base base' : Nat} {W : World} {x : ModelV} (h : OwnM base W x) (hb : base' ≤ base) : OwnM base' W x :=
  ⟨h.procs.mono hb, h.po, fun p hp => (h.inner p hp).mono hb, h.links.mono hb, h.lo, h.events.mono hb, h.eo⟩
/-- Are a model's lists short enough to be copied? -/
structure Sized (m : ModelM) : Prop where
  procs : m.procs.length ≤ 20000
  links : m.links.length ≤ 20000
  events : m.events.length ≤ 20000
  inner : ∀ p ∈ m.procs, p.vars.length ≤ 20000 ∧ p.steps.length ≤ 20000

def CopyQ (w : World) (m : ModelM) (e : Ending) (w' : World) : Prop := ∃ x : ModelV, e = .returned (.agg #[.int .i64 x.ver, .slice x.pa x.procs.length x.pc, .slice x.la x.links.length x.lc, .slice x.ea x.events.length x.ec]) ∧ x.m = m ∧ OwnM w.heap.size w' x ∧ Below w.heap.size w w'
theorem Try.infoMd : (Try.prog.info? 26).map (·.size) = some 4 := by kernel_rfl
theorem mdl_ret {fn : Func} {p : Tmp} (h : fn.results = #[.cell p 26]) {W : World} {B : Nat} {a b c d : Value} {tmps : Array Value} (hx : W.heap[B]? = some (.cells #[a, b, c, d] 26 (0, 0)))
    (h2 : tmps.getD p undef = .pointer (some ⟨B, 0, none⟩)) : (results fn tmps).run Try.prog W = .ok (.agg #[a, b, c, d]) W :=
  results_cell_row h _ _ B 26 _ (0, 0) _ h2 hx Try.underlying26 rfl Try.infoMd
/-- While a model is copied: its boxes; its rows, the first j of which have lists of their own. -/
structure Cp (w : World) (x : ModelV) (pa : Option Addr) (pb pc : Nat) (la : Option Addr) (lb lc : Nat) (ea : Option Addr) (eb ec : Nat) (j : Nat) (P : List ProcV) (W : World) : Prop where
  box : W.heap[w.heap.size]? = some (.cells #[.int .i64 x.ver, .slice pa x.procs.length pc, .slice la x.links.length lc, .slice ea x.events.length ec] 26 (0, 0))
  res : W.heap[w.heap.size + 1]? = some (.cells #[.int .i64 0, .slice none 0 0, .slice none 0 0, .slice none 0 0] 26 (0, 0))
  procs : OwnR encP fitP 4 39 w.heap.size W pa pb P
  links : OwnR encL fitL 5 50 w.heap.size W la lb x.links
  events : OwnR encE fitE 3 52 w.heap.size W ea eb x.events
  len : P.length = x.procs.length
  each : ∀ (i : Nat) q, P[i]? = some q → ∃ q0, x.procs[i]? = some q0 ∧ q.p = q0.p ∧ (i < j → OwnP w.heap.size W q) ∧ (j ≤ i → q = q0)
  low : Below w.heap.size w W
theorem Cp.on {w : World} {x : ModelV} {pa : Option Addr} {pb pc : Nat} {la : Option Addr} {lb lc : Nat} {ea : Option Addr} {eb ec : Nat} {j : Nat} {P : List ProcV} {W W' : World} (h : Cp w x pa pb pc la lb lc ea eb ec j P W) (hb : Below W.heap.size W W') : Cp w x pa pb pc la lb lc ea eb ec j P W' :=
  ⟨heap_below h.box hb (heap_lt h.box), heap_below h.res hb (heap_lt h.res), h.procs.on hb, h.links.on hb, h.events.on hb, h.len, fun i q hi => by
    obtain ⟨q0, h1, h2, h3, h4⟩ := h.each i q hi
    exact ⟨q0, h1, h2, fun hj => (h3 hj).on hb, h4⟩, h.low.trans (hb.mono h.low.size)⟩
theorem Turned.one (W : World) (N i : Nat) (v : Value) : Turned (fun k => k = N) W (W.setCell ⟨N, i, none⟩ v) := Turned.set' (R := fun k => k = N) (Turned.refl' _ _) rfl i v
theorem OwnR.box {α : Type} {enc : α → List Value} {fit : α → Prop} {sz : Nat} {t : TypeId} {base N : Nat} {W : World} {a : Option Addr} {b : Nat} {L : List α} (h : OwnR enc fit sz t base W a b L) (hN : N < base) (i : Nat) (v : Value) : OwnR enc fit sz t base (W.setCell ⟨N, i, none⟩ v) a b L :=
  h.turned (R := fun k => k = N) (Turned.one W N i v) (fun hb _ _ e => by omega)
theorem Below.box {w W : World} {B N : Nat} (h : Below B w W) (hN : B ≤ N) (i : Nat) (v : Value) : Below B w (W.setCell ⟨N, i, none⟩ v) := h.setCell (p := ⟨N, i, none⟩) hN v
theorem OwnR.other {α β : Type} {enc : α → List Value} {fit : α → Prop} {sz : Nat} {t t' : TypeId} {base pb : Nat} {W W' : World} {a : Option Addr} {b : Nat} {L : List α} {enc' : β → List Value} {sz' : Nat} {P : List β} (h : OwnR enc fit sz t base W a b L) (hr : RowC enc' sz' W pb t' P) (hT : Turned (fun k => k = pb) W W') (ht : t ≠ t') : OwnR enc fit sz t base W' a b L :=
  h.turned hT (fun _ cur hc e => by
    obtain ⟨cur', hc', _⟩ := hr
    rw [e, hc'] at hc
    cases hc
    exact ht rfl)
theorem OwnP.other {base pb : Nat} {W W' : World} {p : ProcV} {P : List ProcV} (h : OwnP base W p) (hr : RowC encP 4 W pb 39 P) (hT : Turned (fun k => k = pb) W W') : OwnP base W' p :=
  ⟨h.vars.other hr hT (by decide), h.vo, h.steps.other hr hT (by decide), h.so⟩
theorem encP_vars (q : ProcV) (va : Option Addr) (vb vc : Nat) : ∀ r u, (encP { q with va := va, vb := vb, vo := 0, vc := vc })[r]? = some u → (r = 2 ∧ u = .slice va q.p.vars.length vc) ∨ (r ≠ 2 ∧ (encP q)[r]? = some u) := by
  intro r u hu
  rcases r with _ | _ | _ | _ | r
  · exact .inr ⟨by decide, hu⟩
  · exact .inr ⟨by decide, hu⟩
  · exact .inl ⟨rfl, by simpa [encP, ProcV.vv] using hu.symm⟩
  · exact .inr ⟨by decide, hu⟩
  · simp [encP] at hu
theorem encP_steps (q : ProcV) (sa : Option Addr) (sb sc : Nat) : ∀ r u, (encP { q with sa := sa, sb := sb, so := 0, sc := sc })[r]? = some u → (r = 3 ∧ u = .slice sa q.p.steps.length sc) ∨ (r ≠ 3 ∧ (encP q)[r]? = some u) := by
  intro r u hu
  rcases r with _ | _ | _ | _ | r
  · exact .inr ⟨by decide, hu⟩
  · exact .inr ⟨by decide, hu⟩
  · exact .inr ⟨by decide, hu⟩
  · exact .inl ⟨rfl, by simpa [encP, ProcV.sv] using hu.symm⟩
  · simp [encP] at hu
theorem Cp.next {w : World} {x : ModelV} {pa : Option Addr} {pb pc : Nat} {la : Option Addr} {lb lc : Nat} {ea : Option Addr} {eb ec : Nat} {j : Nat} {P : List ProcV} {W W' : World} (h : Cp w x pa pb pc la lb lc ea eb ec j P W) (hr : RowC encP 4 W pb 39 P) (hpa : pa = some ⟨pb, 0, none⟩) (hpb : w.heap.size ≤ pb)
    (hT : Turned (fun k => k = pb) W W') {q q2 : ProcV} (hq0 : x.procs[j]? = some q) (hr2 : RowC encP 4 W' pb 39 (P.set j q2)) (ho : OwnP w.heap.size W' q2) (hp : q2.p = q.p) : Cp w x pa pb pc la lb lc ea eb ec (j + 1) (P.set j q2) W' := by
  obtain ⟨cur, hc, _⟩ := id hr
  have hne : ∀ {b : Nat} {cs : Array Value}, W.heap[b]? = some (.cells cs 26 (0, 0)) → ¬ b = pb := fun hb e => by
    rw [e, hc] at hb
    cases hb
  refine ⟨hT.old h.box (hne h.box), hT.old h.res (hne h.res), ⟨.inr ⟨hpa, hpb, hr2⟩, by rw [List.length_set]; exact h.procs.small, fun y hy => ?_⟩, h.links.other hr hT (by decide), h.events.other hr hT (by decide), by rw [List.length_set]; exact h.len, fun i y hi => ?_, h.low.trans ((Turned.to_b hT (B := w.heap.size) (fun k hk e => by omega) h.low.size))⟩
  · rcases List.mem_or_eq_of_mem_set hy with h1 | h1
    · exact h.procs.fits y h1
    · subst h1
      obtain ⟨i0, hi0⟩ := List.getElem?_of_mem (List.mem_of_getElem? hq0)
      show y.p.name.size ≤ maxLen
      rw [hp]
      have hjl : j < P.length := by rw [h.len]; exact (List.getElem?_eq_some_iff.1 hq0).1
      obtain ⟨q0, h1, h2, _⟩ := h.each j _ (List.getElem?_eq_getElem hjl)
      rw [hq0] at h1
      cases h1
      rw [← h2]
      exact h.procs.fits _ (List.getElem_mem hjl)
  · by_cases e : i = j
    · subst e
      have hil : i < P.length := by rw [h.len]; exact (List.getElem?_eq_some_iff.1 hq0).1
      rw [List.getElem?_set_self hil] at hi
      cases hi
      exact ⟨q, hq0, hp, fun _ => ho, fun hj => by omega⟩
    · rw [List.getElem?_set_ne (fun h => e h.symm)] at hi
      obtain ⟨q0, h1, h2, h3, h4⟩ := h.each i y hi
      exact ⟨q0, h1, h2, fun hj => (h3 (by omega)).other hr hT, fun hj => h4 (by omega)⟩
set_option maxRecDepth 100000 in
set_option maxHeartbeats 4000000 in
theorem copy_any {w : World} {x : ModelV} (h : ModelAt w.heap.size w x) (hs : Sized x.m) : Calls Try.prog 59 #[.agg #[.int .i64 x.ver, .slice x.pa x.procs.length x.pc, .slice x.la x.links.length x.lc, .slice x.ea x.events.length x.ec]] w (CopyQ w x.m) := by
  have HM := Lib.hid h
  have HS := Lib.hid hs
  have hx1 := heap_alloc (heap_new (w := w) (.cells #[.int .i64 x.ver, .slice x.pa x.procs.length x.pc, .slice x.la x.links.length x.lc, .slice x.ea x.events.length x.ec] 26) rfl) (.cells #[.int .i64 0, .slice none 0 0, .slice none 0 0, .slice none 0 0] 26)
  have hr1 := heap_new (w := w.alloc (.cells #[.int .i64 x.ver, .slice x.pa x.procs.length x.pc, .slice x.la x.links.length x.lc, .slice x.ea x.events.length x.ec] 26)) (.cells #[.int .i64 0, .slice none 0 0, .slice none 0 0, .slice none 0 0] 26) rfl
  have hb1 := (below_one w (.cells #[.int .i64 x.ver, .slice x.pa x.procs.length x.pc, .slice x.la x.links.length x.lc, .slice x.ea x.events.length x.ec] 26)).alloc (by simp) (.cells #[.int .i64 0, .slice none 0 0, .slice none 0 0, .slice none 0 0] 26)
  rw [World.size_alloc] at hr1
  have HX := Lib.hid hx1
  have HR := Lib.hid hr1
  have HB := Lib.hid hb1
  clear h hs hx1 hr1 hb1
  go_enter Try.func59, Try.ntmps59
  go_upto_region 1 with fail
  generalize (w.alloc (.cells #[.int .i64 x.ver, .slice x.pa x.procs.length x.pc, .slice x.la x.links.length x.lc, .slice x.ea x.events.length x.ec] 26)).alloc (.cells #[.int .i64 0, .slice none 0 0, .slice none 0 0, .slice none 0 0] 26) = w1 at *
  have c1 : w1.cell? ⟨w.heap.size, 1, none⟩ = some (.slice x.pa x.procs.length x.pc) := heap_cell HX.out rfl
  go_wp2_with fail
  refine (cloneP_any (HM.out.on HB.out).procs (by have := HS.out.procs; unfold ModelV.m at this; first | (rw [List.length_map] at this; omega) | (dsimp only at this; omega))).mono ?_
  rintro e w2 ⟨pa, pb, pc, rfl, hr, hb⟩
  clear c1
  have hN : w.heap.size + 1 < w1.heap.size := heap_lt HR.out
  have hN0 : w.heap.size < w1.heap.size := by omega
  have hx2 := heap_below HX.out hb (heap_lt HX.out)
  have hr2 := heap_below HR.out hb (heap_lt HR.out)
  have hx3 : (w2.setCell ⟨w.heap.size, 1, none⟩ (.slice pa x.procs.length pc)).heap[w.heap.size]? = some (.cells #[.int .i64 x.ver, .slice pa x.procs.length pc, .slice x.la x.links.length x.lc, .slice x.ea x.events.length x.ec] 26 (0, 0)) := heap_set hx2 1 _
  have hr3 := heap_other hr2 (show w.heap.size + 1 ≠ w.heap.size by omega) 1 (.slice pa x.procs.length pc)
  have hb3 := Below.box (HB.out.trans (hb.mono HB.out.size)) (Nat.le_refl _) 1 (.slice pa x.procs.length pc)
  have hown := (OwnR.box hr hN0 1 (.slice pa x.procs.length pc)).mono HB.out.size
  have c1 : w2.cell? ⟨w.heap.size, 1, none⟩ = some (.slice x.pa x.procs.length x.pc) := heap_cell hx2 rfl
  have f1 := heap_frozen hx2 1
  go_upto_region 2 with fail
  clear c1 f1
  generalize w2.setCell ⟨w.heap.size, 1, none⟩ (.slice pa x.procs.length pc) = w3 at *
  replace HX := Lib.hid hx3
  replace HR := Lib.hid hr3
  replace HB := Lib.hid hb3
  have HP := Lib.hid hown
  clear hx2 hr2 hx3 hr3 hb3 hown hN hN0 hr hb 
  have c2 : w3.cell? ⟨w.heap.size, 2, none⟩ = some (.slice x.la x.links.length x.lc) := heap_cell HX.out rfl
  go_wp2_with fail
  refine (cloneL_any (HM.out.on HB.out).links (by have := HS.out.links; unfold ModelV.m at this; first | (rw [List.length_map] at this; omega) | (dsimp only at this; omega))).mono ?_
  rintro e w4 ⟨la, lb, lc, rfl, hr, hb⟩
  clear c2
  have hN : w.heap.size + 1 < w3.heap.size := heap_lt HR.out
  have hN0 : w.heap.size < w3.heap.size := by omega
  have hx2 := heap_below HX.out hb (heap_lt HX.out)
  have hr2 := heap_below HR.out hb (heap_lt HR.out)
  have hx3 : (w4.setCell ⟨w.heap.size, 2, none⟩ (.slice la x.links.length lc)).heap[w.heap.size]? = some (.cells #[.int .i64 x.ver, .slice pa x.procs.length pc, .slice la x.links.length lc, .slice x.ea x.events.length x.ec] 26 (0, 0)) := heap_set hx2 2 _
  have hr3 := heap_other hr2 (show w.heap.size + 1 ≠ w.heap.size by omega) 2 (.slice la x.links.length lc)
  have hb3 := Below.box (HB.out.trans (hb.mono HB.out.size)) (Nat.le_refl _) 2 (.slice la x.links.length lc)
  have HP' := OwnR.turned (R := fun k => k = w.heap.size) (HP.out.on hb) (Turned.one _ _ 2 (.slice la x.links.length lc)) (fun _ cur hc e => by rw [e, hx2] at hc; cases hc)
  have hown := (OwnR.box hr hN0 2 (.slice la x.links.length lc)).mono HB.out.size
  have c2 : w4.cell? ⟨w.heap.size, 2, none⟩ = some (.slice x.la x.links.length x.lc) := heap_cell hx2 rfl
  have f2 := heap_frozen hx2 2
  go_upto_region 3 with fail
  clear c2 f2
  generalize w4.setCell ⟨w.heap.size, 2, none⟩ (.slice la x.links.length lc) = w5 at *
  replace HX := Lib.hid hx3
  replace HR := Lib.hid hr3
  replace HB := Lib.hid hb3
  replace HP := Lib.hid HP'
  have HL := Lib.hid hown
  clear hx2 hr2 hx3 hr3 hb3 hown hN hN0 hr hb HP'
  have c3 : w5.cell? ⟨w.heap.size, 3, none⟩ = some (.slice x.ea x.events.length x.ec) := heap_cell HX.out rfl
  go_wp2_with fail
  refine (cloneE_any (HM.out.on HB.out).events (by have := HS.out.events; unfold ModelV.m at this; first | (rw [List.length_map] at this; omega) | (dsimp only at this; omega))).mono ?_
  rintro e w6 ⟨ea, eb, ec, rfl, hr, hb⟩
  clear c3
  have hN : w.heap.size + 1 < w5.heap.size := heap_lt HR.out
  have hN0 : w.heap.size < w5.heap.size := by omega
  have hx2 := heap_below HX.out hb (heap_lt HX.out)
  have hr2 := heap_below HR.out hb (heap_lt HR.out)
  have hx3 : (w6.setCell ⟨w.heap.size, 3, none⟩ (.slice ea x.events.length ec)).heap[w.heap.size]? = some (.cells #[.int .i64 x.ver, .slice pa x.procs.length pc, .slice la x.links.length lc, .slice ea x.events.length ec] 26 (0, 0)) := heap_set hx2 3 _
  have hr3 := heap_other hr2 (show w.heap.size + 1 ≠ w.heap.size by omega) 3 (.slice ea x.events.length ec)
  have hb3 := Below.box (HB.out.trans (hb.mono HB.out.size)) (Nat.le_refl _) 3 (.slice ea x.events.length ec)
  have HP' := OwnR.turned (R := fun k => k = w.heap.size) (HP.out.on hb) (Turned.one _ _ 3 (.slice ea x.events.length ec)) (fun _ cur hc e => by rw [e, hx2] at hc; cases hc)
  have HL' := OwnR.turned (R := fun k => k = w.heap.size) (HL.out.on hb) (Turned.one _ _ 3 (.slice ea x.events.length ec)) (fun _ cur hc e => by rw [e, hx2] at hc; cases hc)
  have hown := (OwnR.box hr hN0 3 (.slice ea x.events.length ec)).mono HB.out.size
  have c3 : w6.cell? ⟨w.heap.size, 3, none⟩ = some (.slice x.ea x.events.length x.ec) := heap_cell hx2 rfl
  have f3 := heap_frozen hx2 3
  go_upto_region 4 with fail
  clear c3 f3
  generalize w6.setCell ⟨w.heap.size, 3, none⟩ (.slice ea x.events.length ec) = w7 at *
  replace HX := Lib.hid hx3
  replace HR := Lib.hid hr3
  replace HB := Lib.hid hb3
  replace HP := Lib.hid HP'
  replace HL := Lib.hid HL'
  have HE := Lib.hid hown
  clear hx2 hr2 hx3 hr3 hb3 hown hN hN0 hr hb HP' HL'
  have HC : Hid (Cp w x pa pb pc la lb lc ea eb ec 0 x.procs w7) := Lib.hid ⟨HX.out, HR.out, HP.out, HL.out, HE.out, rfl, fun i q hi => ⟨q, hi, rfl, fun h => absurd h (Nat.not_lt_zero _), fun _ => rfl⟩, HB.out⟩
  have c1 : w7.cell? ⟨w.heap.size, 1, none⟩ = some (.slice pa x.procs.length pc) := heap_cell HX.out rfl
  have hsm : (x.procs.length : Int) ≤ 20000 := by have := HS.out.procs; unfold ModelV.m at this; rw [List.length_map] at this; omega
  go_wp2_with fail
  clear c1 HX HR HB HP HL HE
  go_loopw [20] (fun i wr => ∃ (j : Nat) (P : List ProcV), i = .int .i64 (j : Int) ∧ j ≤ x.procs.length ∧ Hid (Cp w x pa pb pc la lb lc ea eb ec j P wr)) (fun i _ => x.procs.length - (intOf i).toNat)
  case atStart => exact ⟨0, _, rfl, Nat.zero_le _, HC⟩
  case round =>
    clear HC
    obtain ⟨j, P, rfl, hj, HC⟩ := hrel
    have hj0 : (0 : Int) ≤ (j : Int) := Int.natCast_nonneg j
    by_cases hlt : j < x.procs.length
    · have hji : (j : Int) < (x.procs.length : Int) := by omega
      obtain ⟨q, hq⟩ : ∃ q, P[j]? = some q := ⟨_, List.getElem?_eq_getElem (by rw [HC.out.len]; exact hlt)⟩
      obtain ⟨q0, hq0, _, _, hqq⟩ := HC.out.each j q hq
      obtain rfl := hqq (Nat.le_refl _)
      obtain ⟨rfl, hbase, hrow⟩ := HC.out.procs.own.resolve_left (fun e => by rw [e] at hq; simp at hq)
      have HRow := Lib.hid hrow
      have r0 : wr.cell? ⟨pb, j * 4, none⟩ = some (.string q.p.name) := hrow.cell hq (r := 0) rfl
      have r1 : wr.cell? ⟨pb, j * 4 + 1, none⟩ = some (.int .i64 q.p.weight) := hrow.cell hq (r := 1) rfl
      have r2 : wr.cell? ⟨pb, j * 4 + 2, none⟩ = some (.slice q.va q.p.vars.length q.vc) := hrow.cell hq (r := 2) rfl
      have r3 : wr.cell? ⟨pb, j * 4 + 3, none⟩ = some (.slice q.sa q.p.steps.length q.sc) := hrow.cell hq (r := 3) rfl
      go_upto_region 7 with fail
      have HC8 : Hid (Cp w x (some ⟨pb, 0, none⟩) pb pc la lb lc ea eb ec j P (wr.alloc (.cells #[.string q.p.name, .int .i64 q.p.weight, .slice q.va q.p.vars.length q.vc, .slice q.sa q.p.steps.length q.sc] 39))) := Lib.hid (HC.out.on (below_one _ _))
      have HO8 := Lib.hid (heap_new (w := wr) (.cells #[.string q.p.name, .int .i64 q.p.weight, .slice q.va q.p.vars.length q.vc, .slice q.sa q.p.steps.length q.sc] 39) rfl)
      have HRow8 : Hid (RowC encP 4 (wr.alloc (.cells #[.string q.p.name, .int .i64 q.p.weight, .slice q.va q.p.vars.length q.vc, .slice q.sa q.p.steps.length q.sc] 39)) pb 39 P) := Lib.hid (HRow.out.on (below_one _ _))
      have hnN : w.heap.size < wr.heap.size := heap_lt HC.out.box
      have hpb : pb < wr.heap.size := HRow.out.lt
      have hbne : ¬ pb = wr.heap.size := by omega
      have HPi := Lib.hid (HM.out.inner q (List.mem_of_getElem? hq0))
      have hvl : q.p.vars.length ≤ 20000 ∧ q.p.steps.length ≤ 20000 := HS.out.inner q.p (by unfold ModelV.m; exact List.mem_map_of_mem (List.mem_of_getElem? hq0))
      have HQ := Lib.hid hq
      have HQ0 := Lib.hid hq0
      clear r0 r1 r2 r3 HC HRow hrow hqq hq0 hq
      have hz8 : (wr.alloc (.cells #[.string q.p.name, .int .i64 q.p.weight, .slice q.va q.p.vars.length q.vc, .slice q.sa q.p.steps.length q.sc] 39)).heap.size = wr.heap.size + 1 := World.size_alloc _ _
      generalize wr.alloc (.cells #[.string q.p.name, .int .i64 q.p.weight, .slice q.va q.p.vars.length q.vc, .slice q.sa q.p.steps.length q.sc] 39) = w8 at *
      have HZ8 := Lib.hid hz8
      clear hz8
      have hne8 : ¬ w.heap.size = pb := fun e => by
        obtain ⟨cur, hc, _⟩ := HRow8.out
        rw [← e, HC8.out.box] at hc
        cases hc
      have dN : ∀ W, Turned (fun k => k = pb) w8 W → W.cell? ⟨w.heap.size, 1, none⟩ = some (.slice (some ⟨pb, 0, none⟩) x.procs.length pc) := fun W hW => heap_cell (hW.old HC8.out.box hne8) rfl
      have dP : ∀ W, Turned (fun k => k = pb) w8 W → W.cell? ⟨wr.heap.size, 2, none⟩ = some (.slice q.va q.p.vars.length q.vc) := fun W hW => heap_cell (hW.old HO8.out (fun e => hbne e.symm)) rfl
      have dR : ∀ W, Below w8.heap.size w8 W → W.cell? ⟨pb, j * 4 + 2, none⟩ = some (.slice q.va q.p.vars.length q.vc) := fun W hW => (HRow8.out.on hW).cell HQ.out (r := 2) rfl
      have dF : ∀ W, Below w8.heap.size w8 W → W.frozen? ⟨pb, j * 4 + 2, none⟩ = false := fun W hW => (HRow8.out.on hW).frozen _
      have DR := Lib.hid dR
      have DF := Lib.hid dF
      clear dR dF
      have CV : Hid (∀ W, Below w8.heap.size w8 W → Calls Try.prog 88 #[.slice q.va q.p.vars.length q.vc] W (fun e w9 => ∃ va vb vc, e = .returned (.slice va q.p.vars.length vc) ∧ Hid (OwnR encV fitV 2 81 w8.heap.size w9 va vb q.p.vars) ∧ Hid (Below w8.heap.size w8 w9))) := Lib.hid (fun W hW => (cloneV_any (HPi.out.on (HC8.out.on hW).low).vars (by omega)).mono (fun e w9 ⟨va, vb, vc, h1, h2, h3⟩ => ⟨va, vb, vc, h1, Lib.hid (h2.mono hW.size), Lib.hid (hW.trans (h3.mono hW.size))⟩))
      go_region_held3 (fun W => Turned (fun k => k = pb) w8 W) (first | assumption | exact Turned.refl' _ _ | exact Turned.drew' (Turned.refl' _ _) | exact Turned.drew' (by assumption) | exact Turned.of_b hB9.out | exact Turned.drew' (Turned.of_b hB9.out) | exact Turned.set' (R := fun k => k = pb) (Turned.of_b hB9.out) rfl _ _) (
        (go_at_call 88; refine (CV.out _ (by first | assumption | exact Below.refl _ _ | exact (Below.refl _ _).drew)).mono ?_; clear CV; rintro e w9 ⟨va, vb, vc, rfl, hV, hB9⟩; have r9 := DR.out _ hB9.out; have f9 := DF.out _ hB9.out))
      have hT10 : Turned (fun k => k = pb) w8 (w9.setCell ⟨pb, j * 4 + 2, none⟩ (.slice va q.p.vars.length vc)) := by assumption
      have hR10 : RowC encP 4 (w9.setCell ⟨pb, j * 4 + 2, none⟩ (.slice va q.p.vars.length vc)) pb 39 (P.set j { q with va := va, vb := vb, vo := 0, vc := vc }) := RowC.set (enc := encP) (fun _ => rfl) (HRow8.out.on hB9.out) HQ.out (q := 2) (by decide) (encP_vars q va vb vc)
      have hV10 : OwnR encV fitV 2 81 w8.heap.size (w9.setCell ⟨pb, j * 4 + 2, none⟩ (.slice va q.p.vars.length vc)) va vb q.p.vars := hV.out.turned (Turned.one _ _ _ _) (fun hb _ _ e => by have := HRow8.out.lt; omega)
      have hPT10 : Below w.heap.size w (w9.setCell ⟨pb, j * 4 + 2, none⟩ (.slice va q.p.vars.length vc)) := HC8.out.low.trans (Turned.to_b hT10 (B := w.heap.size) (fun k hk e => by omega) HC8.out.low.size)
      go_upto_region 8 with fail
      clear dN dP r9 f9
      generalize w9.setCell ⟨pb, j * 4 + 2, none⟩ (.slice va q.p.vars.length vc) = w10 at *
      have HT10 := Lib.hid hT10
      have HR10 := Lib.hid hR10
      have HV10 := Lib.hid hV10
      have HB10 := Lib.hid hPT10
      have hjP : j < P.length := by rw [HC8.out.len]; exact hlt
      have HQ10 : Hid ((P.set j { q with va := va, vb := vb, vo := 0, vc := vc })[j]? = some { q with va := va, vb := vb, vo := 0, vc := vc }) := Lib.hid (List.getElem?_set_self hjP)
      clear hT10 hR10 hV10 hPT10 hV DR DF hjP
      have dN : ∀ W, Turned (fun k => k = pb) w10 W → W.cell? ⟨w.heap.size, 1, none⟩ = some (.slice (some ⟨pb, 0, none⟩) x.procs.length pc) := fun W hW => heap_cell (hW.old (HT10.out.old HC8.out.box hne8) hne8) rfl
      have dP : ∀ W, Turned (fun k => k = pb) w10 W → W.cell? ⟨wr.heap.size, 3, none⟩ = some (.slice q.sa q.p.steps.length q.sc) := fun W hW => heap_cell (hW.old (HT10.out.old HO8.out (fun e => hbne e.symm)) (fun e => hbne e.symm)) rfl
      have DR : Hid (∀ W, Below w10.heap.size w10 W → W.cell? ⟨pb, j * 4 + 3, none⟩ = some (.slice q.sa q.p.steps.length q.sc)) := Lib.hid (fun W hW => (HR10.out.on hW).cell HQ10.out (r := 3) rfl)
      have DF : Hid (∀ W, Below w10.heap.size w10 W → W.frozen? ⟨pb, j * 4 + 3, none⟩ = false) := Lib.hid (fun W hW => (HR10.out.on hW).frozen _)
      have CS : Hid (∀ W, Below w10.heap.size w10 W → Calls Try.prog 89 #[.slice q.sa q.p.steps.length q.sc] W (fun e w11 => ∃ sa sb sc, e = .returned (.slice sa q.p.steps.length sc) ∧ Hid (OwnR encS fitS 5 100 w10.heap.size w11 sa sb q.p.steps) ∧ Hid (Below w10.heap.size w10 w11))) := Lib.hid (fun W hW => (cloneS_any (HPi.out.on (HB10.out.trans (hW.mono HB10.out.size))).steps (by omega)).mono (fun e w11 ⟨sa, sb, sc, h1, h2, h3⟩ => ⟨sa, sb, sc, h1, Lib.hid (h2.mono hW.size), Lib.hid (hW.trans (h3.mono hW.size))⟩))
      go_region_held3 (fun W => Turned (fun k => k = pb) w10 W) (first | assumption | exact Turned.refl' _ _ | exact Turned.drew' (Turned.refl' _ _) | exact Turned.drew' (by assumption) | exact Turned.of_b hB11.out | exact Turned.drew' (Turned.of_b hB11.out) | exact Turned.set' (R := fun k => k = pb) (Turned.of_b hB11.out) rfl _ _) (
        (go_at_call 89; refine (CS.out _ (by first | assumption | exact Below.refl _ _ | exact (Below.refl _ _).drew)).mono ?_; clear CS; rintro e w11 ⟨sa, sb, sc, rfl, hS, hB11⟩; have r11 := DR.out _ hB11.out; have f11 := DF.out _ hB11.out))
      have hT12 : Turned (fun k => k = pb) w10 (w11.setCell ⟨pb, j * 4 + 3, none⟩ (.slice sa q.p.steps.length sc)) := by assumption
      have hR12 : RowC encP 4 (w11.setCell ⟨pb, j * 4 + 3, none⟩ (.slice sa q.p.steps.length sc)) pb 39 (P.set j { q with va := va, vb := vb, vo := 0, vc := vc, sa := sa, sb := sb, so := 0, sc := sc }) := by
        have := RowC.set (enc := encP) (fun _ => rfl) (HR10.out.on hB11.out) HQ10.out (q := 3) (by decide) (encP_steps { q with va := va, vb := vb, vo := 0, vc := vc } sa sb sc)
        rw [List.set_set] at this
        exact this
      have hpl : pb < w10.heap.size := HR10.out.lt
      have hS12 : OwnR encS fitS 5 100 w10.heap.size (w11.setCell ⟨pb, j * 4 + 3, none⟩ (.slice sa q.p.steps.length sc)) sa sb q.p.steps := hS.out.turned (Turned.one _ _ _ _) (fun hb _ _ e => by omega)
      have hV12 : OwnR encV fitV 2 81 w8.heap.size (w11.setCell ⟨pb, j * 4 + 3, none⟩ (.slice sa q.p.steps.length sc)) va vb q.p.vars := (HV10.out.on hB11.out).turned (Turned.one _ _ _ _) (fun hb _ _ e => by have := HRow8.out.lt; omega)
      have HC12 := Lib.hid (HC8.out.next HRow8.out rfl hbase (Turned.trans' HT10.out hT12) HQ0.out hR12 ⟨hV12.mono HC8.out.low.size, rfl, hS12.mono HB10.out.size, rfl⟩ rfl)
      clear hT12 hR12 hS12 hV12 dN dP DR DF hS r11 f11
      go_wp2
      refine ⟨⟨j + 1, _, by simp, by omega, HC12⟩, ?_⟩
      unfold intOf
      simp
      omega
    · obtain rfl : j = x.procs.length := by omega
      have c0 : wr.cell? ⟨w.heap.size, 0, none⟩ = some (.int .i64 x.ver) := heap_cell HC.out.box rfl
      have c1 : wr.cell? ⟨w.heap.size, 1, none⟩ = some (.slice pa x.procs.length pc) := heap_cell HC.out.box rfl
      have c2 : wr.cell? ⟨w.heap.size, 2, none⟩ = some (.slice la x.links.length lc) := heap_cell HC.out.box rfl
      have c3 : wr.cell? ⟨w.heap.size, 3, none⟩ = some (.slice ea x.events.length ec) := heap_cell HC.out.box rfl
      have f0 := heap_frozen HC.out.res 0
      have d0 : wr.cell? ⟨w.heap.size + 1, 0, none⟩ = some (.int .i64 0) := heap_cell HC.out.res rfl
      have d1 : wr.cell? ⟨w.heap.size + 1, 1, none⟩ = some (.slice none 0 0) := heap_cell HC.out.res rfl
      have d2 : wr.cell? ⟨w.heap.size + 1, 2, none⟩ = some (.slice none 0 0) := heap_cell HC.out.res rfl
      have d3 : wr.cell? ⟨w.heap.size + 1, 3, none⟩ = some (.slice none 0 0) := heap_cell HC.out.res rfl
      have f1 := heap_frozen HC.out.res 1
      have f2 := heap_frozen HC.out.res 2
      have f3 := heap_frozen HC.out.res 3
      go_wp2
      have hr4 := heap_set (heap_set (heap_set (heap_set HC.out.res 0 (.int .i64 x.ver)) 1 (.slice pa x.procs.length pc)) 2 (.slice la x.links.length lc)) 3 (.slice ea x.events.length ec)
      have hT : Turned (fun k => k = w.heap.size + 1) wr _ := Turned.set' (Turned.set' (Turned.set' (Turned.set' (Turned.refl' (fun k => k = w.heap.size + 1) wr) rfl 0 (.int .i64 x.ver)) rfl 1 (.slice pa x.procs.length pc)) rfl 2 (.slice la x.links.length lc)) rfl 3 (.slice ea x.events.length ec)
      have hlow := Below.box (Below.box (Below.box (Below.box HC.out.low (Nat.le_succ _) 0 (.int .i64 x.ver)) (Nat.le_succ _) 1 (.slice pa x.procs.length pc)) (Nat.le_succ _) 2 (.slice la x.links.length lc)) (Nat.le_succ _) 3 (.slice ea x.events.length ec)
      refine bodyPost_ret (mdl_ret rfl hr4 rfl) rfl ?_
      generalize (((wr.setCell ⟨w.heap.size + 1, 0, none⟩ (.int .i64 x.ver)).setCell ⟨w.heap.size + 1, 1, none⟩ (.slice pa x.procs.length pc)).setCell ⟨w.heap.size + 1, 2, none⟩ (.slice la x.links.length lc)).setCell ⟨w.heap.size + 1, 3, none⟩ (.slice ea x.events.length ec) = W4 at *
      have hm : P.map (fun y => y.p) = x.procs.map (fun y => y.p) := by
        apply List.ext_getElem?
        intro i
        rw [List.getElem?_map, List.getElem?_map]
        cases hi : P[i]? with
        | none =>
          rw [List.getElem?_eq_none (by rw [← HC.out.len]; exact List.getElem?_eq_none_iff.1 hi)]
        | some q =>
          obtain ⟨q0, h1, h2, _⟩ := HC.out.each i q hi
          rw [h1]
          simp [h2]
      refine ⟨⟨x.ver, P, x.links, x.events, pa, pb, 0, pc, la, lb, 0, lc, ea, eb, 0, ec⟩, by dsimp only; rw [HC.out.len], by unfold ModelV.m; dsimp only; rw [hm], ?_, hlow⟩
      have hne : ∀ {b : Nat} {cs : Array Value} {t : TypeId}, wr.heap[b]? = some (.cells cs t (0, 0)) → t ≠ 26 → ¬ b = w.heap.size + 1 := fun hb ht e => by
        rw [e, HC.out.res] at hb
        cases hb
        exact ht rfl
      exact ⟨HC.out.procs.turned hT (fun _ _ hc => hne hc (by decide)), rfl, fun p hp => by
        obtain ⟨i, hi⟩ := List.getElem?_of_mem hp
        obtain ⟨q0, _, _, h3, _⟩ := HC.out.each i p hi
        have h4 := h3 (by rw [← HC.out.len]; exact (List.getElem?_eq_some_iff.1 hi).1)
        exact ⟨h4.vars.turned hT (fun _ _ hc => hne hc (by decide)), h4.vo, h4.steps.turned hT (fun _ _ hc => hne hc (by decide)), h4.so⟩, HC.out.links.turned hT (fun _ _ hc => hne hc (by decide)), rfl, HC.out.events.turned hT (fun _ _ hc => hne hc (by decide)), rfl⟩
end Go.Proofs.Ytenjhbibhkjdaaa.Md
