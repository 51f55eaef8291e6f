/- Contract: a right model of version 1, one up. Contracts: a right model of version 2, one up; a right model, one up. Contracts: a right model, one up; any model, one up, or the fault. Contract: any model, one up, or the fault. -/
import Derived.Test.YtgnlehenbdcgmaaUa
set_option linter.unusedVariables false
set_option linter.unusedSectionVars false
set_option linter.unusedSimpArgs false
namespace Go.Proofs.Ytgnlehenbdcgmaa.Md
open Go.RowKit Go.Shelf

theorem up_ret_drew {fn : Func} {p q : Tmp} (h : fn.results = #[.cell p 26, .cell q 31]) {W : World} {B C : Nat} {a b c d u v : Value} {tmps : Array Value} (hx : W.heap[B]? = some (.cells #[a, b, c, d] 26 (0, 0))) (hy : W.heap[C]? = some (.cells #[u, v] 31 (0, 0)))
    (h2 : tmps.getD p undef = .pointer (some ⟨B, 0, none⟩)) (h3 : tmps.getD q undef = .pointer (some ⟨C, 0, none⟩)) : (results fn tmps).run Try.prog W.drew = .ok (.tuple #[.agg #[a, b, c, d], .agg #[u, v]]) W.drew := up_ret h (W := W.drew) hx hy h2 h3
theorem set4 {W : World} {B : Nat} {a b c d : Value} {t : TypeId} (h : W.heap[B]? = some (.cells #[a, b, c, d] t (0, 0))) (a' b' c' d' : Value) :
    ((((W.setCell ⟨B, 0, none⟩ a').setCell ⟨B, 1, none⟩ b').setCell ⟨B, 2, none⟩ c').setCell ⟨B, 3, none⟩ d').heap[B]? = some (.cells #[a', b', c', d'] t (0, 0)) ∧ Turned (fun k => k = B) W ((((W.setCell ⟨B, 0, none⟩ a').setCell ⟨B, 1, none⟩ b').setCell ⟨B, 2, none⟩ c').setCell ⟨B, 3, none⟩ d') :=
  ⟨heap_set (heap_set (heap_set (heap_set h 0 a') 1 b') 2 c') 3 d', Turned.set' (Turned.set' (Turned.set' (Turned.set' (Turned.refl' (fun k => k = B) W) rfl 0 a') rfl 1 b') rfl 2 c') rfl 3 d'⟩
theorem set2 {W : World} {B : Nat} {a b : Value} {t : TypeId} (h : W.heap[B]? = some (.cells #[a, b] t (0, 0))) (a' b' : Value) :
    ((W.setCell ⟨B, 0, none⟩ a').setCell ⟨B, 1, none⟩ b').heap[B]? = some (.cells #[a', b'] t (0, 0)) ∧ Turned (fun k => k = B) W ((W.setCell ⟨B, 0, none⟩ a').setCell ⟨B, 1, none⟩ b') :=
  ⟨heap_set (heap_set h 0 a') 1 b', Turned.set' (Turned.set' (Turned.refl' (fun k => k = B) W) rfl 0 a') rfl 1 b'⟩
theorem OwnM.boxT {base N : Nat} {W W' : World} {x : ModelV} {cs : Array Value} {t : TypeId} (h : OwnM base W x) (hN : W.heap[N]? = some (.cells cs t (0, 0))) (ht : listT t = false) (hT : Turned (fun k => k = N) W W') : OwnM base W' x :=
  h.turned hT (fun b cur t' hc hl e => by
    rw [e, hN] at hc
    cases hc
    rw [ht] at hl
    cases hl)
theorem low_one {w W W' : World} {N : Nat} (h : Below w.heap.size w W) (hT : Turned (fun k => k = N) W W') (hN : w.heap.size ≤ N) : Below w.heap.size w W' := h.trans (Turned.to_b hT (fun k hk e => by omega) h.size)
theorem delE_bad {L : List LinkM} {j : Nat} {l : LinkM} (h0 : ∀ i y, i < j → L[i]? = some y → y.delay * 1000 ≤ 1099511627776) (hl : L[j]? = some l) (hb : 1099511627776 < l.delay * 1000) : delE L = (30, j + 1) := by
  unfold delE
  rw [fErr_at _ L 0 j l (fun i y hi hy => by rw [if_neg (by have := h0 i y hi hy; omega)]) hl (by rw [if_pos hb]; decide), if_pos hb, Nat.zero_add]
theorem delE_ok {L : List LinkM} (h0 : ∀ (i : Nat) y, L[i]? = some y → y.delay * 1000 ≤ 1099511627776) : (delE L).1 = 0 := (fErr_zero _ _ _).2 fun i y hi => if_neg (by have := h0 i y hi; omega)
/-- While delays are turned. -/
structure Dl (w : World) (x1 : ModelV) (j : Nat) (W : World) : Prop where
  box : W.heap[w.heap.size]? = some (.cells #[.int .i64 2, .slice x1.pa x1.procs.length x1.pc, .slice x1.la x1.links.length x1.lc, .slice x1.ea x1.events.length x1.ec] 26 (0, 0))
  res : W.heap[w.heap.size + 1]? = some (.cells #[.int .i64 0, .slice none 0 0, .slice none 0 0, .slice none 0 0] 26 (0, 0))
  flt : W.heap[w.heap.size + 1 + 1]? = some (.cells #[.int .i64 0, .int .i64 0] 31 (0, 0))
  own : OwnM w.heap.size W { x1 with ver := 2, links := upto delL j x1.links }
  low : Below w.heap.size w W
theorem Dl.on {w : World} {x1 : ModelV} {j : Nat} {W W' : World} (h : Dl w x1 j W) (hb : Below W.heap.size W W') : Dl w x1 j W' :=
  ⟨heap_below h.box hb (heap_lt h.box), heap_below h.res hb (heap_lt h.res), heap_below h.flt hb (heap_lt h.flt), h.own.on hb, h.low.trans (hb.mono h.low.size)⟩
set_option maxRecDepth 100000 in
set_option maxHeartbeats 4000000 in
theorem delayed_any {w : World} {x : ModelV} (h : ModelAt w.heap.size w x) (hs : Sized x.m) (hd : ∀ l ∈ x.links, 0 ≤ l.delay ∧ l.delay ≤ 1099511627776) : Calls Try.prog 79 #[.agg #[.int .i64 x.ver, .slice x.pa x.procs.length x.pc, .slice x.la x.links.length x.lc, .slice x.ea x.events.length x.ec]] w (UpQ w (delR x.m)) := by
  have HD := Lib.hid hd
  have HSz := Lib.hid hs
  have hx1 := heap_alloc (heap_alloc (heap_new (w := w) (.cells #[.int .i64 x.ver, .slice x.pa x.procs.length x.pc, .slice x.la x.links.length x.lc, .slice x.ea x.events.length x.ec] 26) rfl) (.cells #[.int .i64 0, .slice none 0 0, .slice none 0 0, .slice none 0 0] 26)) (.cells #[.int .i64 0, .int .i64 0] 31)
  have hr1 := heap_alloc (heap_new (w := w.alloc (.cells #[.int .i64 x.ver, .slice x.pa x.procs.length x.pc, .slice x.la x.links.length x.lc, .slice x.ea x.events.length x.ec] 26)) (.cells #[.int .i64 0, .slice none 0 0, .slice none 0 0, .slice none 0 0] 26) rfl) (.cells #[.int .i64 0, .int .i64 0] 31)
  have hf1 := heap_new (w := (w.alloc (.cells #[.int .i64 x.ver, .slice x.pa x.procs.length x.pc, .slice x.la x.links.length x.lc, .slice x.ea x.events.length x.ec] 26)).alloc (.cells #[.int .i64 0, .slice none 0 0, .slice none 0 0, .slice none 0 0] 26)) (.cells #[.int .i64 0, .int .i64 0] 31) rfl
  have hb1 := ((below_one w (.cells #[.int .i64 x.ver, .slice x.pa x.procs.length x.pc, .slice x.la x.links.length x.lc, .slice x.ea x.events.length x.ec] 26)).alloc (by simp) (.cells #[.int .i64 0, .slice none 0 0, .slice none 0 0, .slice none 0 0] 26)).alloc (by simp; omega) (.cells #[.int .i64 0, .int .i64 0] 31)
  rw [World.size_alloc] at hr1
  rw [World.size_alloc, World.size_alloc] at hf1
  have HC := Lib.hid (copy_any (h.on hb1) hs)
  have HX := Lib.hid hx1
  have HR := Lib.hid hr1
  have HF := Lib.hid hf1
  have HB := Lib.hid hb1
  clear h hs hd hx1 hr1 hf1 hb1
  go_enter Try.func79, Try.ntmps79
  go_upto_region 1 with fail
  generalize ((w.alloc (.cells #[.int .i64 x.ver, .slice x.pa x.procs.length x.pc, .slice x.la x.links.length x.lc, .slice x.ea x.events.length x.ec] 26)).alloc (.cells #[.int .i64 0, .slice none 0 0, .slice none 0 0, .slice none 0 0] 26)).alloc (.cells #[.int .i64 0, .int .i64 0] 31) = w1 at *
  have c0 : w1.cell? ⟨w.heap.size, 0, none⟩ = some (.int .i64 x.ver) := heap_cell HX.out rfl
  have c1 : w1.cell? ⟨w.heap.size, 1, none⟩ = some (.slice x.pa x.procs.length x.pc) := heap_cell HX.out rfl
  have c2 : w1.cell? ⟨w.heap.size, 2, none⟩ = some (.slice x.la x.links.length x.lc) := heap_cell HX.out rfl
  have c3 : w1.cell? ⟨w.heap.size, 3, none⟩ = some (.slice x.ea x.events.length x.ec) := heap_cell HX.out rfl
  go_wp2_with fail
  refine HC.out.mono ?_
  clear HC c0 c1 c2 c3
  rintro e w2 ⟨x1, rfl, hm, hown, hb⟩
  have hx2 := heap_below HX.out hb (heap_lt HX.out)
  replace HR := Lib.hid (heap_below HR.out hb (heap_lt HR.out))
  replace HF := Lib.hid (heap_below HF.out hb (heap_lt HF.out))
  have hz1 := HB.out.size
  replace HB := Lib.hid (HB.out.trans (hb.mono HB.out.size))
  clear hb HX
  have c0 : w2.cell? ⟨w.heap.size, 0, none⟩ = some (.int .i64 x.ver) := heap_cell hx2 rfl
  have c1 : w2.cell? ⟨w.heap.size, 1, none⟩ = some (.slice x.pa x.procs.length x.pc) := heap_cell hx2 rfl
  have c2 : w2.cell? ⟨w.heap.size, 2, none⟩ = some (.slice x.la x.links.length x.lc) := heap_cell hx2 rfl
  have c3 : w2.cell? ⟨w.heap.size, 3, none⟩ = some (.slice x.ea x.events.length x.ec) := heap_cell hx2 rfl
  have f0 := heap_frozen hx2 0
  have f1 := heap_frozen hx2 1
  have f2 := heap_frozen hx2 2
  have f3 := heap_frozen hx2 3
  have HX := Lib.hid hx2
  have HO := Lib.hid hown
  have HMm := Lib.hid hm
  clear hx2 hown hm
  go_upto_region 3 with fail
  have hs4 := set4 HX.out (.int .i64 x1.ver) (.slice x1.pa x1.procs.length x1.pc) (.slice x1.la x1.links.length x1.lc) (.slice x1.ea x1.events.length x1.ec)
  have hT3 : Turned (fun k => k = w.heap.size) w2 (((((w2.setCell ⟨w.heap.size, 0, none⟩ (.int .i64 x1.ver)).setCell ⟨w.heap.size, 1, none⟩ (.slice x1.pa x1.procs.length x1.pc)).setCell ⟨w.heap.size, 2, none⟩ (.slice x1.la x1.links.length x1.lc)).setCell ⟨w.heap.size, 3, none⟩ (.slice x1.ea x1.events.length x1.ec)).setCell ⟨w.heap.size, 0, none⟩ (.int .i64 2)) := Turned.set' hs4.2 rfl 0 (.int .i64 2)
  have hx3 : (((((w2.setCell ⟨w.heap.size, 0, none⟩ (.int .i64 x1.ver)).setCell ⟨w.heap.size, 1, none⟩ (.slice x1.pa x1.procs.length x1.pc)).setCell ⟨w.heap.size, 2, none⟩ (.slice x1.la x1.links.length x1.lc)).setCell ⟨w.heap.size, 3, none⟩ (.slice x1.ea x1.events.length x1.ec)).setCell ⟨w.heap.size, 0, none⟩ (.int .i64 2)).heap[w.heap.size]? = some (.cells #[.int .i64 2, .slice x1.pa x1.procs.length x1.pc, .slice x1.la x1.links.length x1.lc, .slice x1.ea x1.events.length x1.ec] 26 (0, 0)) := heap_set hs4.1 0 (.int .i64 2)
  have hr3 := hT3.old HR.out (fun e => by omega)
  have hf3 := hT3.old HF.out (fun e => by omega)
  have ho3 := (HO.out.boxT HX.out rfl hT3).mono hz1
  have hb3 := low_one HB.out hT3 (Nat.le_refl _)
  clear c0 c1 c2 c3 f0 f1 f2 f3 hs4 HX HR HF HO HB hz1
  generalize (((((w2.setCell ⟨w.heap.size, 0, none⟩ (.int .i64 x1.ver)).setCell ⟨w.heap.size, 1, none⟩ (.slice x1.pa x1.procs.length x1.pc)).setCell ⟨w.heap.size, 2, none⟩ (.slice x1.la x1.links.length x1.lc)).setCell ⟨w.heap.size, 3, none⟩ (.slice x1.ea x1.events.length x1.ec)).setCell ⟨w.heap.size, 0, none⟩ (.int .i64 2)) = w3 at *
  have HDL : Hid (Dl w x1 0 w3) := Lib.hid ⟨hx3, hr3, hf3, ⟨ho3.procs, ho3.po, ho3.inner, ho3.links, ho3.lo, ho3.events, ho3.eo⟩, hb3⟩
  have hlk : x1.links = x.links := by have := HMm.out; unfold ModelV.m at this; injection this
  have hpl : x1.procs.length = x.procs.length := by
    have := HMm.out
    unfold ModelV.m at this
    injection this with _ h2 _ _
    have := congrArg List.length h2
    simpa using this
  rw [← hlk] at HD
  have hnl : x1.links.length ≤ 20000 := by rw [hlk]; exact HSz.out.links
  have hnp : x1.procs.length ≤ 20000 := by rw [hpl]; have := HSz.out.procs; unfold ModelV.m at this; rwa [List.length_map] at this
  have hnli : (x1.links.length : Int) ≤ 20000 := by omega
  have hnpi : (x1.procs.length : Int) ≤ 20000 := by omega
  have hnp0 : (0 : Int) ≤ (x1.procs.length : Int) := Int.natCast_nonneg _
  have HEb : Hid (∀ (j : Nat) (l : LinkM), (∀ (i : Nat) y, i < j → x1.links[i]? = some y → y.delay * 1000 ≤ 1099511627776) → x1.links[j]? = some l → 1099511627776 < l.delay * 1000 → delR x.m = (zeroM, 30, ((x1.procs.length : Int) + (j : Int) + 1))) := Lib.hid (fun j l h0 hl hb => by
    have h1 := delE_bad h0 hl hb
    rw [hlk] at h1
    unfold delR
    rw [show x.m.links = x.links from rfl, h1, if_neg (show ¬ (30 : Int) = 0 by decide), show x.m.procs.length = x1.procs.length by rw [hpl]; unfold ModelV.m; simp]
    simp
    omega)
  have HEo : Hid ((∀ (i : Nat) y, x1.links[i]? = some y → y.delay * 1000 ≤ 1099511627776) → delR x.m = ({ x1.m with ver := 2, links := x1.links.map delL }, 0, 0)) := Lib.hid (fun h0 => by
    have h1 := delE_ok h0
    rw [hlk] at h1
    unfold delR
    rw [show x.m.links = x.links from rfl, if_pos h1, HMm.out, hlk])
  clear hx3 hr3 hf3 ho3 hb3 hT3 hlk hpl
  have c2 : w3.cell? ⟨w.heap.size, 2, none⟩ = some (.slice x1.la x1.links.length x1.lc) := heap_cell HDL.out.box rfl
  go_wp2_with fail
  clear c2
  go_loopw [14] (fun i wr => ∃ j : Nat, i = .int .i64 (j : Int) ∧ j ≤ x1.links.length ∧ Hid (Dl w x1 j wr) ∧ Hid (∀ i y, i < j → x1.links[i]? = some y → y.delay * 1000 ≤ 1099511627776)) (fun i _ => x1.links.length - (intOf i).toNat)
  case atStart => exact ⟨0, rfl, Nat.zero_le _, HDL, Lib.hid (fun i y hi => absurd hi (Nat.not_lt_zero _))⟩
  case round =>
    clear HDL
    obtain ⟨j, rfl, hj, HDL, HZ⟩ := hrel
    have hj0 : (0 : Int) ≤ (j : Int) := Int.natCast_nonneg j
    by_cases hlt : j < x1.links.length
    · have hji : (j : Int) < (x1.links.length : Int) := by omega
      obtain ⟨l, hl0⟩ : ∃ l, x1.links[j]? = some l := ⟨_, List.getElem?_eq_getElem hlt⟩
      have hl : (upto delL j x1.links)[j]? = some l := by rw [upto_get hlt]; exact hl0
      obtain ⟨ha, hbase, hrow⟩ := HDL.out.own.links.own.resolve_left (fun e => by dsimp only at e; rw [e] at hl; simp at hl)
      dsimp only at ha hbase hrow
      have hll := HDL.out.own.links.fits l (List.mem_of_getElem? hl)
      have r0 : wr.cell? ⟨x1.lb, j * 5, none⟩ = some (.string l.name) := hrow.cell hl (r := 0) rfl
      have r1 : wr.cell? ⟨x1.lb, j * 5 + 1, none⟩ = some (.string l.frm) := hrow.cell hl (r := 1) rfl
      have r2 : wr.cell? ⟨x1.lb, j * 5 + 2, none⟩ = some (.string l.to_) := hrow.cell hl (r := 2) rfl
      have r3 : wr.cell? ⟨x1.lb, j * 5 + 3, none⟩ = some (.int .i64 l.delay) := hrow.cell hl (r := 3) rfl
      have r4 : wr.cell? ⟨x1.lb, j * 5 + 4, none⟩ = some (.int .i64 l.weight) := hrow.cell hl (r := 4) rfl
      have hdl := HD.out l (List.mem_of_getElem? hl0)
      have HDx : Hid (Dl w x1 j (wr.alloc (.cells #[.string l.name, .string l.frm, .string l.to_, .int .i64 l.delay, .int .i64 l.weight] 57))) := Lib.hid (HDL.out.on (below_one _ _))
      have HO8 := Lib.hid (heap_new (w := wr) (.cells #[.string l.name, .string l.frm, .string l.to_, .int .i64 l.delay, .int .i64 l.weight] 57) rfl)
      have HRow : Hid (RowC encL 5 (wr.alloc (.cells #[.string l.name, .string l.frm, .string l.to_, .int .i64 l.delay, .int .i64 l.weight] 57)) x1.lb 57 (upto delL j x1.links)) := Lib.hid (hrow.on (below_one _ _))
      have HL := Lib.hid hl
      have HL0 := Lib.hid hl0
      have HLl := Lib.hid hll
      rw [ha]
      have HAl := Lib.hid ha
      have hnN : w.heap.size < wr.heap.size := heap_lt HDL.out.box
      clear hrow hl hl0 ha hll HDL
      go_upto_region 6 with fail
      clear r0 r1 r2 r3 r4
      generalize wr.alloc (.cells #[.string l.name, .string l.frm, .string l.to_, .int .i64 l.delay, .int .i64 l.weight] 57) = w8 at *
      have e3 : w8.cell? ⟨wr.heap.size, 3, none⟩ = some (.int .i64 l.delay) := heap_cell HO8.out rfl
      go_wp2_with fail
      refine (mul1000_any l.delay hdl.1 hdl.2 _).mono ?_
      rintro e w' ⟨rfl, rfl⟩
      obtain ⟨D, hD⟩ : ∃ D, l.delay * 1000 = D := ⟨_, rfl⟩
      have HBad := Lib.hid (HEb.out j l HZ.out HL0.out)
      rw [hD] at HBad ⊢
      by_cases hb : 1099511627776 < D
      · have hdb : decide ((1099511627776 : Int) < D) = true := decide_eq_true hb
        have HRr := Lib.hid (HBad.out hb)
        clear e3 hb
        go_upto_region 8 with fail
        have c1 : w'.cell? ⟨w.heap.size, 1, none⟩ = some (.slice x1.pa x1.procs.length x1.pc) := heap_cell HDx.out.box rfl
        have n1 : w.heap.size < w'.heap.size := heap_lt HDx.out.box
        have d0 : w'.cell? ⟨w.heap.size + 1, 0, none⟩ = some (.int .i64 0) := heap_cell HDx.out.res rfl
        have d1 : w'.cell? ⟨w.heap.size + 1, 1, none⟩ = some (.slice none 0 0) := heap_cell HDx.out.res rfl
        have d2 : w'.cell? ⟨w.heap.size + 1, 2, none⟩ = some (.slice none 0 0) := heap_cell HDx.out.res rfl
        have d3 : w'.cell? ⟨w.heap.size + 1, 3, none⟩ = some (.slice none 0 0) := heap_cell HDx.out.res rfl
        have e0 : w'.cell? ⟨w.heap.size + 1 + 1, 0, none⟩ = some (.int .i64 0) := heap_cell HDx.out.flt rfl
        have e1 : w'.cell? ⟨w.heap.size + 1 + 1, 1, none⟩ = some (.int .i64 0) := heap_cell HDx.out.flt rfl
        have f0 := heap_frozen HDx.out.res 0
        have f1 := heap_frozen HDx.out.res 1
        have f2 := heap_frozen HDx.out.res 2
        have f3 := heap_frozen HDx.out.res 3
        have g0 := heap_frozen HDx.out.flt 0
        have g1 := heap_frozen HDx.out.flt 1
        have hwj : IntKind.i64.wrap ((x1.procs.length : Int) + (j : Int)) = (x1.procs.length : Int) + (j : Int) := by rw [IntKind.wrap_i64]; omega
        have hwj1 : IntKind.i64.wrap ((x1.procs.length : Int) + (j : Int) + 1) = (x1.procs.length : Int) + (j : Int) + 1 := by rw [IntKind.wrap_i64]; omega
        go_region
        go_wp2
        have h4 := set4 HDx.out.res (.int .i64 0) (.slice none 0 0) (.slice none 0 0) (.slice none 0 0)
        have h2 := set2 (h4.2.old HDx.out.flt (fun e => by omega)) (.int .i64 30) (.int .i64 ((x1.procs.length : Int) + (j : Int) + 1))
        have hres := h2.2.old h4.1 (fun e => by omega)
        have hlow := (low_one (low_one HDx.out.low h4.2 (by omega)) h2.2 (by omega)).drew
        refine bodyPost_ret (up_ret_drew rfl hres h2.1 rfl rfl) rfl ?_
        exact ⟨noneV, by rw [HRr.out]; rfl, by rw [HRr.out]; rfl, own_none _ _, hlow⟩
      · have hdb : decide ((1099511627776 : Int) < D) = false := decide_eq_false hb
        have c2 : w'.cell? ⟨w.heap.size, 2, none⟩ = some (.slice (some ⟨x1.lb, 0, none⟩) x1.links.length x1.lc) := by rw [heap_cell HDx.out.box (i := 2) rfl]; simp [HAl.out]
        have r3 : w'.cell? ⟨x1.lb, j * 5 + 3, none⟩ = some (.int .i64 l.delay) := HRow.out.cell HL.out (r := 3) rfl
        have f3 := HRow.out.frozen (j * 5 + 3)
        have HN : Hid (∀ i y, i < j + 1 → x1.links[i]? = some y → y.delay * 1000 ≤ 1099511627776) := Lib.hid (fun i y hi hy => by
          by_cases e : i = j
          · subst e
            rw [HL0.out] at hy
            cases hy
            rw [hD]
            omega
          · exact HZ.out i y (by omega) hy)
        have hset := HDx.out.own.setL (k := j) (l := l) (l2 := delL l) HL.out (q := 3) (by decide) (v := .int .i64 D) (by
          have := encL_del l (l.delay * 1000)
          rw [hD] at this
          unfold delL
          rw [hD]
          exact this) HLl.out
        dsimp only at hset
        rw [upto_set HL0.out] at hset
        have hne : ∀ {b : Nat} {cs : Array Value} {t : TypeId}, w'.heap[b]? = some (.cells cs t (0, 0)) → t ≠ 57 → ¬ b = x1.lb := fun hb' ht e => by
          obtain ⟨cur, hc, _⟩ := HRow.out
          rw [e, hc] at hb'
          cases hb'
          exact ht rfl
        have hT := Turned.one w' x1.lb (j * 5 + 3) (.int .i64 D)
        have HD9 : Hid (Dl w x1 (j + 1) (w'.setCell ⟨x1.lb, j * 5 + 3, none⟩ (.int .i64 D))) := Lib.hid ⟨hT.old HDx.out.box (hne HDx.out.box (by decide)), hT.old HDx.out.res (hne HDx.out.res (by decide)), hT.old HDx.out.flt (hne HDx.out.flt (by decide)), hset, low_one HDx.out.low hT hbase⟩
        clear hset hne hT
        go_wp2
        refine ⟨⟨j + 1, by simp, by omega, HD9, HN⟩, ?_⟩
        unfold intOf
        simp
        omega
    · obtain rfl : j = x1.links.length := by omega
      have c0 : wr.cell? ⟨w.heap.size, 0, none⟩ = some (.int .i64 2) := heap_cell HDL.out.box rfl
      have c1 : wr.cell? ⟨w.heap.size, 1, none⟩ = some (.slice x1.pa x1.procs.length x1.pc) := heap_cell HDL.out.box rfl
      have c2 : wr.cell? ⟨w.heap.size, 2, none⟩ = some (.slice x1.la x1.links.length x1.lc) := heap_cell HDL.out.box rfl
      have c3 : wr.cell? ⟨w.heap.size, 3, none⟩ = some (.slice x1.ea x1.events.length x1.ec) := heap_cell HDL.out.box rfl
      have d0 : wr.cell? ⟨w.heap.size + 1, 0, none⟩ = some (.int .i64 0) := heap_cell HDL.out.res rfl
      have d1 : wr.cell? ⟨w.heap.size + 1, 1, none⟩ = some (.slice none 0 0) := heap_cell HDL.out.res rfl
      have d2 : wr.cell? ⟨w.heap.size + 1, 2, none⟩ = some (.slice none 0 0) := heap_cell HDL.out.res rfl
      have d3 : wr.cell? ⟨w.heap.size + 1, 3, none⟩ = some (.slice none 0 0) := heap_cell HDL.out.res rfl
      have e0 : wr.cell? ⟨w.heap.size + 1 + 1, 0, none⟩ = some (.int .i64 0) := heap_cell HDL.out.flt rfl
      have e1 : wr.cell? ⟨w.heap.size + 1 + 1, 1, none⟩ = some (.int .i64 0) := heap_cell HDL.out.flt rfl
      have f0 := heap_frozen HDL.out.res 0
      have f1 := heap_frozen HDL.out.res 1
      have f2 := heap_frozen HDL.out.res 2
      have f3 := heap_frozen HDL.out.res 3
      have g0 := heap_frozen HDL.out.flt 0
      have g1 := heap_frozen HDL.out.flt 1
      go_wp2
      have h4 := set4 HDL.out.res (.int .i64 2) (.slice x1.pa x1.procs.length x1.pc) (.slice x1.la x1.links.length x1.lc) (.slice x1.ea x1.events.length x1.ec)
      have hf4 := h4.2.old HDL.out.flt (fun e => by omega)
      have h2 := set2 hf4 (.int .i64 0) (.int .i64 0)
      have hres := h2.2.old h4.1 (fun e => by omega)
      have hlow := (low_one (low_one HDL.out.low h4.2 (by omega)) h2.2 (by omega))
      have hown := (HDL.out.own.boxT HDL.out.res rfl h4.2).boxT hf4 rfl h2.2
      have hE := HEo.out (fun i y hy => HZ.out i y (List.getElem?_eq_some_iff.1 hy).1 hy)
      refine bodyPost_ret (up_ret rfl hres h2.1 rfl rfl) rfl ?_
      refine ⟨{ x1 with ver := 2, links := upto delL x1.links.length x1.links }, ?_, ?_, hown, hlow⟩
      · rw [hE]
        dsimp only
        rw [upto_length (Nat.le_refl _)]
      · rw [hE]
        unfold ModelV.m
        dsimp only
        rw [upto_all]
end Go.Proofs.Ytgnlehenbdcgmaa.Md

namespace Go.Proofs.Ytgnlehenbdcgmaa.Md
open Go.RowKit Go.Shelf

/-- While weights are turned. -/
structure Wg (w : World) (x1 : ModelV) (i j : Nat) (W : World) : Prop where
  box : W.heap[w.heap.size]? = some (.cells #[.int .i64 3, .slice x1.pa x1.procs.length x1.pc, .slice x1.la x1.links.length x1.lc, .slice x1.ea x1.events.length x1.ec] 26 (0, 0))
  res : W.heap[w.heap.size + 1]? = some (.cells #[.int .i64 0, .slice none 0 0, .slice none 0 0, .slice none 0 0] 26 (0, 0))
  own : OwnM w.heap.size W { x1 with ver := 3, procs := upto wghV i x1.procs, links := upto wghL j x1.links }
  low : Below w.heap.size w W
theorem Wg.on {w : World} {x1 : ModelV} {i j : Nat} {W W' : World} (h : Wg w x1 i j W) (hb : Below W.heap.size W W') : Wg w x1 i j W' :=
  ⟨heap_below h.box hb (heap_lt h.box), heap_below h.res hb (heap_lt h.res), h.own.on hb, h.low.trans (hb.mono h.low.size)⟩
set_option maxRecDepth 100000 in
set_option maxHeartbeats 4000000 in
theorem weighed_any {w : World} {x : ModelV} (h : ModelAt w.heap.size w x) (hs : Sized x.m) : Calls Try.prog 80 #[.agg #[.int .i64 x.ver, .slice x.pa x.procs.length x.pc, .slice x.la x.links.length x.lc, .slice x.ea x.events.length x.ec]] w (CopyQ w (wghM x.m)) := by
  have HSz := Lib.hid hs
  have hx1 := heap_alloc (heap_new (w := w) (.cells #[.int .i64 x.ver, .slice x.pa x.procs.length x.pc, .slice x.la x.links.length x.lc, .slice x.ea x.events.length x.ec] 26) rfl) (.cells #[.int .i64 0, .slice none 0 0, .slice none 0 0, .slice none 0 0] 26)
  have hr1 := heap_new (w := w.alloc (.cells #[.int .i64 x.ver, .slice x.pa x.procs.length x.pc, .slice x.la x.links.length x.lc, .slice x.ea x.events.length x.ec] 26)) (.cells #[.int .i64 0, .slice none 0 0, .slice none 0 0, .slice none 0 0] 26) rfl
  have hb1 := (below_one w (.cells #[.int .i64 x.ver, .slice x.pa x.procs.length x.pc, .slice x.la x.links.length x.lc, .slice x.ea x.events.length x.ec] 26)).alloc (by simp) (.cells #[.int .i64 0, .slice none 0 0, .slice none 0 0, .slice none 0 0] 26)
  rw [World.size_alloc] at hr1
  have HC := Lib.hid (copy_any (h.on hb1) hs)
  have HX := Lib.hid hx1
  have HR := Lib.hid hr1
  have HB := Lib.hid hb1
  clear h hs hx1 hr1 hb1
  go_enter Try.func80, Try.ntmps80
  go_upto_region 1 with fail
  generalize (w.alloc (.cells #[.int .i64 x.ver, .slice x.pa x.procs.length x.pc, .slice x.la x.links.length x.lc, .slice x.ea x.events.length x.ec] 26)).alloc (.cells #[.int .i64 0, .slice none 0 0, .slice none 0 0, .slice none 0 0] 26) = w1 at *
  have c0 : w1.cell? ⟨w.heap.size, 0, none⟩ = some (.int .i64 x.ver) := heap_cell HX.out rfl
  have c1 : w1.cell? ⟨w.heap.size, 1, none⟩ = some (.slice x.pa x.procs.length x.pc) := heap_cell HX.out rfl
  have c2 : w1.cell? ⟨w.heap.size, 2, none⟩ = some (.slice x.la x.links.length x.lc) := heap_cell HX.out rfl
  have c3 : w1.cell? ⟨w.heap.size, 3, none⟩ = some (.slice x.ea x.events.length x.ec) := heap_cell HX.out rfl
  go_wp2_with fail
  refine HC.out.mono ?_
  clear HC c0 c1 c2 c3
  rintro e w2 ⟨x1, rfl, hm, hown, hb⟩
  have hx2 := heap_below HX.out hb (heap_lt HX.out)
  replace HR := Lib.hid (heap_below HR.out hb (heap_lt HR.out))
  have hz1 := HB.out.size
  replace HB := Lib.hid (HB.out.trans (hb.mono HB.out.size))
  clear hb HX
  have c0 : w2.cell? ⟨w.heap.size, 0, none⟩ = some (.int .i64 x.ver) := heap_cell hx2 rfl
  have c1 : w2.cell? ⟨w.heap.size, 1, none⟩ = some (.slice x.pa x.procs.length x.pc) := heap_cell hx2 rfl
  have c2 : w2.cell? ⟨w.heap.size, 2, none⟩ = some (.slice x.la x.links.length x.lc) := heap_cell hx2 rfl
  have c3 : w2.cell? ⟨w.heap.size, 3, none⟩ = some (.slice x.ea x.events.length x.ec) := heap_cell hx2 rfl
  have f0 := heap_frozen hx2 0
  have f1 := heap_frozen hx2 1
  have f2 := heap_frozen hx2 2
  have f3 := heap_frozen hx2 3
  have HX := Lib.hid hx2
  have HO := Lib.hid hown
  have HMm := Lib.hid hm
  clear hx2 hown hm
  go_upto_region 3 with fail
  have hs4 := set4 HX.out (.int .i64 x1.ver) (.slice x1.pa x1.procs.length x1.pc) (.slice x1.la x1.links.length x1.lc) (.slice x1.ea x1.events.length x1.ec)
  have hT3 : Turned (fun k => k = w.heap.size) w2 (((((w2.setCell ⟨w.heap.size, 0, none⟩ (.int .i64 x1.ver)).setCell ⟨w.heap.size, 1, none⟩ (.slice x1.pa x1.procs.length x1.pc)).setCell ⟨w.heap.size, 2, none⟩ (.slice x1.la x1.links.length x1.lc)).setCell ⟨w.heap.size, 3, none⟩ (.slice x1.ea x1.events.length x1.ec)).setCell ⟨w.heap.size, 0, none⟩ (.int .i64 3)) := Turned.set' hs4.2 rfl 0 (.int .i64 3)
  have hx3 : (((((w2.setCell ⟨w.heap.size, 0, none⟩ (.int .i64 x1.ver)).setCell ⟨w.heap.size, 1, none⟩ (.slice x1.pa x1.procs.length x1.pc)).setCell ⟨w.heap.size, 2, none⟩ (.slice x1.la x1.links.length x1.lc)).setCell ⟨w.heap.size, 3, none⟩ (.slice x1.ea x1.events.length x1.ec)).setCell ⟨w.heap.size, 0, none⟩ (.int .i64 3)).heap[w.heap.size]? = some (.cells #[.int .i64 3, .slice x1.pa x1.procs.length x1.pc, .slice x1.la x1.links.length x1.lc, .slice x1.ea x1.events.length x1.ec] 26 (0, 0)) := heap_set hs4.1 0 (.int .i64 3)
  have hr3 := hT3.old HR.out (fun e => by omega)
  have ho3 := (HO.out.boxT HX.out rfl hT3).mono hz1
  have hb3 := low_one HB.out hT3 (Nat.le_refl _)
  clear c0 c1 c2 c3 f0 f1 f2 f3 hs4 HX HR HO HB hz1
  generalize (((((w2.setCell ⟨w.heap.size, 0, none⟩ (.int .i64 x1.ver)).setCell ⟨w.heap.size, 1, none⟩ (.slice x1.pa x1.procs.length x1.pc)).setCell ⟨w.heap.size, 2, none⟩ (.slice x1.la x1.links.length x1.lc)).setCell ⟨w.heap.size, 3, none⟩ (.slice x1.ea x1.events.length x1.ec)).setCell ⟨w.heap.size, 0, none⟩ (.int .i64 3)) = w3 at *
  have HDL : Hid (Wg w x1 0 0 w3) := Lib.hid ⟨hx3, hr3, ⟨ho3.procs, ho3.po, ho3.inner, ho3.links, ho3.lo, ho3.events, ho3.eo⟩, hb3⟩
  have hlk : x1.links = x.links := by have := HMm.out; unfold ModelV.m at this; injection this
  have hpl : x1.procs.length = x.procs.length := by
    have := HMm.out
    unfold ModelV.m at this
    injection this with _ h2 _ _
    have := congrArg List.length h2
    simpa using this
  have hnl : x1.links.length ≤ 20000 := by rw [hlk]; exact HSz.out.links
  have hnp : x1.procs.length ≤ 20000 := by rw [hpl]; have := HSz.out.procs; unfold ModelV.m at this; rwa [List.length_map] at this
  have hnli : (x1.links.length : Int) ≤ 20000 := by omega
  have hnpi : (x1.procs.length : Int) ≤ 20000 := by omega
  clear hx3 hr3 ho3 hb3 hT3 hlk hpl
  have c1 : w3.cell? ⟨w.heap.size, 1, none⟩ = some (.slice x1.pa x1.procs.length x1.pc) := heap_cell HDL.out.box rfl
  go_wp2_with fail
  clear c1
  go_loopw [13] (fun i wr => ∃ j : Nat, i = .int .i64 (j : Int) ∧ j ≤ x1.procs.length ∧ Hid (Wg w x1 j 0 wr)) (fun i _ => x1.procs.length - (intOf i).toNat)
  case atStart => exact ⟨0, rfl, Nat.zero_le _, HDL⟩
  case round =>
    clear HDL
    obtain ⟨j, rfl, hj, HDL⟩ := hrel
    have hj0 : (0 : Int) ≤ (j : Int) := Int.natCast_nonneg j
    by_cases hlt : j < x1.procs.length
    · have hji : (j : Int) < (x1.procs.length : Int) := by omega
      obtain ⟨p, hl0⟩ : ∃ p, x1.procs[j]? = some p := ⟨_, List.getElem?_eq_getElem hlt⟩
      have hl : (upto wghV j x1.procs)[j]? = some p := by rw [upto_get hlt]; exact hl0
      obtain ⟨ha, hbase, hrow⟩ := HDL.out.own.procs.own.resolve_left (fun e => by dsimp only at e; rw [e] at hl; simp at hl)
      dsimp only at ha hbase hrow
      have hll := HDL.out.own.procs.fits p (List.mem_of_getElem? hl)
      have r0 : wr.cell? ⟨x1.pb, j * 4, none⟩ = some (.string p.p.name) := hrow.cell hl (r := 0) rfl
      have r1 : wr.cell? ⟨x1.pb, j * 4 + 1, none⟩ = some (.int .i64 p.p.weight) := hrow.cell hl (r := 1) rfl
      have r2 : wr.cell? ⟨x1.pb, j * 4 + 2, none⟩ = some (.slice p.va p.p.vars.length p.vc) := hrow.cell hl (r := 2) rfl
      have r3 : wr.cell? ⟨x1.pb, j * 4 + 3, none⟩ = some (.slice p.sa p.p.steps.length p.sc) := hrow.cell hl (r := 3) rfl
      have HDx : Hid (Wg w x1 j 0 (wr.alloc (.cells #[.string p.p.name, .int .i64 p.p.weight, .slice p.va p.p.vars.length p.vc, .slice p.sa p.p.steps.length p.sc] 36))) := Lib.hid (HDL.out.on (below_one _ _))
      have HO8 := Lib.hid (heap_new (w := wr) (.cells #[.string p.p.name, .int .i64 p.p.weight, .slice p.va p.p.vars.length p.vc, .slice p.sa p.p.steps.length p.sc] 36) rfl)
      have HRow : Hid (RowC encP 4 (wr.alloc (.cells #[.string p.p.name, .int .i64 p.p.weight, .slice p.va p.p.vars.length p.vc, .slice p.sa p.p.steps.length p.sc] 36)) x1.pb 36 (upto wghV j x1.procs)) := Lib.hid (hrow.on (below_one _ _))
      have HL := Lib.hid hl
      have HL0 := Lib.hid hl0
      have HLl := Lib.hid hll
      rw [ha]
      have HAl := Lib.hid ha
      have hnN : w.heap.size < wr.heap.size := heap_lt HDL.out.box
      have hbl : x1.pb < wr.heap.size := hrow.lt
      clear hrow hl hl0 ha hll HDL
      go_upto_region 6 with fail
      clear r0 r1 r2 r3
      have hz8 : (wr.alloc (.cells #[.string p.p.name, .int .i64 p.p.weight, .slice p.va p.p.vars.length p.vc, .slice p.sa p.p.steps.length p.sc] 36)).heap.size = wr.heap.size + 1 := World.size_alloc _ _
      generalize wr.alloc (.cells #[.string p.p.name, .int .i64 p.p.weight, .slice p.va p.p.vars.length p.vc, .slice p.sa p.p.steps.length p.sc] 36) = w8 at *
      have hne : ∀ {b : Nat} {cs : Array Value} {t : TypeId}, w8.heap[b]? = some (.cells cs t (0, 0)) → t ≠ 36 → ¬ b = x1.pb := fun hb' ht e => by
        obtain ⟨cur, hc, _⟩ := HRow.out
        rw [e, hc] at hb'
        cases hb'
        exact ht rfl
      have hne8 := hne HDx.out.box (by decide)
      have hbz : ¬ x1.pb = wr.heap.size := by omega
      have hbz' : ¬ wr.heap.size = x1.pb := by omega
      have HZ8 := Lib.hid hz8
      have HNE : Hid (∀ {b : Nat} {cs : Array Value} {t : TypeId}, w8.heap[b]? = some (.cells cs t (0, 0)) → t ≠ 36 → ¬ b = x1.pb) := Lib.hid hne
      clear hz8 hne
      have dN : ∀ W, Turned (fun k => k = x1.pb) w8 W → W.cell? ⟨w.heap.size, 1, none⟩ = some (.slice (some ⟨x1.pb, 0, none⟩) x1.procs.length x1.pc) := fun W hW => by rw [heap_cell (hW.old HDx.out.box hne8) (i := 1) rfl]; simp [HAl.out]
      have dP : ∀ W, Turned (fun k => k = x1.pb) w8 W → W.cell? ⟨wr.heap.size, 1, none⟩ = some (.int .i64 p.p.weight) := fun W hW => heap_cell (hW.old HO8.out hbz') rfl
      have DR : Hid (∀ W, Below w8.heap.size w8 W → W.cell? ⟨x1.pb, j * 4 + 1, none⟩ = some (.int .i64 p.p.weight)) := Lib.hid (fun W hW => (HRow.out.on hW).cell HL.out (r := 1) rfl)
      have DF : Hid (∀ W, Below w8.heap.size w8 W → W.frozen? ⟨x1.pb, j * 4 + 1, none⟩ = false) := Lib.hid (fun W hW => (HRow.out.on hW).frozen _)
      obtain ⟨D, hD⟩ : ∃ D, orW p.p.weight = D := ⟨_, rfl⟩
      have HDw := Lib.hid hD
      have HOr : Hid (∀ (W : World) (B : Nat), W.cell? ⟨B, 0, none⟩ = some (.int .i64 p.p.weight) → W.cell? ⟨B, 1, none⟩ = some (.int .i64 1) → Calls Try.prog 93 #[.slice (some ⟨B, 0, none⟩) 2 2] W fun e w' => e = .returned (.int .i64 D) ∧ w' = W) := Lib.hid (fun W B h0 h1 => by
        have := or64_any h0 h1
        rw [show (if p.p.weight = 0 then (1 : Int) else p.p.weight) = D from hD] at this
        exact this)
      clear hD
      go_region_held3 (fun W => Turned (fun k => k = x1.pb) w8 W) (first | assumption | exact Turned.refl' _ _ | exact Turned.drew' (Turned.refl' _ _) | exact Turned.drew' (by assumption) | exact Turned.alloc' (Turned.refl' _ _) _ | exact Turned.alloc' (Turned.drew' (Turned.refl' _ _)) _ | exact Turned.alloc' (by assumption) _ | exact Turned.of_b hB9 | exact Turned.set' (R := fun k => k = x1.pb) (Turned.of_b hB9) rfl _ _) (
        (go_at_call 93; refine (HOr.out _ _ (by exact heap_cell (heap_new _ rfl) rfl) (by exact heap_cell (heap_new _ rfl) rfl)).mono ?_; rintro e w9 ⟨rfl, hw9⟩; have hB9 : Below w8.heap.size w8 w9 := (by rw [hw9]; first | exact below_one _ _ | exact ((Below.refl _ _).drew).alloc (Nat.le_refl _) _); clear hw9; have r9 := DR.out _ hB9; have f9 := DF.out _ hB9))
      have hset := (HDx.out.own.on hB9).setP (k := j) (p := p) HL.out D
      dsimp only at hset
      rw [show ({ p with p := { p.p with weight := D } } : ProcV) = wghV p by unfold wghV wghP; rw [HDw.out], upto_set HL0.out] at hset
      have HD9w := HDx.out.on hB9
      have hT := Turned.one w9 x1.pb (j * 4 + 1) (.int .i64 D)
      have hnb : ¬ w.heap.size = x1.pb := hne8
      have hnr : ¬ w.heap.size + 1 = x1.pb := HNE.out HDx.out.res (by decide)
      have HD9 : Hid (Wg w x1 (j + 1) 0 (w9.setCell ⟨x1.pb, j * 4 + 1, none⟩ (.int .i64 D))) := Lib.hid ⟨hT.old HD9w.box hnb, hT.old HD9w.res hnr, hset, low_one HD9w.low hT hbase⟩
      clear hset hT HD9w dN dP r9 f9 DR DF HOr
      go_wp2
      refine ⟨⟨j + 1, by simp, by omega, HD9⟩, ?_⟩
      unfold intOf
      simp
      omega
    · obtain rfl : j = x1.procs.length := by omega
      have c2 : wr.cell? ⟨w.heap.size, 2, none⟩ = some (.slice x1.la x1.links.length x1.lc) := heap_cell HDL.out.box rfl
      go_wp2_with fail
      clear c2
      go_loopw [31] (fun i wr => ∃ j : Nat, i = .int .i64 (j : Int) ∧ j ≤ x1.links.length ∧ Hid (Wg w x1 x1.procs.length j wr)) (fun i _ => x1.links.length - (intOf i).toNat)
      case atStart => exact ⟨0, rfl, Nat.zero_le _, HDL⟩
      case round =>
        clear HDL
        obtain ⟨j, rfl, hj, HDL⟩ := hrel
        have hj0 : (0 : Int) ≤ (j : Int) := Int.natCast_nonneg j
        by_cases hlt : j < x1.links.length
        · have hji : (j : Int) < (x1.links.length : Int) := by omega
          obtain ⟨l, hl0⟩ : ∃ l, x1.links[j]? = some l := ⟨_, List.getElem?_eq_getElem hlt⟩
          have hl : (upto wghL j x1.links)[j]? = some l := by rw [upto_get hlt]; exact hl0
          obtain ⟨ha, hbase, hrow⟩ := HDL.out.own.links.own.resolve_left (fun e => by dsimp only at e; rw [e] at hl; simp at hl)
          dsimp only at ha hbase hrow
          have hll := HDL.out.own.links.fits l (List.mem_of_getElem? hl)
          have r0 : wr.cell? ⟨x1.lb, j * 5, none⟩ = some (.string l.name) := hrow.cell hl (r := 0) rfl
          have r1 : wr.cell? ⟨x1.lb, j * 5 + 1, none⟩ = some (.string l.frm) := hrow.cell hl (r := 1) rfl
          have r2 : wr.cell? ⟨x1.lb, j * 5 + 2, none⟩ = some (.string l.to_) := hrow.cell hl (r := 2) rfl
          have r3 : wr.cell? ⟨x1.lb, j * 5 + 3, none⟩ = some (.int .i64 l.delay) := hrow.cell hl (r := 3) rfl
          have r4 : wr.cell? ⟨x1.lb, j * 5 + 4, none⟩ = some (.int .i64 l.weight) := hrow.cell hl (r := 4) rfl
          have HDx : Hid (Wg w x1 x1.procs.length j (wr.alloc (.cells #[.string l.name, .string l.frm, .string l.to_, .int .i64 l.delay, .int .i64 l.weight] 57))) := Lib.hid (HDL.out.on (below_one _ _))
          have HO8 := Lib.hid (heap_new (w := wr) (.cells #[.string l.name, .string l.frm, .string l.to_, .int .i64 l.delay, .int .i64 l.weight] 57) rfl)
          have HRow : Hid (RowC encL 5 (wr.alloc (.cells #[.string l.name, .string l.frm, .string l.to_, .int .i64 l.delay, .int .i64 l.weight] 57)) x1.lb 57 (upto wghL j x1.links)) := Lib.hid (hrow.on (below_one _ _))
          have HL := Lib.hid hl
          have HL0 := Lib.hid hl0
          have HLl := Lib.hid hll
          rw [ha]
          have HAl := Lib.hid ha
          have hnN : w.heap.size < wr.heap.size := heap_lt HDL.out.box
          have hbl : x1.lb < wr.heap.size := hrow.lt
          clear hrow hl hl0 ha hll HDL
          go_upto_region 11 with fail
          clear r0 r1 r2 r3 r4
          have hz8 : (wr.alloc (.cells #[.string l.name, .string l.frm, .string l.to_, .int .i64 l.delay, .int .i64 l.weight] 57)).heap.size = wr.heap.size + 1 := World.size_alloc _ _
          generalize wr.alloc (.cells #[.string l.name, .string l.frm, .string l.to_, .int .i64 l.delay, .int .i64 l.weight] 57) = w8 at *
          have hne : ∀ {b : Nat} {cs : Array Value} {t : TypeId}, w8.heap[b]? = some (.cells cs t (0, 0)) → t ≠ 57 → ¬ b = x1.lb := fun hb' ht e => by
            obtain ⟨cur, hc, _⟩ := HRow.out
            rw [e, hc] at hb'
            cases hb'
            exact ht rfl
          have hne8 := hne HDx.out.box (by decide)
          have hbz : ¬ x1.lb = wr.heap.size := by omega
          have hbz' : ¬ wr.heap.size = x1.lb := by omega
          have HZ8 := Lib.hid hz8
          have HNE : Hid (∀ {b : Nat} {cs : Array Value} {t : TypeId}, w8.heap[b]? = some (.cells cs t (0, 0)) → t ≠ 57 → ¬ b = x1.lb) := Lib.hid hne
          clear hz8 hne
          have dN : ∀ W, Turned (fun k => k = x1.lb) w8 W → W.cell? ⟨w.heap.size, 2, none⟩ = some (.slice (some ⟨x1.lb, 0, none⟩) x1.links.length x1.lc) := fun W hW => by rw [heap_cell (hW.old HDx.out.box hne8) (i := 2) rfl]; simp [HAl.out]
          have dP : ∀ W, Turned (fun k => k = x1.lb) w8 W → W.cell? ⟨wr.heap.size, 4, none⟩ = some (.int .i64 l.weight) := fun W hW => heap_cell (hW.old HO8.out hbz') rfl
          have DR : Hid (∀ W, Below w8.heap.size w8 W → W.cell? ⟨x1.lb, j * 5 + 4, none⟩ = some (.int .i64 l.weight)) := Lib.hid (fun W hW => (HRow.out.on hW).cell HL.out (r := 4) rfl)
          have DF : Hid (∀ W, Below w8.heap.size w8 W → W.frozen? ⟨x1.lb, j * 5 + 4, none⟩ = false) := Lib.hid (fun W hW => (HRow.out.on hW).frozen _)
          obtain ⟨D, hD⟩ : ∃ D, orW l.weight = D := ⟨_, rfl⟩
          have HDw := Lib.hid hD
          have HOr : Hid (∀ (W : World) (B : Nat), W.cell? ⟨B, 0, none⟩ = some (.int .i64 l.weight) → W.cell? ⟨B, 1, none⟩ = some (.int .i64 1) → Calls Try.prog 93 #[.slice (some ⟨B, 0, none⟩) 2 2] W fun e w' => e = .returned (.int .i64 D) ∧ w' = W) := Lib.hid (fun W B h0 h1 => by
            have := or64_any h0 h1
            rw [show (if l.weight = 0 then (1 : Int) else l.weight) = D from hD] at this
            exact this)
          clear hD
          go_region_held3 (fun W => Turned (fun k => k = x1.lb) w8 W) (first | assumption | exact Turned.refl' _ _ | exact Turned.drew' (Turned.refl' _ _) | exact Turned.drew' (by assumption) | exact Turned.alloc' (Turned.refl' _ _) _ | exact Turned.alloc' (Turned.drew' (Turned.refl' _ _)) _ | exact Turned.alloc' (by assumption) _ | exact Turned.of_b hB9 | exact Turned.set' (R := fun k => k = x1.lb) (Turned.of_b hB9) rfl _ _) (
            (go_at_call 93; refine (HOr.out _ _ (by exact heap_cell (heap_new _ rfl) rfl) (by exact heap_cell (heap_new _ rfl) rfl)).mono ?_; rintro e w9 ⟨rfl, hw9⟩; have hB9 : Below w8.heap.size w8 w9 := (by rw [hw9]; first | exact below_one _ _ | exact ((Below.refl _ _).drew).alloc (Nat.le_refl _) _); clear hw9; have r9 := DR.out _ hB9; have f9 := DF.out _ hB9))
          have hset := (HDx.out.own.on hB9).setL (k := j) (l := l) (l2 := { l with weight := D }) HL.out (q := 4) (by decide) (v := .int .i64 D) (encL_wgh l D) HLl.out
          dsimp only at hset
          rw [show ({ l with weight := D } : LinkM) = wghL l by unfold wghL; rw [HDw.out], upto_set HL0.out] at hset
          have HD9w := HDx.out.on hB9
          have hT := Turned.one w9 x1.lb (j * 5 + 4) (.int .i64 D)
          have hnb : ¬ w.heap.size = x1.lb := hne8
          have hnr : ¬ w.heap.size + 1 = x1.lb := HNE.out HDx.out.res (by decide)
          have HD9 : Hid (Wg w x1 x1.procs.length (j + 1) (w9.setCell ⟨x1.lb, j * 5 + 4, none⟩ (.int .i64 D))) := Lib.hid ⟨hT.old HD9w.box hnb, hT.old HD9w.res hnr, hset, low_one HD9w.low hT hbase⟩
          clear hset hT HD9w dN dP r9 f9 DR DF HOr
          go_wp2
          refine ⟨⟨j + 1, by simp, by omega, HD9⟩, ?_⟩
          unfold intOf
          simp
          omega
        · obtain rfl : j = x1.links.length := by omega

          have c0 : wr.cell? ⟨w.heap.size, 0, none⟩ = some (.int .i64 3) := heap_cell HDL.out.box rfl
          have c1 : wr.cell? ⟨w.heap.size, 1, none⟩ = some (.slice x1.pa x1.procs.length x1.pc) := heap_cell HDL.out.box rfl
          have c2 : wr.cell? ⟨w.heap.size, 2, none⟩ = some (.slice x1.la x1.links.length x1.lc) := heap_cell HDL.out.box rfl
          have c3 : wr.cell? ⟨w.heap.size, 3, none⟩ = some (.slice x1.ea x1.events.length x1.ec) := heap_cell HDL.out.box rfl
          have d0 : wr.cell? ⟨w.heap.size + 1, 0, none⟩ = some (.int .i64 0) := heap_cell HDL.out.res rfl
          have d1 : wr.cell? ⟨w.heap.size + 1, 1, none⟩ = some (.slice none 0 0) := heap_cell HDL.out.res rfl
          have d2 : wr.cell? ⟨w.heap.size + 1, 2, none⟩ = some (.slice none 0 0) := heap_cell HDL.out.res rfl
          have d3 : wr.cell? ⟨w.heap.size + 1, 3, none⟩ = some (.slice none 0 0) := heap_cell HDL.out.res rfl
          have f0 := heap_frozen HDL.out.res 0
          have f1 := heap_frozen HDL.out.res 1
          have f2 := heap_frozen HDL.out.res 2
          have f3 := heap_frozen HDL.out.res 3
          go_wp2
          have h4 := set4 HDL.out.res (.int .i64 3) (.slice x1.pa x1.procs.length x1.pc) (.slice x1.la x1.links.length x1.lc) (.slice x1.ea x1.events.length x1.ec)
          have hlow := low_one HDL.out.low h4.2 (by omega)
          have hown := HDL.out.own.boxT HDL.out.res rfl h4.2
          refine bodyPost_ret (mdl_ret rfl h4.1 rfl) rfl ?_
          refine ⟨{ x1 with ver := 3, procs := upto wghV x1.procs.length x1.procs, links := upto wghL x1.links.length x1.links }, ?_, ?_, hown, hlow⟩
          · dsimp only
            rw [upto_length (Nat.le_refl _), upto_length (Nat.le_refl _)]
          · unfold wghM ModelV.m
            dsimp only
            rw [upto_all, upto_all, List.map_map]
            have := HMm.out
            unfold ModelV.m at this
            injection this with _ h2 h3 h4
            rw [← h2, h3, h4, List.map_map]
            rfl
end Go.Proofs.Ytgnlehenbdcgmaa.Md

namespace Go.Proofs.Ytgnlehenbdcgmaa.Md
open Go.RowKit Go.Shelf

set_option maxRecDepth 100000 in
set_option maxHeartbeats 4000000 in
theorem up_any {w : World} {x : ModelV} (h : ModelAt w.heap.size w x) (hs : Sized x.m) (hd : ∀ l ∈ x.links, 0 ≤ l.delay ∧ l.delay ≤ 1099511627776) : Calls Try.prog 53 #[.agg #[.int .i64 x.ver, .slice x.pa x.procs.length x.pc, .slice x.la x.links.length x.lc, .slice x.ea x.events.length x.ec]] w (UpQ w (upR x.m)) := by
  have hx1 := heap_alloc (heap_alloc (heap_new (w := w) (.cells #[.int .i64 x.ver, .slice x.pa x.procs.length x.pc, .slice x.la x.links.length x.lc, .slice x.ea x.events.length x.ec] 26) rfl) (.cells #[.int .i64 0, .slice none 0 0, .slice none 0 0, .slice none 0 0] 26)) (.cells #[.int .i64 0, .int .i64 0] 31)
  have hr1 := heap_alloc (heap_new (w := w.alloc (.cells #[.int .i64 x.ver, .slice x.pa x.procs.length x.pc, .slice x.la x.links.length x.lc, .slice x.ea x.events.length x.ec] 26)) (.cells #[.int .i64 0, .slice none 0 0, .slice none 0 0, .slice none 0 0] 26) rfl) (.cells #[.int .i64 0, .int .i64 0] 31)
  have hf1 := heap_new (w := (w.alloc (.cells #[.int .i64 x.ver, .slice x.pa x.procs.length x.pc, .slice x.la x.links.length x.lc, .slice x.ea x.events.length x.ec] 26)).alloc (.cells #[.int .i64 0, .slice none 0 0, .slice none 0 0, .slice none 0 0] 26)) (.cells #[.int .i64 0, .int .i64 0] 31) rfl
  have hb1 := ((below_one w (.cells #[.int .i64 x.ver, .slice x.pa x.procs.length x.pc, .slice x.la x.links.length x.lc, .slice x.ea x.events.length x.ec] 26)).alloc (by simp) (.cells #[.int .i64 0, .slice none 0 0, .slice none 0 0, .slice none 0 0] 26)).alloc (by simp; omega) (.cells #[.int .i64 0, .int .i64 0] 31)
  rw [World.size_alloc] at hr1
  rw [World.size_alloc, World.size_alloc] at hf1
  have HCd := Lib.hid (delayed_any (h.on hb1) hs hd)
  have HCw := Lib.hid (weighed_any (h.on hb1) hs)
  have HX := Lib.hid hx1
  have HR := Lib.hid hr1
  have HF := Lib.hid hf1
  have HB := Lib.hid hb1
  have HV := Lib.hid (show x.m.ver = x.ver from rfl)
  clear h hs hd hx1 hr1 hf1 hb1
  go_enter Try.func53, Try.ntmps53
  go_upto_region 1 with fail
  generalize ((w.alloc (.cells #[.int .i64 x.ver, .slice x.pa x.procs.length x.pc, .slice x.la x.links.length x.lc, .slice x.ea x.events.length x.ec] 26)).alloc (.cells #[.int .i64 0, .slice none 0 0, .slice none 0 0, .slice none 0 0] 26)).alloc (.cells #[.int .i64 0, .int .i64 0] 31) = w1 at *
  have c0 : w1.cell? ⟨w.heap.size, 0, none⟩ = some (.int .i64 x.ver) := heap_cell HX.out rfl
  have c1 : w1.cell? ⟨w.heap.size, 1, none⟩ = some (.slice x.pa x.procs.length x.pc) := heap_cell HX.out rfl
  have c2 : w1.cell? ⟨w.heap.size, 2, none⟩ = some (.slice x.la x.links.length x.lc) := heap_cell HX.out rfl
  have c3 : w1.cell? ⟨w.heap.size, 3, none⟩ = some (.slice x.ea x.events.length x.ec) := heap_cell HX.out rfl
  by_cases h1 : x.ver = 1
  · have hb1 : (x.ver == 1) = true := by simpa using h1
    have HE : Hid (upR x.m = delR x.m) := Lib.hid (by unfold upR; rw [HV.out, if_pos h1])
    clear h1
    go_wp2_with fail
    refine HCd.out.mono ?_
    clear HCd HCw c0 c1 c2 c3
    rintro e w2 ⟨x1, rfl, hm, hown, hb⟩
    replace HR := Lib.hid (heap_below HR.out hb (heap_lt HR.out))
    replace HF := Lib.hid (heap_below HF.out hb (heap_lt HF.out))
    have hz1 := HB.out.size
    replace HB := Lib.hid (HB.out.trans (hb.mono HB.out.size))
    have HO := Lib.hid (hown.mono hz1)
    rw [← HE.out] at hm ⊢
    have HMm := Lib.hid hm
    clear hb HX hown hm
    generalize upR x.m = R at *
    obtain ⟨R1, R2, R3⟩ := R
    dsimp only at *
    have d0 : w2.cell? ⟨w.heap.size + 1, 0, none⟩ = some (.int .i64 0) := heap_cell HR.out rfl
    have d1 : w2.cell? ⟨w.heap.size + 1, 1, none⟩ = some (.slice none 0 0) := heap_cell HR.out rfl
    have d2 : w2.cell? ⟨w.heap.size + 1, 2, none⟩ = some (.slice none 0 0) := heap_cell HR.out rfl
    have d3 : w2.cell? ⟨w.heap.size + 1, 3, none⟩ = some (.slice none 0 0) := heap_cell HR.out rfl
    have e0 : w2.cell? ⟨w.heap.size + 1 + 1, 0, none⟩ = some (.int .i64 0) := heap_cell HF.out rfl
    have e1 : w2.cell? ⟨w.heap.size + 1 + 1, 1, none⟩ = some (.int .i64 0) := heap_cell HF.out rfl
    have f0 := heap_frozen HR.out 0
    have f1 := heap_frozen HR.out 1
    have f2 := heap_frozen HR.out 2
    have f3 := heap_frozen HR.out 3
    have g0 := heap_frozen HF.out 0
    have g1 := heap_frozen HF.out 1
    go_wp2
    have h4 := set4 HR.out (.int .i64 x1.ver) (.slice x1.pa x1.procs.length x1.pc) (.slice x1.la x1.links.length x1.lc) (.slice x1.ea x1.events.length x1.ec)
    have hf4 := h4.2.old HF.out (fun e => by omega)
    have h2 := set2 hf4 (.int .i64 R2) (.int .i64 R3)
    have hres := h2.2.old h4.1 (fun e => by omega)
    have hlow := (low_one (low_one HB.out h4.2 (by omega)) h2.2 (by omega))
    have hown := (HO.out.boxT HR.out rfl h4.2).boxT hf4 rfl h2.2
    refine bodyPost_ret (up_ret rfl hres h2.1 rfl rfl) rfl ?_
    exact ⟨x1, rfl, HMm.out, hown, hlow⟩
  · by_cases h2 : x.ver = 2
    · have hb1 : (x.ver == 1) = false := by simpa using h1
      have hb2 : (x.ver == 2) = true := by simpa using h2
      have HE : Hid (upR x.m = (wghM x.m, 0, 0)) := Lib.hid (by unfold upR; rw [HV.out, if_neg h1, if_pos h2])
      clear h1 h2
      go_wp2_with fail
      refine HCw.out.mono ?_
      clear HCd HCw c0 c1 c2 c3
      rintro e w2 ⟨x1, rfl, hm, hown, hb⟩
      replace HR := Lib.hid (heap_below HR.out hb (heap_lt HR.out))
      replace HF := Lib.hid (heap_below HF.out hb (heap_lt HF.out))
      have hz1 := HB.out.size
      replace HB := Lib.hid (HB.out.trans (hb.mono HB.out.size))
      have HO := Lib.hid (hown.mono hz1)
      have HMm := Lib.hid hm
      clear hb HX hown hm
      have d0 : w2.cell? ⟨w.heap.size + 1, 0, none⟩ = some (.int .i64 0) := heap_cell HR.out rfl
      have d1 : w2.cell? ⟨w.heap.size + 1, 1, none⟩ = some (.slice none 0 0) := heap_cell HR.out rfl
      have d2 : w2.cell? ⟨w.heap.size + 1, 2, none⟩ = some (.slice none 0 0) := heap_cell HR.out rfl
      have d3 : w2.cell? ⟨w.heap.size + 1, 3, none⟩ = some (.slice none 0 0) := heap_cell HR.out rfl
      have e0 : w2.cell? ⟨w.heap.size + 1 + 1, 0, none⟩ = some (.int .i64 0) := heap_cell HF.out rfl
      have e1 : w2.cell? ⟨w.heap.size + 1 + 1, 1, none⟩ = some (.int .i64 0) := heap_cell HF.out rfl
      have f0 := heap_frozen HR.out 0
      have f1 := heap_frozen HR.out 1
      have f2 := heap_frozen HR.out 2
      have f3 := heap_frozen HR.out 3
      have g0 := heap_frozen HF.out 0
      have g1 := heap_frozen HF.out 1
      go_wp2
      have h4 := set4 HR.out (.int .i64 x1.ver) (.slice x1.pa x1.procs.length x1.pc) (.slice x1.la x1.links.length x1.lc) (.slice x1.ea x1.events.length x1.ec)
      have hf4 := h4.2.old HF.out (fun e => by omega)
      have h2 := set2 hf4 (.int .i64 0) (.int .i64 0)
      have hres := h2.2.old h4.1 (fun e => by omega)
      have hlow := (low_one (low_one HB.out h4.2 (by omega)) h2.2 (by omega))
      have hown := (HO.out.boxT HR.out rfl h4.2).boxT hf4 rfl h2.2
      refine bodyPost_ret (up_ret rfl hres h2.1 rfl rfl) rfl ?_
      exact ⟨x1, by rw [HE.out], by rw [HE.out]; exact HMm.out, hown, hlow⟩
    · have hb1 : (x.ver == 1) = false := by simpa using h1
      have hb2 : (x.ver == 2) = false := by simpa using h2
      have HE : Hid (upR x.m = (zeroM, 43, 0)) := Lib.hid (by unfold upR; rw [HV.out, if_neg h1, if_neg h2])
      clear h1 h2
      have d0 : w1.cell? ⟨w.heap.size + 1, 0, none⟩ = some (.int .i64 0) := heap_cell HR.out rfl
      have d1 : w1.cell? ⟨w.heap.size + 1, 1, none⟩ = some (.slice none 0 0) := heap_cell HR.out rfl
      have d2 : w1.cell? ⟨w.heap.size + 1, 2, none⟩ = some (.slice none 0 0) := heap_cell HR.out rfl
      have d3 : w1.cell? ⟨w.heap.size + 1, 3, none⟩ = some (.slice none 0 0) := heap_cell HR.out rfl
      have e0 : w1.cell? ⟨w.heap.size + 1 + 1, 0, none⟩ = some (.int .i64 0) := heap_cell HF.out rfl
      have e1 : w1.cell? ⟨w.heap.size + 1 + 1, 1, none⟩ = some (.int .i64 0) := heap_cell HF.out rfl
      have f0 := heap_frozen HR.out 0
      have f1 := heap_frozen HR.out 1
      have f2 := heap_frozen HR.out 2
      have f3 := heap_frozen HR.out 3
      have g0 := heap_frozen HF.out 0
      have g1 := heap_frozen HF.out 1
      go_wp2
      have h4 := set4 HR.out (.int .i64 0) (.slice none 0 0) (.slice none 0 0) (.slice none 0 0)
      have hf4 := h4.2.old HF.out (fun e => by omega)
      have h2 := set2 hf4 (.int .i64 43) (.int .i64 0)
      have hres := h2.2.old h4.1 (fun e => by omega)
      have hlow := (low_one (low_one HB.out h4.2 (by omega)) h2.2 (by omega))
      refine bodyPost_ret (up_ret rfl hres h2.1 rfl rfl) rfl ?_
      exact ⟨noneV, by rw [HE.out]; rfl, by rw [HE.out]; rfl, own_none _ _, hlow⟩
end Go.Proofs.Ytgnlehenbdcgmaa.Md

namespace Go.Proofs.Ytgnlehenbdcgmaa.Md
open Go.RowKit Go.Shelf
/-- One up of any model. -/
def UpR (m : ModelM) : ModelM × Int × Int := if (mdE m).1 = 0 then upR m else (zeroM, (mdE m).1, (mdE m).2)
theorem ln_delays {m : ModelM} (h : Right m) : ∀ l ∈ m.links, 1 ≤ l.delay ∧ l.delay ≤ 1099511627776 := fun l hl => by
  obtain ⟨i, hi⟩ := List.getElem?_of_mem hl
  have := h.links i l hi
  unfold lnE at this
  split at this
  · exact absurd this ‹_›
  · split at this
    · simp at this
    · split at this
      · simp at this
      · rename_i h3
        simp at h3
        omega
set_option maxRecDepth 100000 in
set_option maxHeartbeats 4000000 in
theorem upgradeUp_any {w : World} {x : ModelV} (h : ModelAt w.heap.size w x) (hs : Sized x.m) : Calls Try.prog 25 #[.agg #[.int .i64 x.ver, .slice x.pa x.procs.length x.pc, .slice x.la x.links.length x.lc, .slice x.ea x.events.length x.ec]] w (UpQ w (UpR x.m)) := by
  have hx1 := heap_alloc (heap_alloc (heap_new (w := w) (.cells #[.int .i64 x.ver, .slice x.pa x.procs.length x.pc, .slice x.la x.links.length x.lc, .slice x.ea x.events.length x.ec] 26) rfl) (.cells #[.int .i64 0, .slice none 0 0, .slice none 0 0, .slice none 0 0] 26)) (.cells #[.int .i64 0, .int .i64 0] 31)
  have hr1 := heap_alloc (heap_new (w := w.alloc (.cells #[.int .i64 x.ver, .slice x.pa x.procs.length x.pc, .slice x.la x.links.length x.lc, .slice x.ea x.events.length x.ec] 26)) (.cells #[.int .i64 0, .slice none 0 0, .slice none 0 0, .slice none 0 0] 26) rfl) (.cells #[.int .i64 0, .int .i64 0] 31)
  have hf1 := heap_new (w := (w.alloc (.cells #[.int .i64 x.ver, .slice x.pa x.procs.length x.pc, .slice x.la x.links.length x.lc, .slice x.ea x.events.length x.ec] 26)).alloc (.cells #[.int .i64 0, .slice none 0 0, .slice none 0 0, .slice none 0 0] 26)) (.cells #[.int .i64 0, .int .i64 0] 31) rfl
  have hb1 := ((below_one w (.cells #[.int .i64 x.ver, .slice x.pa x.procs.length x.pc, .slice x.la x.links.length x.lc, .slice x.ea x.events.length x.ec] 26)).alloc (by simp) (.cells #[.int .i64 0, .slice none 0 0, .slice none 0 0, .slice none 0 0] 26)).alloc (by simp; omega) (.cells #[.int .i64 0, .int .i64 0] 31)
  rw [World.size_alloc] at hr1
  rw [World.size_alloc, World.size_alloc] at hf1
  have HC := Lib.hid (check_any (h.on hb1))
  have HX := Lib.hid hx1
  have HR := Lib.hid hr1
  have HF := Lib.hid hf1
  have HB := Lib.hid hb1
  have HM := Lib.hid h
  have HSz := Lib.hid hs
  clear h hs hx1 hr1 hf1 hb1
  go_enter Try.func25, Try.ntmps25
  go_upto_region 1 with fail
  generalize ((w.alloc (.cells #[.int .i64 x.ver, .slice x.pa x.procs.length x.pc, .slice x.la x.links.length x.lc, .slice x.ea x.events.length x.ec] 26)).alloc (.cells #[.int .i64 0, .slice none 0 0, .slice none 0 0, .slice none 0 0] 26)).alloc (.cells #[.int .i64 0, .int .i64 0] 31) = w1 at *
  have c0 : w1.cell? ⟨w.heap.size, 0, none⟩ = some (.int .i64 x.ver) := heap_cell HX.out rfl
  have c1 : w1.cell? ⟨w.heap.size, 1, none⟩ = some (.slice x.pa x.procs.length x.pc) := heap_cell HX.out rfl
  have c2 : w1.cell? ⟨w.heap.size, 2, none⟩ = some (.slice x.la x.links.length x.lc) := heap_cell HX.out rfl
  have c3 : w1.cell? ⟨w.heap.size, 3, none⟩ = some (.slice x.ea x.events.length x.ec) := heap_cell HX.out rfl
  go_wp2_with fail
  refine HC.out.mono ?_
  clear HC c0 c1 c2 c3
  rintro e w2 ⟨rfl, hb⟩
  have HXa := Lib.hid (heap_alloc (heap_below HX.out hb (heap_lt HX.out)) (.cells #[.int .i64 (mdE x.m).1, .int .i64 (mdE x.m).2] 31))
  have HRa := Lib.hid (heap_alloc (heap_below HR.out hb (heap_lt HR.out)) (.cells #[.int .i64 (mdE x.m).1, .int .i64 (mdE x.m).2] 31))
  have HFa := Lib.hid (heap_alloc (heap_below HF.out hb (heap_lt HF.out)) (.cells #[.int .i64 (mdE x.m).1, .int .i64 (mdE x.m).2] 31))
  have hz1 := HB.out.size
  have HBa := Lib.hid ((HB.out.trans (hb.mono HB.out.size)).alloc (by have := hb.size; omega) (.cells #[.int .i64 (mdE x.m).1, .int .i64 (mdE x.m).2] 31))
  have HFl := Lib.hid (heap_new (w := w2) (.cells #[.int .i64 (mdE x.m).1, .int .i64 (mdE x.m).2] 31) rfl)
  have hlF : w.heap.size + 1 + 1 < w2.heap.size := by
    have h1 := heap_lt HF.out
    have h2 := hb.size
    omega
  clear hb HX HR HF HB hz1
  go_upto_region 2 with fail
  obtain ⟨E, hE⟩ : ∃ E, mdE x.m = E := ⟨_, rfl⟩
  rw [hE] at HXa HRa HFa HBa HFl ⊢
  have HEE := Lib.hid hE
  clear hE
  obtain ⟨e1, e2⟩ := E
  dsimp only at *
  generalize w2.alloc (.cells #[.int .i64 e1, .int .i64 e2] 31) = w3 at *
  have HX := HXa
  have HR := HRa
  have HF := HFa
  have HB := HBa
  clear HXa HRa HFa HBa
  have b0 : w3.cell? ⟨w2.heap.size, 0, none⟩ = some (.int .i64 e1) := heap_cell HFl.out rfl
  have b1 : w3.cell? ⟨w2.heap.size, 1, none⟩ = some (.int .i64 e2) := heap_cell HFl.out rfl
  by_cases he : e1 = 0
  · have heb : (e1 != 0) = false := by simpa using he
    have HRt : Hid (Right x.m) := Lib.hid (right_of (by rw [HEE.out]; exact he))
    have HE : Hid (UpR x.m = upR x.m) := Lib.hid (by unfold UpR; rw [HEE.out, if_pos he])
    clear he
    have c0 : w3.cell? ⟨w.heap.size, 0, none⟩ = some (.int .i64 x.ver) := heap_cell HX.out rfl
    have c1 : w3.cell? ⟨w.heap.size, 1, none⟩ = some (.slice x.pa x.procs.length x.pc) := heap_cell HX.out rfl
    have c2 : w3.cell? ⟨w.heap.size, 2, none⟩ = some (.slice x.la x.links.length x.lc) := heap_cell HX.out rfl
    have c3 : w3.cell? ⟨w.heap.size, 3, none⟩ = some (.slice x.ea x.events.length x.ec) := heap_cell HX.out rfl
    go_wp2_with fail
    refine (up_any (HM.out.on HB.out) HSz.out (fun l hl => by have := ln_delays HRt.out l hl; omega)).mono ?_
    clear c0 c1 c2 c3 b0 b1
    rintro e w4 ⟨x1, rfl, hm, hown, hb⟩
    replace HR := Lib.hid (heap_below HR.out hb (heap_lt HR.out))
    replace HF := Lib.hid (heap_below HF.out hb (heap_lt HF.out))
    have hz1 := HB.out.size
    replace HB := Lib.hid (HB.out.trans (hb.mono HB.out.size))
    have HO := Lib.hid (hown.mono hz1)
    rw [← HE.out] at hm ⊢
    have HMm := Lib.hid hm
    clear hb HX hown hm
    generalize UpR x.m = R at *
    obtain ⟨R1, R2, R3⟩ := R
    dsimp only at *
    have d0 : w4.cell? ⟨w.heap.size + 1, 0, none⟩ = some (.int .i64 0) := heap_cell HR.out rfl
    have d1 : w4.cell? ⟨w.heap.size + 1, 1, none⟩ = some (.slice none 0 0) := heap_cell HR.out rfl
    have d2 : w4.cell? ⟨w.heap.size + 1, 2, none⟩ = some (.slice none 0 0) := heap_cell HR.out rfl
    have d3 : w4.cell? ⟨w.heap.size + 1, 3, none⟩ = some (.slice none 0 0) := heap_cell HR.out rfl
    have q0 : w4.cell? ⟨w.heap.size + 1 + 1, 0, none⟩ = some (.int .i64 0) := heap_cell HF.out rfl
    have q1 : w4.cell? ⟨w.heap.size + 1 + 1, 1, none⟩ = some (.int .i64 0) := heap_cell HF.out rfl
    have f0 := heap_frozen HR.out 0
    have f1 := heap_frozen HR.out 1
    have f2 := heap_frozen HR.out 2
    have f3 := heap_frozen HR.out 3
    have g0 := heap_frozen HF.out 0
    have g1 := heap_frozen HF.out 1
    go_wp2
    have h4 := set4 HR.out (.int .i64 x1.ver) (.slice x1.pa x1.procs.length x1.pc) (.slice x1.la x1.links.length x1.lc) (.slice x1.ea x1.events.length x1.ec)
    have hf4 := h4.2.old HF.out (fun e => by omega)
    have h2 := set2 hf4 (.int .i64 R2) (.int .i64 R3)
    have hres := h2.2.old h4.1 (fun e => by omega)
    have hlow := (low_one (low_one HB.out h4.2 (by omega)) h2.2 (by omega))
    have hown := (HO.out.boxT HR.out rfl h4.2).boxT hf4 rfl h2.2
    refine bodyPost_ret (up_ret rfl hres h2.1 rfl rfl) rfl ?_
    exact ⟨x1, rfl, HMm.out, hown, hlow⟩
  · have heb : (e1 != 0) = true := by simpa using he
    have HE : Hid (UpR x.m = (zeroM, e1, e2)) := Lib.hid (by unfold UpR; rw [HEE.out, if_neg he])
    clear he
    have d0 : w3.cell? ⟨w.heap.size + 1, 0, none⟩ = some (.int .i64 0) := heap_cell HR.out rfl
    have d1 : w3.cell? ⟨w.heap.size + 1, 1, none⟩ = some (.slice none 0 0) := heap_cell HR.out rfl
    have d2 : w3.cell? ⟨w.heap.size + 1, 2, none⟩ = some (.slice none 0 0) := heap_cell HR.out rfl
    have d3 : w3.cell? ⟨w.heap.size + 1, 3, none⟩ = some (.slice none 0 0) := heap_cell HR.out rfl
    have q0 : w3.cell? ⟨w.heap.size + 1 + 1, 0, none⟩ = some (.int .i64 0) := heap_cell HF.out rfl
    have q1 : w3.cell? ⟨w.heap.size + 1 + 1, 1, none⟩ = some (.int .i64 0) := heap_cell HF.out rfl
    have f0 := heap_frozen HR.out 0
    have f1 := heap_frozen HR.out 1
    have f2 := heap_frozen HR.out 2
    have f3 := heap_frozen HR.out 3
    have g0 := heap_frozen HF.out 0
    have g1 := heap_frozen HF.out 1
    have n0 : w2.heap.size < w3.heap.size := heap_lt HFl.out
    have n1 : ¬ w.heap.size + 1 = w2.heap.size := by omega
    have n2 : ¬ w.heap.size + 1 + 1 = w2.heap.size := by omega
    have n3 : ¬ w2.heap.size = w.heap.size + 1 := by omega
    have n4 : ¬ w2.heap.size = w.heap.size + 1 + 1 := by omega
    clear hlF n0 HX HSz HM HFl
    go_upto_region 3 with fail
    go_region
    go_wp2
    have h4 := set4 HR.out (.int .i64 0) (.slice none 0 0) (.slice none 0 0) (.slice none 0 0)
    have hf4 := h4.2.old HF.out (fun e => by omega)
    have h2 := set2 hf4 (.int .i64 e1) (.int .i64 e2)
    have hres := h2.2.old h4.1 (fun e => by omega)
    have hlow := (low_one (low_one HB.out h4.2 (by omega)) h2.2 (by omega)).drew
    refine bodyPost_ret (up_ret_drew rfl hres h2.1 rfl rfl) rfl ?_
    exact ⟨noneV, by rw [HE.out]; rfl, by rw [HE.out]; rfl, own_none _ _, hlow⟩
end Go.Proofs.Ytgnlehenbdcgmaa.Md
