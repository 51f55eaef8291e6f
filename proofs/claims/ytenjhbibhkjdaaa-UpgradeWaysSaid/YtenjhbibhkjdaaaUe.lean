/- Contracts: a right model of version 2, one up; a right model, one up. -/
import Derived.Test.YtenjhbibhkjdaaaUd
set_option linter.unusedVariables false
set_option linter.unusedSectionVars false
set_option linter.unusedSimpArgs false
namespace Go.Proofs.Ytenjhbibhkjdaaa.Md
open Go.RowKit Go.Shelf

/-- While weights are turned. -/
structure Wg (w : World) (x1 : ModelV) (i j : Nat) (W : World) : Prop where
  box : W.heap[w.heap.size]? = some (.cells #[.int .i64 3, .slice x1.pa x1.procs.length x1.pc, .slice x1.la x1.links.length x1.lc, .slice x1.ea x1.events.length x1.ec] 26 (0, 0))
  res : W.heap[w.heap.size + 1]? = some (.cells #[.int .i64 0, .slice none 0 0, .slice none 0 0, .slice none 0 0] 26 (0, 0))
  own : OwnM w.heap.size W { x1 with ver := 3, procs := upto wghV i x1.procs, links := upto wghL j x1.links }
  low : Below w.heap.size w W
theorem Wg.on {w : World} {x1 : ModelV} {i j : Nat} {W W' : World} (h : Wg w x1 i j W) (hb : Below W.heap.size W W') : Wg w x1 i j W' :=
  ⟨heap_below h.box hb (heap_lt h.box), heap_below h.res hb (heap_lt h.res), h.own.on hb, h.low.trans (hb.mono h.low.size)⟩
set_option maxRecDepth 100000 in
set_option maxHeartbeats 4000000 in
theorem weighed_any {w : World} {x : ModelV} (h : ModelAt w.heap.size w x) (hs : Sized x.m) : Calls Try.prog 83 #[.agg #[.int .i64 x.ver, .slice x.pa x.procs.length x.pc, .slice x.la x.links.length x.lc, .slice x.ea x.events.length x.ec]] w (CopyQ w (wghM x.m)) := by
  have HSz := Lib.hid hs
  have hx1 := heap_alloc (heap_new (w := w) (.cells #[.int .i64 x.ver, .slice x.pa x.procs.length x.pc, .slice x.la x.links.length x.lc, .slice x.ea x.events.length x.ec] 26) rfl) (.cells #[.int .i64 0, .slice none 0 0, .slice none 0 0, .slice none 0 0] 26)
  have hr1 := heap_new (w := w.alloc (.cells #[.int .i64 x.ver, .slice x.pa x.procs.length x.pc, .slice x.la x.links.length x.lc, .slice x.ea x.events.length x.ec] 26)) (.cells #[.int .i64 0, .slice none 0 0, .slice none 0 0, .slice none 0 0] 26) rfl
  have hb1 := (below_one w (.cells #[.int .i64 x.ver, .slice x.pa x.procs.length x.pc, .slice x.la x.links.length x.lc, .slice x.ea x.events.length x.ec] 26)).alloc (by simp) (.cells #[.int .i64 0, .slice none 0 0, .slice none 0 0, .slice none 0 0] 26)
  rw [World.size_alloc] at hr1
  have HC := Lib.hid (copy_any (h.on hb1) hs)
  have HX := Lib.hid hx1
  have HR := Lib.hid hr1
  have HB := Lib.hid hb1
  clear h hs hx1 hr1 hb1
  go_enter Try.func83, Try.ntmps83
  go_upto_region 1 with fail
  generalize (w.alloc (.cells #[.int .i64 x.ver, .slice x.pa x.procs.length x.pc, .slice x.la x.links.length x.lc, .slice x.ea x.events.length x.ec] 26)).alloc (.cells #[.int .i64 0, .slice none 0 0, .slice none 0 0, .slice none 0 0] 26) = w1 at *
  have c0 : w1.cell? ⟨w.heap.size, 0, none⟩ = some (.int .i64 x.ver) := heap_cell HX.out rfl
  have c1 : w1.cell? ⟨w.heap.size, 1, none⟩ = some (.slice x.pa x.procs.length x.pc) := heap_cell HX.out rfl
  have c2 : w1.cell? ⟨w.heap.size, 2, none⟩ = some (.slice x.la x.links.length x.lc) := heap_cell HX.out rfl
  have c3 : w1.cell? ⟨w.heap.size, 3, none⟩ = some (.slice x.ea x.events.length x.ec) := heap_cell HX.out rfl
  go_wp2_with fail
  refine HC.out.mono ?_
  clear HC c0 c1 c2 c3
  rintro e w2 ⟨x1, rfl, hm, hown, hb⟩
  have hx2 := heap_below HX.out hb (heap_lt HX.out)
  replace HR := Lib.hid (heap_below HR.out hb (heap_lt HR.out))
  have hz1 := HB.out.size
  replace HB := Lib.hid (HB.out.trans (hb.mono HB.out.size))
  clear hb HX
  have c0 : w2.cell? ⟨w.heap.size, 0, none⟩ = some (.int .i64 x.ver) := heap_cell hx2 rfl
  have c1 : w2.cell? ⟨w.heap.size, 1, none⟩ = some (.slice x.pa x.procs.length x.pc) := heap_cell hx2 rfl
  have c2 : w2.cell? ⟨w.heap.size, 2, none⟩ = some (.slice x.la x.links.length x.lc) := heap_cell hx2 rfl
  have c3 : w2.cell? ⟨w.heap.size, 3, none⟩ = some (.slice x.ea x.events.length x.ec) := heap_cell hx2 rfl
  have f0 := heap_frozen hx2 0
  have f1 := heap_frozen hx2 1
  have f2 := heap_frozen hx2 2
  have f3 := heap_frozen hx2 3
  have HX := Lib.hid hx2
  have HO := Lib.hid hown
  have HMm := Lib.hid hm
  clear hx2 hown hm
  go_upto_region 3 with fail
  have hs4 := set4 HX.out (.int .i64 x1.ver) (.slice x1.pa x1.procs.length x1.pc) (.slice x1.la x1.links.length x1.lc) (.slice x1.ea x1.events.length x1.ec)
  have hT3 : Turned (fun k => k = w.heap.size) w2 (((((w2.setCell ⟨w.heap.size, 0, none⟩ (.int .i64 x1.ver)).setCell ⟨w.heap.size, 1, none⟩ (.slice x1.pa x1.procs.length x1.pc)).setCell ⟨w.heap.size, 2, none⟩ (.slice x1.la x1.links.length x1.lc)).setCell ⟨w.heap.size, 3, none⟩ (.slice x1.ea x1.events.length x1.ec)).setCell ⟨w.heap.size, 0, none⟩ (.int .i64 3)) := Turned.set' hs4.2 rfl 0 (.int .i64 3)
  have hx3 : (((((w2.setCell ⟨w.heap.size, 0, none⟩ (.int .i64 x1.ver)).setCell ⟨w.heap.size, 1, none⟩ (.slice x1.pa x1.procs.length x1.pc)).setCell ⟨w.heap.size, 2, none⟩ (.slice x1.la x1.links.length x1.lc)).setCell ⟨w.heap.size, 3, none⟩ (.slice x1.ea x1.events.length x1.ec)).setCell ⟨w.heap.size, 0, none⟩ (.int .i64 3)).heap[w.heap.size]? = some (.cells #[.int .i64 3, .slice x1.pa x1.procs.length x1.pc, .slice x1.la x1.links.length x1.lc, .slice x1.ea x1.events.length x1.ec] 26 (0, 0)) := heap_set hs4.1 0 (.int .i64 3)
  have hr3 := hT3.old HR.out (fun e => by omega)
  have ho3 := (HO.out.boxT HX.out rfl hT3).mono hz1
  have hb3 := low_one HB.out hT3 (Nat.le_refl _)
  clear c0 c1 c2 c3 f0 f1 f2 f3 hs4 HX HR HO HB hz1
  generalize (((((w2.setCell ⟨w.heap.size, 0, none⟩ (.int .i64 x1.ver)).setCell ⟨w.heap.size, 1, none⟩ (.slice x1.pa x1.procs.length x1.pc)).setCell ⟨w.heap.size, 2, none⟩ (.slice x1.la x1.links.length x1.lc)).setCell ⟨w.heap.size, 3, none⟩ (.slice x1.ea x1.events.length x1.ec)).setCell ⟨w.heap.size, 0, none⟩ (.int .i64 3)) = w3 at *
  have HDL : Hid (Wg w x1 0 0 w3) := Lib.hid ⟨hx3, hr3, ⟨ho3.procs, ho3.po, ho3.inner, ho3.links, ho3.lo, ho3.events, ho3.eo⟩, hb3⟩
  have hlk : x1.links = x.links := by have := HMm.out; unfold ModelV.m at this; injection this
  have hpl : x1.procs.length = x.procs.length := by
    have := HMm.out
    unfold ModelV.m at this
    injection this with _ h2 _ _
    have := congrArg List.length h2
    simpa using this
  have hnl : x1.links.length ≤ 20000 := by rw [hlk]; exact HSz.out.links
  have hnp : x1.procs.length ≤ 20000 := by rw [hpl]; have := HSz.out.procs; unfold ModelV.m at this; rwa [List.length_map] at this
  have hnli : (x1.links.length : Int) ≤ 20000 := by omega
  have hnpi : (x1.procs.length : Int) ≤ 20000 := by omega
  clear hx3 hr3 ho3 hb3 hT3 hlk hpl
  have c1 : w3.cell? ⟨w.heap.size, 1, none⟩ = some (.slice x1.pa x1.procs.length x1.pc) := heap_cell HDL.out.box rfl
  go_wp2_with fail
  clear c1
  go_loopw [13] (fun i wr => ∃ j : Nat, i = .int .i64 (j : Int) ∧ j ≤ x1.procs.length ∧ Hid (Wg w x1 j 0 wr)) (fun i _ => x1.procs.length - (intOf i).toNat)
  case atStart => exact ⟨0, rfl, Nat.zero_le _, HDL⟩
  case round =>
    clear HDL
    obtain ⟨j, rfl, hj, HDL⟩ := hrel
    have hj0 : (0 : Int) ≤ (j : Int) := Int.natCast_nonneg j
    by_cases hlt : j < x1.procs.length
    · have hji : (j : Int) < (x1.procs.length : Int) := by omega
      obtain ⟨p, hl0⟩ : ∃ p, x1.procs[j]? = some p := ⟨_, List.getElem?_eq_getElem hlt⟩
      have hl : (upto wghV j x1.procs)[j]? = some p := by rw [upto_get hlt]; exact hl0
      obtain ⟨ha, hbase, hrow⟩ := HDL.out.own.procs.own.resolve_left (fun e => by dsimp only at e; rw [e] at hl; simp at hl)
      dsimp only at ha hbase hrow
      have hll := HDL.out.own.procs.fits p (List.mem_of_getElem? hl)
      have r0 : wr.cell? ⟨x1.pb, j * 4, none⟩ = some (.string p.p.name) := hrow.cell hl (r := 0) rfl
      have r1 : wr.cell? ⟨x1.pb, j * 4 + 1, none⟩ = some (.int .i64 p.p.weight) := hrow.cell hl (r := 1) rfl
      have r2 : wr.cell? ⟨x1.pb, j * 4 + 2, none⟩ = some (.slice p.va p.p.vars.length p.vc) := hrow.cell hl (r := 2) rfl
      have r3 : wr.cell? ⟨x1.pb, j * 4 + 3, none⟩ = some (.slice p.sa p.p.steps.length p.sc) := hrow.cell hl (r := 3) rfl
      have HDx : Hid (Wg w x1 j 0 (wr.alloc (.cells #[.string p.p.name, .int .i64 p.p.weight, .slice p.va p.p.vars.length p.vc, .slice p.sa p.p.steps.length p.sc] 39))) := Lib.hid (HDL.out.on (below_one _ _))
      have HO8 := Lib.hid (heap_new (w := wr) (.cells #[.string p.p.name, .int .i64 p.p.weight, .slice p.va p.p.vars.length p.vc, .slice p.sa p.p.steps.length p.sc] 39) rfl)
      have HRow : Hid (RowC encP 4 (wr.alloc (.cells #[.string p.p.name, .int .i64 p.p.weight, .slice p.va p.p.vars.length p.vc, .slice p.sa p.p.steps.length p.sc] 39)) x1.pb 39 (upto wghV j x1.procs)) := Lib.hid (hrow.on (below_one _ _))
      have HL := Lib.hid hl
      have HL0 := Lib.hid hl0
      have HLl := Lib.hid hll
      rw [ha]
      have HAl := Lib.hid ha
      have hnN : w.heap.size < wr.heap.size := heap_lt HDL.out.box
      have hbl : x1.pb < wr.heap.size := hrow.lt
      clear hrow hl hl0 ha hll HDL
      go_upto_region 6 with fail
      clear r0 r1 r2 r3
      have hz8 : (wr.alloc (.cells #[.string p.p.name, .int .i64 p.p.weight, .slice p.va p.p.vars.length p.vc, .slice p.sa p.p.steps.length p.sc] 39)).heap.size = wr.heap.size + 1 := World.size_alloc _ _
      generalize wr.alloc (.cells #[.string p.p.name, .int .i64 p.p.weight, .slice p.va p.p.vars.length p.vc, .slice p.sa p.p.steps.length p.sc] 39) = w8 at *
      have hne : ∀ {b : Nat} {cs : Array Value} {t : TypeId}, w8.heap[b]? = some (.cells cs t (0, 0)) → t ≠ 39 → ¬ b = x1.pb := fun hb' ht e => by
        obtain ⟨cur, hc, _⟩ := HRow.out
        rw [e, hc] at hb'
        cases hb'
        exact ht rfl
      have hne8 := hne HDx.out.box (by decide)
      have hbz : ¬ x1.pb = wr.heap.size := by omega
      have hbz' : ¬ wr.heap.size = x1.pb := by omega
      have HZ8 := Lib.hid hz8
      have HNE : Hid (∀ {b : Nat} {cs : Array Value} {t : TypeId}, w8.heap[b]? = some (.cells cs t (0, 0)) → t ≠ 39 → ¬ b = x1.pb) := Lib.hid hne
      clear hz8 hne
      have dN : ∀ W, Turned (fun k => k = x1.pb) w8 W → W.cell? ⟨w.heap.size, 1, none⟩ = some (.slice (some ⟨x1.pb, 0, none⟩) x1.procs.length x1.pc) := fun W hW => by rw [heap_cell (hW.old HDx.out.box hne8) (i := 1) rfl]; simp [HAl.out]
      have dP : ∀ W, Turned (fun k => k = x1.pb) w8 W → W.cell? ⟨wr.heap.size, 1, none⟩ = some (.int .i64 p.p.weight) := fun W hW => heap_cell (hW.old HO8.out hbz') rfl
      have DR : Hid (∀ W, Below w8.heap.size w8 W → W.cell? ⟨x1.pb, j * 4 + 1, none⟩ = some (.int .i64 p.p.weight)) := Lib.hid (fun W hW => (HRow.out.on hW).cell HL.out (r := 1) rfl)
      have DF : Hid (∀ W, Below w8.heap.size w8 W → W.frozen? ⟨x1.pb, j * 4 + 1, none⟩ = false) := Lib.hid (fun W hW => (HRow.out.on hW).frozen _)
      obtain ⟨D, hD⟩ : ∃ D, orW p.p.weight = D := ⟨_, rfl⟩
      have HDw := Lib.hid hD
      have HOr : Hid (∀ (W : World) (B : Nat), W.cell? ⟨B, 0, none⟩ = some (.int .i64 p.p.weight) → W.cell? ⟨B, 1, none⟩ = some (.int .i64 1) → Calls Try.prog 96 #[.slice (some ⟨B, 0, none⟩) 2 2] W fun e w' => e = .returned (.int .i64 D) ∧ w' = W) := Lib.hid (fun W B h0 h1 => by
        have := or64_any h0 h1
        rw [show (if p.p.weight = 0 then (1 : Int) else p.p.weight) = D from hD] at this
        exact this)
      clear hD
      go_region_held3 (fun W => Turned (fun k => k = x1.pb) w8 W) (first | assumption | exact Turned.refl' _ _ | exact Turned.drew' (Turned.refl' _ _) | exact Turned.drew' (by assumption) | exact Turned.alloc' (Turned.refl' _ _) _ | exact Turned.alloc' (Turned.drew' (Turned.refl' _ _)) _ | exact Turned.alloc' (by assumption) _ | exact Turned.of_b hB9 | exact Turned.set' (R := fun k => k = x1.pb) (Turned.of_b hB9) rfl _ _) (
        (go_at_call 96; refine (HOr.out _ _ (by exact heap_cell (heap_new _ rfl) rfl) (by exact heap_cell (heap_new _ rfl) rfl)).mono ?_; rintro e w9 ⟨rfl, hw9⟩; have hB9 : Below w8.heap.size w8 w9 := (by rw [hw9]; first | exact below_one _ _ | exact ((Below.refl _ _).drew).alloc (Nat.le_refl _) _); clear hw9; have r9 := DR.out _ hB9; have f9 := DF.out _ hB9))
      have hset := (HDx.out.own.on hB9).setP (k := j) (p := p) HL.out D
      dsimp only at hset
      rw [show ({ p with p := { p.p with weight := D } } : ProcV) = wghV p by unfold wghV wghP; rw [HDw.out], upto_set HL0.out] at hset
      have HD9w := HDx.out.on hB9
      have hT := Turned.one w9 x1.pb (j * 4 + 1) (.int .i64 D)
      have hnb : ¬ w.heap.size = x1.pb := hne8
      have hnr : ¬ w.heap.size + 1 = x1.pb := HNE.out HDx.out.res (by decide)
      have HD9 : Hid (Wg w x1 (j + 1) 0 (w9.setCell ⟨x1.pb, j * 4 + 1, none⟩ (.int .i64 D))) := Lib.hid ⟨hT.old HD9w.box hnb, hT.old HD9w.res hnr, hset, low_one HD9w.low hT hbase⟩
      clear hset hT HD9w dN dP r9 f9 DR DF HOr
      go_wp2
      refine ⟨⟨j + 1, by simp, by omega, HD9⟩, ?_⟩
      unfold intOf
      simp
      omega
    · obtain rfl : j = x1.procs.length := by omega
      have c2 : wr.cell? ⟨w.heap.size, 2, none⟩ = some (.slice x1.la x1.links.length x1.lc) := heap_cell HDL.out.box rfl
      go_wp2_with fail
      clear c2
      go_loopw [31] (fun i wr => ∃ j : Nat, i = .int .i64 (j : Int) ∧ j ≤ x1.links.length ∧ Hid (Wg w x1 x1.procs.length j wr)) (fun i _ => x1.links.length - (intOf i).toNat)
      case atStart => exact ⟨0, rfl, Nat.zero_le _, HDL⟩
      case round =>
        clear HDL
        obtain ⟨j, rfl, hj, HDL⟩ := hrel
        have hj0 : (0 : Int) ≤ (j : Int) := Int.natCast_nonneg j
        by_cases hlt : j < x1.links.length
        · have hji : (j : Int) < (x1.links.length : Int) := by omega
          obtain ⟨l, hl0⟩ : ∃ l, x1.links[j]? = some l := ⟨_, List.getElem?_eq_getElem hlt⟩
          have hl : (upto wghL j x1.links)[j]? = some l := by rw [upto_get hlt]; exact hl0
          obtain ⟨ha, hbase, hrow⟩ := HDL.out.own.links.own.resolve_left (fun e => by dsimp only at e; rw [e] at hl; simp at hl)
          dsimp only at ha hbase hrow
          have hll := HDL.out.own.links.fits l (List.mem_of_getElem? hl)
          have r0 : wr.cell? ⟨x1.lb, j * 5, none⟩ = some (.string l.name) := hrow.cell hl (r := 0) rfl
          have r1 : wr.cell? ⟨x1.lb, j * 5 + 1, none⟩ = some (.string l.frm) := hrow.cell hl (r := 1) rfl
          have r2 : wr.cell? ⟨x1.lb, j * 5 + 2, none⟩ = some (.string l.to_) := hrow.cell hl (r := 2) rfl
          have r3 : wr.cell? ⟨x1.lb, j * 5 + 3, none⟩ = some (.int .i64 l.delay) := hrow.cell hl (r := 3) rfl
          have r4 : wr.cell? ⟨x1.lb, j * 5 + 4, none⟩ = some (.int .i64 l.weight) := hrow.cell hl (r := 4) rfl
          have HDx : Hid (Wg w x1 x1.procs.length j (wr.alloc (.cells #[.string l.name, .string l.frm, .string l.to_, .int .i64 l.delay, .int .i64 l.weight] 50))) := Lib.hid (HDL.out.on (below_one _ _))
          have HO8 := Lib.hid (heap_new (w := wr) (.cells #[.string l.name, .string l.frm, .string l.to_, .int .i64 l.delay, .int .i64 l.weight] 50) rfl)
          have HRow : Hid (RowC encL 5 (wr.alloc (.cells #[.string l.name, .string l.frm, .string l.to_, .int .i64 l.delay, .int .i64 l.weight] 50)) x1.lb 50 (upto wghL j x1.links)) := Lib.hid (hrow.on (below_one _ _))
          have HL := Lib.hid hl
          have HL0 := Lib.hid hl0
          have HLl := Lib.hid hll
          rw [ha]
          have HAl := Lib.hid ha
          have hnN : w.heap.size < wr.heap.size := heap_lt HDL.out.box
          have hbl : x1.lb < wr.heap.size := hrow.lt
          clear hrow hl hl0 ha hll HDL
          go_upto_region 11 with fail
          clear r0 r1 r2 r3 r4
          have hz8 : (wr.alloc (.cells #[.string l.name, .string l.frm, .string l.to_, .int .i64 l.delay, .int .i64 l.weight] 50)).heap.size = wr.heap.size + 1 := World.size_alloc _ _
          generalize wr.alloc (.cells #[.string l.name, .string l.frm, .string l.to_, .int .i64 l.delay, .int .i64 l.weight] 50) = w8 at *
          have hne : ∀ {b : Nat} {cs : Array Value} {t : TypeId}, w8.heap[b]? = some (.cells cs t (0, 0)) → t ≠ 50 → ¬ b = x1.lb := fun hb' ht e => by
            obtain ⟨cur, hc, _⟩ := HRow.out
            rw [e, hc] at hb'
            cases hb'
            exact ht rfl
          have hne8 := hne HDx.out.box (by decide)
          have hbz : ¬ x1.lb = wr.heap.size := by omega
          have hbz' : ¬ wr.heap.size = x1.lb := by omega
          have HZ8 := Lib.hid hz8
          have HNE : Hid (∀ {b : Nat} {cs : Array Value} {t : TypeId}, w8.heap[b]? = some (.cells cs t (0, 0)) → t ≠ 50 → ¬ b = x1.lb) := Lib.hid hne
          clear hz8 hne
          have dN : ∀ W, Turned (fun k => k = x1.lb) w8 W → W.cell? ⟨w.heap.size, 2, none⟩ = some (.slice (some ⟨x1.lb, 0, none⟩) x1.links.length x1.lc) := fun W hW => by rw [heap_cell (hW.old HDx.out.box hne8) (i := 2) rfl]; simp [HAl.out]
          have dP : ∀ W, Turned (fun k => k = x1.lb) w8 W → W.cell? ⟨wr.heap.size, 4, none⟩ = some (.int .i64 l.weight) := fun W hW => heap_cell (hW.old HO8.out hbz') rfl
          have DR : Hid (∀ W, Below w8.heap.size w8 W → W.cell? ⟨x1.lb, j * 5 + 4, none⟩ = some (.int .i64 l.weight)) := Lib.hid (fun W hW => (HRow.out.on hW).cell HL.out (r := 4) rfl)
          have DF : Hid (∀ W, Below w8.heap.size w8 W → W.frozen? ⟨x1.lb, j * 5 + 4, none⟩ = false) := Lib.hid (fun W hW => (HRow.out.on hW).frozen _)
          obtain ⟨D, hD⟩ : ∃ D, orW l.weight = D := ⟨_, rfl⟩
          have HDw := Lib.hid hD
          have HOr : Hid (∀ (W : World) (B : Nat), W.cell? ⟨B, 0, none⟩ = some (.int .i64 l.weight) → W.cell? ⟨B, 1, none⟩ = some (.int .i64 1) → Calls Try.prog 96 #[.slice (some ⟨B, 0, none⟩) 2 2] W fun e w' => e = .returned (.int .i64 D) ∧ w' = W) := Lib.hid (fun W B h0 h1 => by
            have := or64_any h0 h1
            rw [show (if l.weight = 0 then (1 : Int) else l.weight) = D from hD] at this
            exact this)
          clear hD
          go_region_held3 (fun W => Turned (fun k => k = x1.lb) w8 W) (first | assumption | exact Turned.refl' _ _ | exact Turned.drew' (Turned.refl' _ _) | exact Turned.drew' (by assumption) | exact Turned.alloc' (Turned.refl' _ _) _ | exact Turned.alloc' (Turned.drew' (Turned.refl' _ _)) _ | exact Turned.alloc' (by assumption) _ | exact Turned.of_b hB9 | exact Turned.set' (R := fun k => k = x1.lb) (Turned.of_b hB9) rfl _ _) (
            (go_at_call 96; refine (HOr.out _ _ (by exact heap_cell (heap_new _ rfl) rfl) (by exact heap_cell (heap_new _ rfl) rfl)).mono ?_; rintro e w9 ⟨rfl, hw9⟩; have hB9 : Below w8.heap.size w8 w9 := (by rw [hw9]; first | exact below_one _ _ | exact ((Below.refl _ _).drew).alloc (Nat.le_refl _) _); clear hw9; have r9 := DR.out _ hB9; have f9 := DF.out _ hB9))
          have hset := (HDx.out.own.on hB9).setL (k := j) (l := l) (l2 := { l with weight := D }) HL.out (q := 4) (by decide) (v := .int .i64 D) (encL_wgh l D) HLl.out
          dsimp only at hset
          rw [show ({ l with weight := D } : LinkM) = wghL l by unfold wghL; rw [HDw.out], upto_set HL0.out] at hset
          have HD9w := HDx.out.on hB9
          have hT := Turned.one w9 x1.lb (j * 5 + 4) (.int .i64 D)
          have hnb : ¬ w.heap.size = x1.lb := hne8
          have hnr : ¬ w.heap.size + 1 = x1.lb := HNE.out HDx.out.res (by decide)
          have HD9 : Hid (Wg w x1 x1.procs.length (j + 1) (w9.setCell ⟨x1.lb, j * 5 + 4, none⟩ (.int .i64 D))) := Lib.hid ⟨hT.old HD9w.box hnb, hT.old HD9w.res hnr, hset, low_one HD9w.low hT hbase⟩
          clear hset hT HD9w dN dP r9 f9 DR DF HOr
          go_wp2
          refine ⟨⟨j + 1, by simp, by omega, HD9⟩, ?_⟩
          unfold intOf
          simp
          omega
        · obtain rfl : j = x1.links.length := by omega

          have c0 : wr.cell? ⟨w.heap.size, 0, none⟩ = some (.int .i64 3) := heap_cell HDL.out.box rfl
          have c1 : wr.cell? ⟨w.heap.size, 1, none⟩ = some (.slice x1.pa x1.procs.length x1.pc) := heap_cell HDL.out.box rfl
          have c2 : wr.cell? ⟨w.heap.size, 2, none⟩ = some (.slice x1.la x1.links.length x1.lc) := heap_cell HDL.out.box rfl
          have c3 : wr.cell? ⟨w.heap.size, 3, none⟩ = some (.slice x1.ea x1.events.length x1.ec) := heap_cell HDL.out.box rfl
          have d0 : wr.cell? ⟨w.heap.size + 1, 0, none⟩ = some (.int .i64 0) := heap_cell HDL.out.res rfl
          have d1 : wr.cell? ⟨w.heap.size + 1, 1, none⟩ = some (.slice none 0 0) := heap_cell HDL.out.res rfl
          have d2 : wr.cell? ⟨w.heap.size + 1, 2, none⟩ = some (.slice none 0 0) := heap_cell HDL.out.res rfl
          have d3 : wr.cell? ⟨w.heap.size + 1, 3, none⟩ = some (.slice none 0 0) := heap_cell HDL.out.res rfl
          have f0 := heap_frozen HDL.out.res 0
          have f1 := heap_frozen HDL.out.res 1
          have f2 := heap_frozen HDL.out.res 2
          have f3 := heap_frozen HDL.out.res 3
          go_wp2
          have h4 := set4 HDL.out.res (.int .i64 3) (.slice x1.pa x1.procs.length x1.pc) (.slice x1.la x1.links.length x1.lc) (.slice x1.ea x1.events.length x1.ec)
          have hlow := low_one HDL.out.low h4.2 (by omega)
          have hown := HDL.out.own.boxT HDL.out.res rfl h4.2
          refine bodyPost_ret (mdl_ret rfl h4.1 rfl) rfl ?_
          refine ⟨{ x1 with ver := 3, procs := upto wghV x1.procs.length x1.procs, links := upto wghL x1.links.length x1.links }, ?_, ?_, hown, hlow⟩
          · dsimp only
            rw [upto_length (Nat.le_refl _), upto_length (Nat.le_refl _)]
          · unfold wghM ModelV.m
            dsimp only
            rw [upto_all, upto_all, List.map_map]
            have := HMm.out
            unfold ModelV.m at this
            injection this with _ h2 h3 h4
            rw [← h2, h3, h4, List.map_map]
            rfl
end Go.Proofs.Ytenjhbibhkjdaaa.Md
