/- The walk of ModelLess. -/
import Derived.Test.YtgnlehenbdcgmaaMdW
import Derived.Test.YtgnlehenbdcgmaaMdR
set_option linter.unusedVariables false
set_option linter.unusedSectionVars false
set_option linter.unusedSimpArgs false
namespace Go.Proofs.Ytgnlehenbdcgmaa.Md
open Go.RowKit Go.Shelf

theorem cell_rowM (W : World) (l : List Value) (t : TypeId) : ∀ j u, l[j]? = some u → (W.alloc (.cells l.toArray t)).cell? ((⟨W.heap.size, 0, none⟩ : Addr).add j) = some u := fun j u h => by
  have := heap_cell (heap_new (w := W) (.cells l.toArray t) rfl) (i := j) (v := u) (by simpa using h)
  rw [addr_add, Nat.zero_add]
  exact this
def bareV (p : ProcV) : ProcV := ⟨{ p.p with steps := [] }, p.va, p.vb, p.vo, p.vc, none, 0, 0, 0⟩
/-- While the bare model is gathered. -/
structure LsR (x : ModelV) (w4 : World) (L : List ProcV) (v : Value) (W : World) : Prop where
  quiet : W.heap[w4.heap.size]? = some (.cells #[.int .i64 x.ver, .slice x.pa x.procs.length x.pc, .slice x.la x.links.length x.lc, .slice none 0 0] 26 (0, 0))
  bare : W.heap[w4.heap.size + 1]? = some (.cells #[.int .i64 x.ver, v, .slice none 0 0, .slice none 0 0] 26 (0, 0))
  row : Gath W (w4.heap.size + 1 + 1) 36 4 v L.length (L.flatMap encP)
  low : Below w4.heap.size w4 W
  size : w4.heap.size + 1 + 1 ≤ W.heap.size
  lt : ∀ g, v.ownBlock = some g → g < W.heap.size
theorem LsR.alloc {x : ModelV} {w4 W : World} {L : List ProcV} {v : Value} (h : LsR x w4 L v W) (o : Obj) : LsR x w4 L v (W.alloc o) :=
  ⟨heap_alloc h.quiet o, heap_alloc h.bare o, h.row.alloc o, h.low.alloc h.low.size o, by rw [World.size_alloc]; have := h.size; omega, fun g e => by rw [World.size_alloc]; have := h.lt g e; omega⟩
theorem LsR.on {x : ModelV} {w4 W W' : World} {L : List ProcV} {v : Value} (h : LsR x w4 L v W) (hb : Below W.heap.size W W') : LsR x w4 L v W' :=
  ⟨heap_below h.quiet hb (heap_lt h.quiet), heap_below h.bare hb (heap_lt h.bare), gath_kept h.row (grown_below hb none) (fun r e => by cases e), h.low.trans (hb.mono h.low.size), by have := hb.size; have := h.size; omega, fun g e => by have := h.lt g e; have := hb.size; omega⟩
theorem LsR.app {x : ModelV} {w4 W w5 : World} {L : List ProcV} {p : ProcV} {v v' : Value} {row : Option Nat} (h : LsR x w4 L v W) (hown : w5.ownsRow (w4.heap.size + 1 + 1) 36 4 v' (L.length + 1) (L.flatMap encP ++ encP p)) (hg : W.grownBy w5 row) (hrow : ∀ g, row = some g → w4.heap.size + 1 + 1 ≤ g) :
    w5.heap[w4.heap.size + 1]? = some (.cells #[.int .i64 x.ver, v, .slice none 0 0, .slice none 0 0] 26 (0, 0)) ∧ LsR x w4 (L ++ [p]) v' (w5.setCell ⟨w4.heap.size + 1, 1, none⟩ v') := by
  have hq : w5.heap[w4.heap.size]? = _ := heap_kept h.quiet hg (fun e => by have := hrow _ e.symm; omega)
  have hb : w5.heap[w4.heap.size + 1]? = _ := heap_kept h.bare hg (fun e => by have := hrow _ e.symm; omega)
  have hz := h.size
  have hz5 := hg.size
  refine ⟨hb, heap_other hq (by omega) 1 v', heap_set hb 1 v', ?_, (h.low.grown hg (by omega) (fun g e => by have := hrow g e; omega)).setCell (p := ⟨w4.heap.size + 1, 1, none⟩) (by show w4.heap.size ≤ w4.heap.size + 1; omega) v', by rw [size_set]; omega, fun g e => by rw [size_set]; exact (hown.lt g e).2⟩
  rw [List.length_append, List.flatMap_append, show [p].flatMap encP = encP p by simp]
  exact gath_setI (.inr hown) (by omega) 1 v'
set_option maxRecDepth 100000 in
set_option maxHeartbeats 4000000 in
theorem walk_ModelLess (x : ModelV) (w : World) (h : ModelAt w.heap.size w x) (hw : (Lit.int .i64 x.ver).wf = true) : Calls Try.prog 3 #[.agg #[.int .i64 x.ver, .slice x.pa x.procs.length x.pc, .slice x.la x.links.length x.lc, .slice x.ea x.events.length x.ec]] w fun e w' => e = .returned (.bool true) ∧ Below w.heap.size w w' := by
  have HM := Lib.hid h
  have HB := Lib.hid (below_one w (.cells #[.int .i64 x.ver, .slice x.pa x.procs.length x.pc, .slice x.la x.links.length x.lc, .slice x.ea x.events.length x.ec] 26))
  have HX : Hid ((w.alloc (.cells #[.int .i64 x.ver, .slice x.pa x.procs.length x.pc, .slice x.la x.links.length x.lc, .slice x.ea x.events.length x.ec] 26)).heap[w.heap.size]? = some (.cells #[.int .i64 x.ver, .slice x.pa x.procs.length x.pc, .slice x.la x.links.length x.lc, .slice x.ea x.events.length x.ec] 26 (0, 0))) := Lib.hid (heap_new _ rfl)
  clear h hw
  go_enter Try.func3, Try.ntmps3
  go_wp2_with fail
  generalize w.alloc (.cells #[.int .i64 x.ver, .slice x.pa x.procs.length x.pc, .slice x.la x.links.length x.lc, .slice x.ea x.events.length x.ec] 26) = w1 at *
  refine (alive_any _).mono ?_
  rintro e w2 ⟨rfl, hb⟩
  replace HX := Lib.hid (heap_below HX.out hb (heap_lt HX.out))
  replace HB := Lib.hid (HB.out.trans (hb.mono HB.out.size))
  clear hb
  have c0 : w2.cell? ⟨w.heap.size, 0, none⟩ = some (.int .i64 x.ver) := heap_cell HX.out rfl
  have c1 : w2.cell? ⟨w.heap.size, 1, none⟩ = some (.slice x.pa x.procs.length x.pc) := heap_cell HX.out rfl
  have c2 : w2.cell? ⟨w.heap.size, 2, none⟩ = some (.slice x.la x.links.length x.lc) := heap_cell HX.out rfl
  have c3 : w2.cell? ⟨w.heap.size, 3, none⟩ = some (.slice x.ea x.events.length x.ec) := heap_cell HX.out rfl
  go_wp2_with fail
  refine (few_any (HM.out.on HB.out)).mono ?_
  rintro e w3 ⟨rfl, hb⟩
  replace HX := Lib.hid (heap_below HX.out hb (heap_lt HX.out))
  replace HB := Lib.hid (HB.out.trans (hb.mono HB.out.size))
  clear hb c0 c1 c2 c3
  obtain ⟨b, hb⟩ : ∃ b, fewB x.m = b := ⟨_, rfl⟩
  rw [hb]
  cases b with
  | false =>
    clear hb
    go_wp2
    go_ret
    exact ⟨rfl, HB.out⟩
  | true =>
    have HF := Lib.hid hb
    clear hb
    have c0 : w3.cell? ⟨w.heap.size, 0, none⟩ = some (.int .i64 x.ver) := heap_cell HX.out rfl
    have c1 : w3.cell? ⟨w.heap.size, 1, none⟩ = some (.slice x.pa x.procs.length x.pc) := heap_cell HX.out rfl
    have c2 : w3.cell? ⟨w.heap.size, 2, none⟩ = some (.slice x.la x.links.length x.lc) := heap_cell HX.out rfl
    have c3 : w3.cell? ⟨w.heap.size, 3, none⟩ = some (.slice x.ea x.events.length x.ec) := heap_cell HX.out rfl
    go_wp2_with fail
    refine (check_any (HM.out.on HB.out)).mono ?_
    rintro e w4 ⟨rfl, hb⟩
    replace HX := Lib.hid (heap_below HX.out hb (heap_lt HX.out))
    replace HB := Lib.hid (HB.out.trans (hb.mono HB.out.size))
    clear hb c0 c1 c2 c3
    obtain ⟨E, hE⟩ : ∃ E, mdE x.m = E := ⟨_, rfl⟩
    rw [hE]
    obtain ⟨e1, e2⟩ := E
    have hfd : ∀ W, (Instr.field 31 (.agg #[.int .i64 e1, .int .i64 e2]) 0).run Try.prog W = .ok (.int .i64 e1) W := fun W => field0 e1 e2 W
    by_cases he : e1 = 0
    · have hR : Right x.m := right_of (by rw [hE]; exact he)
      subst he
      have HR := Lib.hid hR
      clear hR hE
      have c0 : w4.cell? ⟨w.heap.size, 0, none⟩ = some (.int .i64 x.ver) := heap_cell HX.out rfl
      have c1 : w4.cell? ⟨w.heap.size, 1, none⟩ = some (.slice x.pa x.procs.length x.pc) := heap_cell HX.out rfl
      have c2 : w4.cell? ⟨w.heap.size, 2, none⟩ = some (.slice x.la x.links.length x.lc) := heap_cell HX.out rfl
      have c3 : w4.cell? ⟨w.heap.size, 3, none⟩ = some (.slice x.ea x.events.length x.ec) := heap_cell HX.out rfl
      have hltA := heap_lt HX.out
      have hlt := hltA
      have hlt1 : w.heap.size < w4.heap.size + 1 := by omega
      have hne : ¬ w.heap.size = w4.heap.size := by omega
      have hne1 : ¬ w.heap.size = w4.heap.size + 1 := by omega
      have H0 : Hid (LsR x w4 [] (.slice none 0 0) ((w4.alloc (.cells #[.int .i64 x.ver, .slice x.pa x.procs.length x.pc, .slice x.la x.links.length x.lc, .slice none 0 0] 26)).alloc (.cells #[.int .i64 x.ver, .slice none 0 0, .slice none 0 0, .slice none 0 0] 26))) :=
        Lib.hid ⟨heap_alloc (heap_new _ rfl) _, heap_new _ (by simp), .inl ⟨rfl, rfl, none, rfl⟩, ((Below.refl _ _).alloc (Nat.le_refl _) _).alloc (by simp) _, by simp, fun g e => by simp [Value.ownBlock] at e⟩
      obtain ⟨i0, hi0, hz0, hz1, hz2⟩ := info_parts Try.infoP
      have HI := Lib.hid hi0
      have HZ0 := Lib.hid hz0
      have HZ1 := Lib.hid hz1
      have HZ2 := Lib.hid hz2
      have hsmall : x.procs.length ≤ 12 := by
        have := HF.out
        unfold fewB ModelV.m at this
        simp at this
        omega
      clear hi0 hz0 hz1 hz2
      go_wp2
      clear hfd c0 c1 c2 c3
      generalize ((w4.alloc (.cells #[.int .i64 x.ver, .slice x.pa x.procs.length x.pc, .slice x.la x.links.length x.lc, .slice none 0 0] 26)).alloc (.cells #[.int .i64 x.ver, .slice none 0 0, .slice none 0 0, .slice none 0 0] 26)) = w5 at *
      go_loopw [27] (fun i wr => ∃ (j : Nat) (v : Value), i = .int .i64 (j : Int) ∧ j ≤ x.procs.length ∧ Hid (LsR x w4 ((x.procs.take j).map bareV) v wr)) (fun i _ => x.procs.length - (intOf i).toNat)
      case atStart => exact ⟨0, _, rfl, Nat.zero_le _, H0⟩
      case round =>
        clear H0
        obtain ⟨j, v, rfl, hj, HS⟩ := hrel
        have hj0 : (0 : Int) ≤ (j : Int) := Int.natCast_nonneg j
        by_cases hlt : j < x.procs.length
        · have hI := (HM.out.procs.kept (HB.out.trans (HS.out.low.mono HB.out.size)) (Nat.le_refl _))
          have ha := hI.addr.resolve_left (by omega)
          have hx : x.procs[j]? = some (x.procs[j]'hlt) := List.getElem?_eq_getElem _
          obtain ⟨p, hp⟩ : ∃ p, x.procs[j]'hlt = p := ⟨_, rfl⟩
          rw [hp] at hx
          have c0 : wr.cell? ⟨x.pb, x.po + j * 4, none⟩ = some (.string p.p.name) := hI.cell j p hx 0 _ rfl
          have c1 : wr.cell? ⟨x.pb, x.po + j * 4 + 1, none⟩ = some (.int .i64 p.p.weight) := hI.cell j p hx 1 _ rfl
          have c2 : wr.cell? ⟨x.pb, x.po + j * 4 + 2, none⟩ = some (.slice p.va p.p.vars.length p.vc) := hI.cell j p hx 2 _ rfl
          have c3 : wr.cell? ⟨x.pb, x.po + j * 4 + 3, none⟩ = some (.slice p.sa p.p.steps.length p.sc) := hI.cell j p hx 3 _ rfl
          have hji : (j : Int) < (x.procs.length : Int) := by omega
          have HNext : Hid ((x.procs.take (j + 1)).map bareV = (x.procs.take j).map bareV ++ [bareV p]) := Lib.hid (by rw [List.take_succ_eq_append_getElem hlt, hp, List.map_append]; rfl)
          have hln : ((x.procs.take j).map bareV).length = j := by rw [List.length_map, List.length_take]; omega
          obtain ⟨L, hL⟩ : ∃ L, (x.procs.take j).map bareV = L := ⟨_, rfl⟩
          rw [hL] at HS hln HNext
          have b1 : wr.cell? ⟨w4.heap.size + 1, 1, none⟩ = some v := heap_cell HS.out.bare rfl
          have hsz := HS.out.size
          have hlt1 : w4.heap.size + 1 < wr.heap.size := by omega
          have hne1 : ¬ w4.heap.size + 1 = wr.heap.size := by omega
          have hLl : L.length ≤ 12 := by omega
          rw [show x.pa = some ⟨x.pb, x.po, none⟩ from ha]
          clear hp hI hx hL ha
          have hRow : Hid (Gath ((wr.alloc (.cells #[.string p.p.name, .int .i64 p.p.weight, .slice p.va p.p.vars.length p.vc, .slice none 0 0] 36)).alloc (.cells #[.string p.p.name, .int .i64 p.p.weight, .slice p.va p.p.vars.length p.vc, .slice none 0 0] 36)) (w4.heap.size + 1 + 1) 36 4 v L.length (L.flatMap encP)) := Lib.hid ((HS.out.row.alloc _).alloc _)
          have hNw : Hid (∀ j u, [Value.string p.p.name, .int .i64 p.p.weight, .slice p.va p.p.vars.length p.vc, .slice none 0 0][j]? = some u → ((wr.alloc (.cells #[.string p.p.name, .int .i64 p.p.weight, .slice p.va p.p.vars.length p.vc, .slice none 0 0] 36)).alloc (.cells #[.string p.p.name, .int .i64 p.p.weight, .slice p.va p.p.vars.length p.vc, .slice none 0 0] 36)).cell? ((⟨wr.heap.size + 1, 0, none⟩ : Addr).add j) = some u) := Lib.hid (fun j u hu => by
            have := cell_rowM (wr.alloc (.cells #[.string p.p.name, .int .i64 p.p.weight, .slice p.va p.p.vars.length p.vc, .slice none 0 0] 36)) _ 36 j u hu
            rw [World.size_alloc] at this
            exact this)
          go_wp2_with (at_builtin; refine wpList_append_gathP _ rfl _ _ 22 rfl (w4.heap.size + 1 + 1) 36 i0 (.agg zP) 4 72 Try.underlying22 HI.out HZ0.out HZ1.out HZ2.out rfl (by decide) _ _ _ rfl hRow.out ⟨wr.heap.size + 1, 0, none⟩ 1 1 [.string p.p.name, .int .i64 p.p.weight, .slice p.va p.p.vars.length p.vc, .slice none 0 0] rfl rfl hNw.out (fun u hu => by simp at hu; rcases hu with rfl | rfl | rfl | rfl <;> rfl) (by decide) (by unfold maxLen; omega) (by omega) (by simp; omega) ?_; intro v' w6 row hown hg hrow; obtain ⟨g', cap', rfl⟩ := ownsRow_succ hown; obtain ⟨hb9, hS9⟩ := ((HS.out.alloc (.cells #[.string p.p.name, .int .i64 p.p.weight, .slice p.va p.p.vars.length p.vc, .slice none 0 0] 36)).alloc _).app (p := bareV p) hown hg (fun g e => (hrow g e).2); have c9 : w6.cell? ⟨w4.heap.size + 1, 1, none⟩ = some v := heap_cell hb9 rfl; have f9 := heap_frozen hb9 1; have HS9 := Lib.hid hS9; clear hown hg hrow hb9 hS9)
          rw [hln] at HS9
          refine ⟨⟨j + 1, _, by simp, by omega, by rw [HNext.out]; exact HS9⟩, ?_⟩
          unfold intOf
          simp
          omega
        · obtain rfl : j = x.procs.length := by omega
          rw [List.take_length] at HS
          have hlen : (x.procs.map bareV).length = x.procs.length := List.length_map ..
          have hfit : ∀ p ∈ x.procs.map bareV, fitP p := fun p hp => by
            obtain ⟨q, hq, rfl⟩ := List.mem_map.1 hp
            exact HM.out.procs.fits q hq
          obtain ⟨a, c, g, rfl, hrows⟩ := rows_gath (enc := encP) (fun _ => rfl) HS.out.row (by rw [hlen]; exact HM.out.procs.small) hfit
          rw [hlen] at HS hrows
          have HRw := Lib.hid hrows
          have hxw := heap_below HX.out HS.out.low hltA
          have HXr := Lib.hid hxw
          have HBr := Lib.hid (HB.out.trans (HS.out.low.mono HB.out.size))
          have c0 : wr.cell? ⟨w.heap.size, 0, none⟩ = some (.int .i64 x.ver) := heap_cell HXr.out rfl
          have c1 : wr.cell? ⟨w.heap.size, 1, none⟩ = some (.slice x.pa x.procs.length x.pc) := heap_cell HXr.out rfl
          have c2 : wr.cell? ⟨w.heap.size, 2, none⟩ = some (.slice x.la x.links.length x.lc) := heap_cell HXr.out rfl
          have c3 : wr.cell? ⟨w.heap.size, 3, none⟩ = some (.slice x.ea x.events.length x.ec) := heap_cell HXr.out rfl
          have q0 : wr.cell? ⟨w4.heap.size, 0, none⟩ = some (.int .i64 x.ver) := heap_cell HS.out.quiet rfl
          have q1 : wr.cell? ⟨w4.heap.size, 1, none⟩ = some (.slice x.pa x.procs.length x.pc) := heap_cell HS.out.quiet rfl
          have q2 : wr.cell? ⟨w4.heap.size, 2, none⟩ = some (.slice x.la x.links.length x.lc) := heap_cell HS.out.quiet rfl
          have q3 : wr.cell? ⟨w4.heap.size, 3, none⟩ = some (.slice none 0 0) := heap_cell HS.out.quiet rfl
          have hsz := HS.out.size
          have hl2 : w4.heap.size < wr.heap.size := by omega
          have hn2 : ¬ w4.heap.size = wr.heap.size := by omega
          clear hrows hxw hfit
          have HOb := Lib.hid (heap_new (w := wr) (.cells #[.int .i64 1, .slice x.pa x.procs.length x.pc, .slice x.la x.links.length x.lc, .slice x.ea x.events.length x.ec] 26) rfl)
          have HBa := Lib.hid (heap_alloc HS.out.bare (.cells #[.int .i64 1, .slice x.pa x.procs.length x.pc, .slice x.la x.links.length x.lc, .slice x.ea x.events.length x.ec] 26))
          have HBo := Lib.hid (below_one wr (.cells #[.int .i64 1, .slice x.pa x.procs.length x.pc, .slice x.la x.links.length x.lc, .slice x.ea x.events.length x.ec] 26))
          have HBf := Lib.hid (HBr.out.alloc HBr.out.size (.cells #[.int .i64 1, .slice x.pa x.procs.length x.pc, .slice x.la x.links.length x.lc, .slice x.ea x.events.length x.ec] 26))
          have HMx := Lib.hid (HM.out.on HBf.out)
          have HRx := Lib.hid (HRw.out.on HBo.out)
          go_wp2_with fail
          generalize wr.alloc (.cells #[.int .i64 1, .slice x.pa x.procs.length x.pc, .slice x.la x.links.length x.lc, .slice x.ea x.events.length x.ec] 26) = F at *
          clear c0 c1 c2 c3 q0 q1 q2 q3 HRw HS HXr HBr HBo
          have HC := check_any (x := { x with events := [], ea := none, eb := 0, eo := 0, ec := 0 }) ⟨HMx.out.procs, HMx.out.inner, HMx.out.links, RowsAt.nil rfl rfl⟩
          rw [show mdE (ModelV.m { x with events := [], ea := none, eb := 0, eo := 0, ec := 0 }) = (0, 0) from right_quiet HR.out] at HC
          refine Calls.mono HC ?_
          clear HC
          rintro e W5 ⟨rfl, hb⟩
          replace HOb := Lib.hid (heap_below HOb.out hb (heap_lt HOb.out))
          replace HBa := Lib.hid (heap_below HBa.out hb (heap_lt HBa.out))
          replace HBf := Lib.hid (HBf.out.trans (hb.mono HBf.out.size))
          replace HMx := Lib.hid (HMx.out.on hb)
          replace HRx := Lib.hid (HRx.out.on hb)
          clear hb
          have c0 : W5.cell? ⟨w4.heap.size + 1, 0, none⟩ = some (.int .i64 x.ver) := heap_cell HBa.out rfl
          have c1 : W5.cell? ⟨w4.heap.size + 1, 1, none⟩ = some (.slice a x.procs.length c) := heap_cell HBa.out rfl
          have c2 : W5.cell? ⟨w4.heap.size + 1, 2, none⟩ = some (.slice none 0 0) := heap_cell HBa.out rfl
          have c3 : W5.cell? ⟨w4.heap.size + 1, 3, none⟩ = some (.slice none 0 0) := heap_cell HBa.out rfl
          go_wp2_with fail
          clear c0 c1 c2 c3
          have HC := check_any (x := ⟨x.ver, x.procs.map bareV, [], [], a, g, 0, c, none, 0, 0, 0, none, 0, 0, 0⟩) ⟨by
              have := HRx.out
              rw [← hlen] at this
              exact this, fun p hp => by
              obtain ⟨q, hq, rfl⟩ := List.mem_map.1 hp
              exact ⟨(HMx.out.inner q hq).vars, RowsAt.nil rfl rfl⟩, RowsAt.nil rfl rfl, RowsAt.nil rfl rfl⟩
          rw [show mdE (ModelV.m ⟨x.ver, x.procs.map bareV, [], [], a, g, 0, c, none, 0, 0, 0, none, 0, 0, 0⟩) = (0, 0) from by
            rw [show ModelV.m ⟨x.ver, x.procs.map bareV, [], [], a, g, 0, c, none, 0, 0, 0, none, 0, 0, 0⟩ = bareM x.m by unfold ModelV.m bareM; simp [bareV]]
            exact right_bare HR.out] at HC
          dsimp only at HC
          rw [hlen] at HC
          refine Calls.mono HC ?_
          clear HC
          rintro e W6 ⟨rfl, hb⟩
          replace HOb := Lib.hid (heap_below HOb.out hb (heap_lt HOb.out))
          replace HBf := Lib.hid (HBf.out.trans (hb.mono HBf.out.size))
          replace HMx := Lib.hid (HMx.out.on hb)
          clear hb HBa HRx
          have c0 : W6.cell? ⟨wr.heap.size, 0, none⟩ = some (.int .i64 1) := heap_cell HOb.out rfl
          have c1 : W6.cell? ⟨wr.heap.size, 1, none⟩ = some (.slice x.pa x.procs.length x.pc) := heap_cell HOb.out rfl
          have c2 : W6.cell? ⟨wr.heap.size, 2, none⟩ = some (.slice x.la x.links.length x.lc) := heap_cell HOb.out rfl
          have c3 : W6.cell? ⟨wr.heap.size, 3, none⟩ = some (.slice x.ea x.events.length x.ec) := heap_cell HOb.out rfl
          go_wp2_with fail
          clear c0 c1 c2 c3
          have HC := check_any (x := { x with ver := 1 }) ⟨HMx.out.procs, HMx.out.inner, HMx.out.links, HMx.out.events⟩
          rw [show mdE (ModelV.m { x with ver := 1 }) = (0, 0) from right_older HR.out] at HC
          refine Calls.mono HC ?_
          clear HC
          rintro e W7 ⟨rfl, hb⟩
          replace HBf := Lib.hid (HBf.out.trans (hb.mono HBf.out.size))
          clear hb
          go_wp2
          go_ret
          exact ⟨rfl, HBf.out⟩
    · have heb : (e1 != 0) = true := by simpa using he
      clear hE
      go_wp2
      go_ret
      exact ⟨rfl, HB.out⟩
end Go.Proofs.Ytgnlehenbdcgmaa.Md
