/- Contracts: a right model, one up; any model, one up, or the fault. -/
import Derived.Test.YtenjhbibhkjdaaaUe
set_option linter.unusedVariables false
set_option linter.unusedSectionVars false
set_option linter.unusedSimpArgs false
namespace Go.Proofs.Ytenjhbibhkjdaaa.Md
open Go.RowKit Go.Shelf

set_option maxRecDepth 100000 in
set_option maxHeartbeats 4000000 in
theorem up_any {w : World} {x : ModelV} (h : ModelAt w.heap.size w x) (hs : Sized x.m) (hd : ∀ l ∈ x.links, 0 ≤ l.delay ∧ l.delay ≤ 1099511627776) : Calls Try.prog 56 #[.agg #[.int .i64 x.ver, .slice x.pa x.procs.length x.pc, .slice x.la x.links.length x.lc, .slice x.ea x.events.length x.ec]] w (UpQ w (upR x.m)) := by
  have hx1 := heap_alloc (heap_alloc (heap_new (w := w) (.cells #[.int .i64 x.ver, .slice x.pa x.procs.length x.pc, .slice x.la x.links.length x.lc, .slice x.ea x.events.length x.ec] 26) rfl) (.cells #[.int .i64 0, .slice none 0 0, .slice none 0 0, .slice none 0 0] 26)) (.cells #[.int .i64 0, .int .i64 0] 33)
  have hr1 := heap_alloc (heap_new (w := w.alloc (.cells #[.int .i64 x.ver, .slice x.pa x.procs.length x.pc, .slice x.la x.links.length x.lc, .slice x.ea x.events.length x.ec] 26)) (.cells #[.int .i64 0, .slice none 0 0, .slice none 0 0, .slice none 0 0] 26) rfl) (.cells #[.int .i64 0, .int .i64 0] 33)
  have hf1 := heap_new (w := (w.alloc (.cells #[.int .i64 x.ver, .slice x.pa x.procs.length x.pc, .slice x.la x.links.length x.lc, .slice x.ea x.events.length x.ec] 26)).alloc (.cells #[.int .i64 0, .slice none 0 0, .slice none 0 0, .slice none 0 0] 26)) (.cells #[.int .i64 0, .int .i64 0] 33) rfl
  have hb1 := ((below_one w (.cells #[.int .i64 x.ver, .slice x.pa x.procs.length x.pc, .slice x.la x.links.length x.lc, .slice x.ea x.events.length x.ec] 26)).alloc (by simp) (.cells #[.int .i64 0, .slice none 0 0, .slice none 0 0, .slice none 0 0] 26)).alloc (by simp; omega) (.cells #[.int .i64 0, .int .i64 0] 33)
  rw [World.size_alloc] at hr1
  rw [World.size_alloc, World.size_alloc] at hf1
  have HCd := Lib.hid (delayed_any (h.on hb1) hs hd)
  have HCw := Lib.hid (weighed_any (h.on hb1) hs)
  have HX := Lib.hid hx1
  have HR := Lib.hid hr1
  have HF := Lib.hid hf1
  have HB := Lib.hid hb1
  have HV := Lib.hid (show x.m.ver = x.ver from rfl)
  clear h hs hd hx1 hr1 hf1 hb1
  go_enter Try.func56, Try.ntmps56
  go_upto_region 1 with fail
  generalize ((w.alloc (.cells #[.int .i64 x.ver, .slice x.pa x.procs.length x.pc, .slice x.la x.links.length x.lc, .slice x.ea x.events.length x.ec] 26)).alloc (.cells #[.int .i64 0, .slice none 0 0, .slice none 0 0, .slice none 0 0] 26)).alloc (.cells #[.int .i64 0, .int .i64 0] 33) = w1 at *
  have c0 : w1.cell? ⟨w.heap.size, 0, none⟩ = some (.int .i64 x.ver) := heap_cell HX.out rfl
  have c1 : w1.cell? ⟨w.heap.size, 1, none⟩ = some (.slice x.pa x.procs.length x.pc) := heap_cell HX.out rfl
  have c2 : w1.cell? ⟨w.heap.size, 2, none⟩ = some (.slice x.la x.links.length x.lc) := heap_cell HX.out rfl
  have c3 : w1.cell? ⟨w.heap.size, 3, none⟩ = some (.slice x.ea x.events.length x.ec) := heap_cell HX.out rfl
  by_cases h1 : x.ver = 1
  · have hb1 : (x.ver == 1) = true := by simpa using h1
    have HE : Hid (upR x.m = delR x.m) := Lib.hid (by unfold upR; rw [HV.out, if_pos h1])
    clear h1
    go_wp2_with fail
    refine HCd.out.mono ?_
    clear HCd HCw c0 c1 c2 c3
    rintro e w2 ⟨x1, rfl, hm, hown, hb⟩
    replace HR := Lib.hid (heap_below HR.out hb (heap_lt HR.out))
    replace HF := Lib.hid (heap_below HF.out hb (heap_lt HF.out))
    have hz1 := HB.out.size
    replace HB := Lib.hid (HB.out.trans (hb.mono HB.out.size))
    have HO := Lib.hid (hown.mono hz1)
    rw [← HE.out] at hm ⊢
    have HMm := Lib.hid hm
    clear hb HX hown hm
    generalize upR x.m = R at *
    obtain ⟨R1, R2, R3⟩ := R
    dsimp only at *
    have d0 : w2.cell? ⟨w.heap.size + 1, 0, none⟩ = some (.int .i64 0) := heap_cell HR.out rfl
    have d1 : w2.cell? ⟨w.heap.size + 1, 1, none⟩ = some (.slice none 0 0) := heap_cell HR.out rfl
    have d2 : w2.cell? ⟨w.heap.size + 1, 2, none⟩ = some (.slice none 0 0) := heap_cell HR.out rfl
    have d3 : w2.cell? ⟨w.heap.size + 1, 3, none⟩ = some (.slice none 0 0) := heap_cell HR.out rfl
    have e0 : w2.cell? ⟨w.heap.size + 1 + 1, 0, none⟩ = some (.int .i64 0) := heap_cell HF.out rfl
    have e1 : w2.cell? ⟨w.heap.size + 1 + 1, 1, none⟩ = some (.int .i64 0) := heap_cell HF.out rfl
    have f0 := heap_frozen HR.out 0
    have f1 := heap_frozen HR.out 1
    have f2 := heap_frozen HR.out 2
    have f3 := heap_frozen HR.out 3
    have g0 := heap_frozen HF.out 0
    have g1 := heap_frozen HF.out 1
    go_wp2
    have h4 := set4 HR.out (.int .i64 x1.ver) (.slice x1.pa x1.procs.length x1.pc) (.slice x1.la x1.links.length x1.lc) (.slice x1.ea x1.events.length x1.ec)
    have hf4 := h4.2.old HF.out (fun e => by omega)
    have h2 := set2 hf4 (.int .i64 R2) (.int .i64 R3)
    have hres := h2.2.old h4.1 (fun e => by omega)
    have hlow := (low_one (low_one HB.out h4.2 (by omega)) h2.2 (by omega))
    have hown := (HO.out.boxT HR.out rfl h4.2).boxT hf4 rfl h2.2
    refine bodyPost_ret (up_ret rfl hres h2.1 rfl rfl) rfl ?_
    exact ⟨x1, rfl, HMm.out, hown, hlow⟩
  · by_cases h2 : x.ver = 2
    · have hb1 : (x.ver == 1) = false := by simpa using h1
      have hb2 : (x.ver == 2) = true := by simpa using h2
      have HE : Hid (upR x.m = (wghM x.m, 0, 0)) := Lib.hid (by unfold upR; rw [HV.out, if_neg h1, if_pos h2])
      clear h1 h2
      go_wp2_with fail
      refine HCw.out.mono ?_
      clear HCd HCw c0 c1 c2 c3
      rintro e w2 ⟨x1, rfl, hm, hown, hb⟩
      replace HR := Lib.hid (heap_below HR.out hb (heap_lt HR.out))
      replace HF := Lib.hid (heap_below HF.out hb (heap_lt HF.out))
      have hz1 := HB.out.size
      replace HB := Lib.hid (HB.out.trans (hb.mono HB.out.size))
      have HO := Lib.hid (hown.mono hz1)
      have HMm := Lib.hid hm
      clear hb HX hown hm
      have d0 : w2.cell? ⟨w.heap.size + 1, 0, none⟩ = some (.int .i64 0) := heap_cell HR.out rfl
      have d1 : w2.cell? ⟨w.heap.size + 1, 1, none⟩ = some (.slice none 0 0) := heap_cell HR.out rfl
      have d2 : w2.cell? ⟨w.heap.size + 1, 2, none⟩ = some (.slice none 0 0) := heap_cell HR.out rfl
      have d3 : w2.cell? ⟨w.heap.size + 1, 3, none⟩ = some (.slice none 0 0) := heap_cell HR.out rfl
      have e0 : w2.cell? ⟨w.heap.size + 1 + 1, 0, none⟩ = some (.int .i64 0) := heap_cell HF.out rfl
      have e1 : w2.cell? ⟨w.heap.size + 1 + 1, 1, none⟩ = some (.int .i64 0) := heap_cell HF.out rfl
      have f0 := heap_frozen HR.out 0
      have f1 := heap_frozen HR.out 1
      have f2 := heap_frozen HR.out 2
      have f3 := heap_frozen HR.out 3
      have g0 := heap_frozen HF.out 0
      have g1 := heap_frozen HF.out 1
      go_wp2
      have h4 := set4 HR.out (.int .i64 x1.ver) (.slice x1.pa x1.procs.length x1.pc) (.slice x1.la x1.links.length x1.lc) (.slice x1.ea x1.events.length x1.ec)
      have hf4 := h4.2.old HF.out (fun e => by omega)
      have h2 := set2 hf4 (.int .i64 0) (.int .i64 0)
      have hres := h2.2.old h4.1 (fun e => by omega)
      have hlow := (low_one (low_one HB.out h4.2 (by omega)) h2.2 (by omega))
      have hown := (HO.out.boxT HR.out rfl h4.2).boxT hf4 rfl h2.2
      refine bodyPost_ret (up_ret rfl hres h2.1 rfl rfl) rfl ?_
      exact ⟨x1, by rw [HE.out], by rw [HE.out]; exact HMm.out, hown, hlow⟩
    · have hb1 : (x.ver == 1) = false := by simpa using h1
      have hb2 : (x.ver == 2) = false := by simpa using h2
      have HE : Hid (upR x.m = (zeroM, 43, 0)) := Lib.hid (by unfold upR; rw [HV.out, if_neg h1, if_neg h2])
      clear h1 h2
      have d0 : w1.cell? ⟨w.heap.size + 1, 0, none⟩ = some (.int .i64 0) := heap_cell HR.out rfl
      have d1 : w1.cell? ⟨w.heap.size + 1, 1, none⟩ = some (.slice none 0 0) := heap_cell HR.out rfl
      have d2 : w1.cell? ⟨w.heap.size + 1, 2, none⟩ = some (.slice none 0 0) := heap_cell HR.out rfl
      have d3 : w1.cell? ⟨w.heap.size + 1, 3, none⟩ = some (.slice none 0 0) := heap_cell HR.out rfl
      have e0 : w1.cell? ⟨w.heap.size + 1 + 1, 0, none⟩ = some (.int .i64 0) := heap_cell HF.out rfl
      have e1 : w1.cell? ⟨w.heap.size + 1 + 1, 1, none⟩ = some (.int .i64 0) := heap_cell HF.out rfl
      have f0 := heap_frozen HR.out 0
      have f1 := heap_frozen HR.out 1
      have f2 := heap_frozen HR.out 2
      have f3 := heap_frozen HR.out 3
      have g0 := heap_frozen HF.out 0
      have g1 := heap_frozen HF.out 1
      go_wp2
      have h4 := set4 HR.out (.int .i64 0) (.slice none 0 0) (.slice none 0 0) (.slice none 0 0)
      have hf4 := h4.2.old HF.out (fun e => by omega)
      have h2 := set2 hf4 (.int .i64 43) (.int .i64 0)
      have hres := h2.2.old h4.1 (fun e => by omega)
      have hlow := (low_one (low_one HB.out h4.2 (by omega)) h2.2 (by omega))
      refine bodyPost_ret (up_ret rfl hres h2.1 rfl rfl) rfl ?_
      exact ⟨noneV, by rw [HE.out]; rfl, by rw [HE.out]; rfl, own_none _ _, hlow⟩
end Go.Proofs.Ytenjhbibhkjdaaa.Md
