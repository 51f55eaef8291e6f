/- Contract: any model, one up, or the fault. -/
import Derived.Test.YtenjhbibhkjdaaaUf
set_option linter.unusedVariables false
set_option linter.unusedSectionVars false
set_option linter.unusedSimpArgs false
namespace Go.Proofs.Ytenjhbibhkjdaaa.Md
open Go.RowKit Go.Shelf
/-- One up of any model. -/
def UpR (m : ModelM) : ModelM × Int × Int := if (mdE m).1 = 0 then upR m else (zeroM, (mdE m).1, (mdE m).2)
theorem ln_delays {m : ModelM} (h : Right m) : ∀ l ∈ m.links, 1 ≤ l.delay ∧ l.delay ≤ 1099511627776 := fun l hl => by
  obtain ⟨i, hi⟩ := List.getElem?_of_mem hl
  have := h.links i l hi
  unfold lnE at this
  split at this
  · exact absurd this ‹_›
  · split at this
    · simp at this
    · split at this
      · simp at this
      · rename_i h3
        simp at h3
        omega
set_option maxRecDepth 100000 in
set_option maxHeartbeats 4000000 in
theorem upgradeUp_any {w : World} {x : ModelV} (h : ModelAt w.heap.size w x) (hs : Sized x.m) : Calls Try.prog 28 #[.agg #[.int .i64 x.ver, .slice x.pa x.procs.length x.pc, .slice x.la x.links.length x.lc, .slice x.ea x.events.length x.ec]] w (UpQ w (UpR x.m)) := by
  have hx1 := heap_alloc (heap_alloc (heap_new (w := w) (.cells #[.int .i64 x.ver, .slice x.pa x.procs.length x.pc, .slice x.la x.links.length x.lc, .slice x.ea x.events.length x.ec] 26) rfl) (.cells #[.int .i64 0, .slice none 0 0, .slice none 0 0, .slice none 0 0] 26)) (.cells #[.int .i64 0, .int .i64 0] 33)
  have hr1 := heap_alloc (heap_new (w := w.alloc (.cells #[.int .i64 x.ver, .slice x.pa x.procs.length x.pc, .slice x.la x.links.length x.lc, .slice x.ea x.events.length x.ec] 26)) (.cells #[.int .i64 0, .slice none 0 0, .slice none 0 0, .slice none 0 0] 26) rfl) (.cells #[.int .i64 0, .int .i64 0] 33)
  have hf1 := heap_new (w := (w.alloc (.cells #[.int .i64 x.ver, .slice x.pa x.procs.length x.pc, .slice x.la x.links.length x.lc, .slice x.ea x.events.length x.ec] 26)).alloc (.cells #[.int .i64 0, .slice none 0 0, .slice none 0 0, .slice none 0 0] 26)) (.cells #[.int .i64 0, .int .i64 0] 33) rfl
  have hb1 := ((below_one w (.cells #[.int .i64 x.ver, .slice x.pa x.procs.length x.pc, .slice x.la x.links.length x.lc, .slice x.ea x.events.length x.ec] 26)).alloc (by simp) (.cells #[.int .i64 0, .slice none 0 0, .slice none 0 0, .slice none 0 0] 26)).alloc (by simp; omega) (.cells #[.int .i64 0, .int .i64 0] 33)
  rw [World.size_alloc] at hr1
  rw [World.size_alloc, World.size_alloc] at hf1
  have HC := Lib.hid (check_any (h.on hb1))
  have HX := Lib.hid hx1
  have HR := Lib.hid hr1
  have HF := Lib.hid hf1
  have HB := Lib.hid hb1
  have HM := Lib.hid h
  have HSz := Lib.hid hs
  clear h hs hx1 hr1 hf1 hb1
  go_enter Try.func28, Try.ntmps28
  go_upto_region 1 with fail
  generalize ((w.alloc (.cells #[.int .i64 x.ver, .slice x.pa x.procs.length x.pc, .slice x.la x.links.length x.lc, .slice x.ea x.events.length x.ec] 26)).alloc (.cells #[.int .i64 0, .slice none 0 0, .slice none 0 0, .slice none 0 0] 26)).alloc (.cells #[.int .i64 0, .int .i64 0] 33) = w1 at *
  have c0 : w1.cell? ⟨w.heap.size, 0, none⟩ = some (.int .i64 x.ver) := heap_cell HX.out rfl
  have c1 : w1.cell? ⟨w.heap.size, 1, none⟩ = some (.slice x.pa x.procs.length x.pc) := heap_cell HX.out rfl
  have c2 : w1.cell? ⟨w.heap.size, 2, none⟩ = some (.slice x.la x.links.length x.lc) := heap_cell HX.out rfl
  have c3 : w1.cell? ⟨w.heap.size, 3, none⟩ = some (.slice x.ea x.events.length x.ec) := heap_cell HX.out rfl
  go_wp2_with fail
  refine HC.out.mono ?_
  clear HC c0 c1 c2 c3
  rintro e w2 ⟨rfl, hb⟩
  have HXa := Lib.hid (heap_alloc (heap_below HX.out hb (heap_lt HX.out)) (.cells #[.int .i64 (mdE x.m).1, .int .i64 (mdE x.m).2] 33))
  have HRa := Lib.hid (heap_alloc (heap_below HR.out hb (heap_lt HR.out)) (.cells #[.int .i64 (mdE x.m).1, .int .i64 (mdE x.m).2] 33))
  have HFa := Lib.hid (heap_alloc (heap_below HF.out hb (heap_lt HF.out)) (.cells #[.int .i64 (mdE x.m).1, .int .i64 (mdE x.m).2] 33))
  have hz1 := HB.out.size
  have HBa := Lib.hid ((HB.out.trans (hb.mono HB.out.size)).alloc (by have := hb.size; omega) (.cells #[.int .i64 (mdE x.m).1, .int .i64 (mdE x.m).2] 33))
  have HFl := Lib.hid (heap_new (w := w2) (.cells #[.int .i64 (mdE x.m).1, .int .i64 (mdE x.m).2] 33) rfl)
  have hlF : w.heap.size + 1 + 1 < w2.heap.size := by
    have h1 := heap_lt HF.out
    have h2 := hb.size
    omega
  clear hb HX HR HF HB hz1
  go_upto_region 2 with fail
  obtain ⟨E, hE⟩ : ∃ E, mdE x.m = E := ⟨_, rfl⟩
  rw [hE] at HXa HRa HFa HBa HFl ⊢
  have HEE := Lib.hid hE
  clear hE
  obtain ⟨e1, e2⟩ := E
  dsimp only at *
  generalize w2.alloc (.cells #[.int .i64 e1, .int .i64 e2] 33) = w3 at *
  have HX := HXa
  have HR := HRa
  have HF := HFa
  have HB := HBa
  clear HXa HRa HFa HBa
  have b0 : w3.cell? ⟨w2.heap.size, 0, none⟩ = some (.int .i64 e1) := heap_cell HFl.out rfl
  have b1 : w3.cell? ⟨w2.heap.size, 1, none⟩ = some (.int .i64 e2) := heap_cell HFl.out rfl
  by_cases he : e1 = 0
  · have heb : (e1 != 0) = false := by simpa using he
    have HRt : Hid (Right x.m) := Lib.hid (right_of (by rw [HEE.out]; exact he))
    have HE : Hid (UpR x.m = upR x.m) := Lib.hid (by unfold UpR; rw [HEE.out, if_pos he])
    clear he
    have c0 : w3.cell? ⟨w.heap.size, 0, none⟩ = some (.int .i64 x.ver) := heap_cell HX.out rfl
    have c1 : w3.cell? ⟨w.heap.size, 1, none⟩ = some (.slice x.pa x.procs.length x.pc) := heap_cell HX.out rfl
    have c2 : w3.cell? ⟨w.heap.size, 2, none⟩ = some (.slice x.la x.links.length x.lc) := heap_cell HX.out rfl
    have c3 : w3.cell? ⟨w.heap.size, 3, none⟩ = some (.slice x.ea x.events.length x.ec) := heap_cell HX.out rfl
    go_wp2_with fail
    refine (up_any (HM.out.on HB.out) HSz.out (fun l hl => by have := ln_delays HRt.out l hl; omega)).mono ?_
    clear c0 c1 c2 c3 b0 b1
    rintro e w4 ⟨x1, rfl, hm, hown, hb⟩
    replace HR := Lib.hid (heap_below HR.out hb (heap_lt HR.out))
    replace HF := Lib.hid (heap_below HF.out hb (heap_lt HF.out))
    have hz1 := HB.out.size
    replace HB := Lib.hid (HB.out.trans (hb.mono HB.out.size))
    have HO := Lib.hid (hown.mono hz1)
    rw [← HE.out] at hm ⊢
    have HMm := Lib.hid hm
    clear hb HX hown hm
    generalize UpR x.m = R at *
    obtain ⟨R1, R2, R3⟩ := R
    dsimp only at *
    have d0 : w4.cell? ⟨w.heap.size + 1, 0, none⟩ = some (.int .i64 0) := heap_cell HR.out rfl
    have d1 : w4.cell? ⟨w.heap.size + 1, 1, none⟩ = some (.slice none 0 0) := heap_cell HR.out rfl
    have d2 : w4.cell? ⟨w.heap.size + 1, 2, none⟩ = some (.slice none 0 0) := heap_cell HR.out rfl
    have d3 : w4.cell? ⟨w.heap.size + 1, 3, none⟩ = some (.slice none 0 0) := heap_cell HR.out rfl
    have q0 : w4.cell? ⟨w.heap.size + 1 + 1, 0, none⟩ = some (.int .i64 0) := heap_cell HF.out rfl
    have q1 : w4.cell? ⟨w.heap.size + 1 + 1, 1, none⟩ = some (.int .i64 0) := heap_cell HF.out rfl
    have f0 := heap_frozen HR.out 0
    have f1 := heap_frozen HR.out 1
    have f2 := heap_frozen HR.out 2
    have f3 := heap_frozen HR.out 3
    have g0 := heap_frozen HF.out 0
    have g1 := heap_frozen HF.out 1
    go_wp2
    have h4 := set4 HR.out (.int .i64 x1.ver) (.slice x1.pa x1.procs.length x1.pc) (.slice x1.la x1.links.length x1.lc) (.slice x1.ea x1.events.length x1.ec)
    have hf4 := h4.2.old HF.out (fun e => by omega)
    have h2 := set2 hf4 (.int .i64 R2) (.int .i64 R3)
    have hres := h2.2.old h4.1 (fun e => by omega)
    have hlow := (low_one (low_one HB.out h4.2 (by omega)) h2.2 (by omega))
    have hown := (HO.out.boxT HR.out rfl h4.2).boxT hf4 rfl h2.2
    refine bodyPost_ret (up_ret rfl hres h2.1 rfl rfl) rfl ?_
    exact ⟨x1, rfl, HMm.out, hown, hlow⟩
  · have heb : (e1 != 0) = true := by simpa using he
    have HE : Hid (UpR x.m = (zeroM, e1, e2)) := Lib.hid (by unfold UpR; rw [HEE.out, if_neg he])
    clear he
    have d0 : w3.cell? ⟨w.heap.size + 1, 0, none⟩ = some (.int .i64 0) := heap_cell HR.out rfl
    have d1 : w3.cell? ⟨w.heap.size + 1, 1, none⟩ = some (.slice none 0 0) := heap_cell HR.out rfl
    have d2 : w3.cell? ⟨w.heap.size + 1, 2, none⟩ = some (.slice none 0 0) := heap_cell HR.out rfl
    have d3 : w3.cell? ⟨w.heap.size + 1, 3, none⟩ = some (.slice none 0 0) := heap_cell HR.out rfl
    have q0 : w3.cell? ⟨w.heap.size + 1 + 1, 0, none⟩ = some (.int .i64 0) := heap_cell HF.out rfl
    have q1 : w3.cell? ⟨w.heap.size + 1 + 1, 1, none⟩ = some (.int .i64 0) := heap_cell HF.out rfl
    have f0 := heap_frozen HR.out 0
    have f1 := heap_frozen HR.out 1
    have f2 := heap_frozen HR.out 2
    have f3 := heap_frozen HR.out 3
    have g0 := heap_frozen HF.out 0
    have g1 := heap_frozen HF.out 1
    have n0 : w2.heap.size < w3.heap.size := heap_lt HFl.out
    have n1 : ¬ w.heap.size + 1 = w2.heap.size := by omega
    have n2 : ¬ w.heap.size + 1 + 1 = w2.heap.size := by omega
    have n3 : ¬ w2.heap.size = w.heap.size + 1 := by omega
    have n4 : ¬ w2.heap.size = w.heap.size + 1 + 1 := by omega
    clear hlF n0 HX HSz HM HFl
    go_upto_region 3 with fail
    go_region
    go_wp2
    have h4 := set4 HR.out (.int .i64 0) (.slice none 0 0) (.slice none 0 0) (.slice none 0 0)
    have hf4 := h4.2.old HF.out (fun e => by omega)
    have h2 := set2 hf4 (.int .i64 e1) (.int .i64 e2)
    have hres := h2.2.old h4.1 (fun e => by omega)
    have hlow := (low_one (low_one HB.out h4.2 (by omega)) h2.2 (by omega)).drew
    refine bodyPost_ret (up_ret_drew rfl hres h2.1 rfl rfl) rfl ?_
    exact ⟨noneV, by rw [HE.out]; rfl, by rw [HE.out]; rfl, own_none _ _, hlow⟩
end Go.Proofs.Ytenjhbibhkjdaaa.Md
