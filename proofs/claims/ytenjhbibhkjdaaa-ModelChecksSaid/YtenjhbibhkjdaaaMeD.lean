/- Contracts: the document's Proc, Link, Var. -/
import Derived.Test.YtenjhbibhkjdaaaMdU
import Derived.Test.YtenjhbibhkjdaaaMdK
set_option linter.unusedVariables false
set_option linter.unusedSectionVars false
set_option linter.unusedSimpArgs false
namespace Go.Proofs.Ytenjhbibhkjdaaa.Md
open Go.RowKit Go.Shelf

set_option maxRecDepth 100000 in
set_option maxHeartbeats 4000000 in
theorem rproc_any {w : World} {x : ModelV} (h : ModelAt w.heap.size w x) (y : ByteArray) : Calls Try.prog 21 #[.agg #[.int .i64 x.ver, .slice x.pa x.procs.length x.pc, .slice x.la x.links.length x.lc, .slice x.ea x.events.length x.ec], .string y] w fun e w' => e = .returned (.int .i64 (plcI (nmsP x.m) y)) ∧ Below w.heap.size w w' := by
  have HM := Lib.hid h
  have HX : Hid ((w.alloc (.cells #[.int .i64 x.ver, .slice x.pa x.procs.length x.pc, .slice x.la x.links.length x.lc, .slice x.ea x.events.length x.ec] 26)).heap[w.heap.size]? = some (.cells #[.int .i64 x.ver, .slice x.pa x.procs.length x.pc, .slice x.la x.links.length x.lc, .slice x.ea x.events.length x.ec] 26 (0, 0))) := Lib.hid (heap_new _ rfl)
  have HB := Lib.hid (below_one w (.cells #[.int .i64 x.ver, .slice x.pa x.procs.length x.pc, .slice x.la x.links.length x.lc, .slice x.ea x.events.length x.ec] 26))
  have HL : Hid (∀ (i : Nat) e, x.procs[i]? = some e → (nmsP x.m)[i]? = some e.p.name) := Lib.hid (fun i e hi => by unfold nmsP ModelV.m; rw [List.map_map, List.getElem?_map, hi]; rfl)
  have HN : Hid ((nmsP x.m).length = x.procs.length) := Lib.hid (by unfold nmsP ModelV.m; simp)
  have hsm : (x.procs.length : Int) ≤ 9223372036854775807 := by have := HM.out.procs.small; unfold maxLen at this; omega
  clear h
  obtain ⟨R, hR⟩ : ∃ R, plcI (nmsP x.m) y = R := ⟨_, rfl⟩
  have HR := Lib.hid hR
  rw [hR]
  clear hR
  go_enter Try.func21, Try.ntmps21
  go_upto_region 2 with fail
  generalize w.alloc (.cells #[.int .i64 x.ver, .slice x.pa x.procs.length x.pc, .slice x.la x.links.length x.lc, .slice x.ea x.events.length x.ec] 26) = w1 at *
  have hc1 : w1.cell? ⟨w.heap.size, 1, none⟩ = some (.slice x.pa x.procs.length x.pc) := heap_cell HX.out rfl
  go_loopw [5] (fun i wr => wr = w1 ∧ ∃ j : Nat, i = .int .i64 (j : Int) ∧ j ≤ x.procs.length ∧ Hid (∀ i, i < j → (nmsP x.m)[i]? ≠ some y)) (fun i _ => x.procs.length - (intOf i).toNat)
  case atStart => exact ⟨rfl, 0, rfl, Nat.zero_le _, Lib.hid (fun i hi => by omega)⟩
  case round =>
    obtain ⟨rfl, j, rfl, hj, HA⟩ := hrel
    have hj0 : (0 : Int) ≤ (j : Int) := Int.natCast_nonneg j
    by_cases hlt : j < x.procs.length
    · have hI := (HM.out.procs.kept HB.out (Nat.le_refl _))
      have ha := hI.addr.resolve_left (by omega)
      have hx : x.procs[j]? = some (x.procs[j]'hlt) := List.getElem?_eq_getElem _
      obtain ⟨e, hp⟩ : ∃ e, x.procs[j]'hlt = e := ⟨_, rfl⟩
      rw [hp] at hx
      have c0 : wr.cell? ⟨x.pb, x.po + j * 4, none⟩ = some (.string e.p.name) := hI.cell j e hx 0 _ rfl
      have hji : (j : Int) < (x.procs.length : Int) := by omega
      rw [ha] at hc1
      have HT := Lib.hid (HL.out j e hx)
      clear hp hI hx ha
      by_cases heq : e.p.name = y
      · have heb : (e.p.name.toList == y.toList) = true := by rw [bytes_eq, decide_eq_true heq]
        have hr : R = (j : Int) := by
          rw [← HR.out]
          unfold plcI
          rw [fstP_at HA.out (by rw [HT.out, heq])]
        subst hr
        go_wp2
        go_ret
        exact ⟨rfl, HB.out⟩
      · have heb : (e.p.name.toList == y.toList) = false := by rw [bytes_eq, decide_eq_false heq]
        go_wp2
        refine ⟨⟨trivial, j + 1, by simp, by omega, Lib.hid (fun i hi => ?_)⟩, ?_⟩
        · by_cases e1 : i = j
          · subst e1
            rw [HT.out]
            exact fun h => heq (by cases h; rfl)
          · exact HA.out i (by omega)
        · unfold intOf
          simp
          omega
    · obtain rfl : j = x.procs.length := by omega
      have hr : R = -1 := by
        rw [← HR.out]
        unfold plcI
        rw [fstP_no (fun i hi => HA.out i (by rw [HN.out] at hi; exact hi))]
      subst hr
      go_wp2
      go_ret
      exact ⟨rfl, HB.out⟩
set_option maxRecDepth 100000 in
set_option maxHeartbeats 4000000 in
theorem rlink_any {w : World} {x : ModelV} (h : ModelAt w.heap.size w x) (y : ByteArray) : Calls Try.prog 23 #[.agg #[.int .i64 x.ver, .slice x.pa x.procs.length x.pc, .slice x.la x.links.length x.lc, .slice x.ea x.events.length x.ec], .string y] w fun e w' => e = .returned (.int .i64 (plcI (nmsL x.m) y)) ∧ Below w.heap.size w w' := by
  have HM := Lib.hid h
  have HX : Hid ((w.alloc (.cells #[.int .i64 x.ver, .slice x.pa x.procs.length x.pc, .slice x.la x.links.length x.lc, .slice x.ea x.events.length x.ec] 26)).heap[w.heap.size]? = some (.cells #[.int .i64 x.ver, .slice x.pa x.procs.length x.pc, .slice x.la x.links.length x.lc, .slice x.ea x.events.length x.ec] 26 (0, 0))) := Lib.hid (heap_new _ rfl)
  have HB := Lib.hid (below_one w (.cells #[.int .i64 x.ver, .slice x.pa x.procs.length x.pc, .slice x.la x.links.length x.lc, .slice x.ea x.events.length x.ec] 26))
  have HL : Hid (∀ (i : Nat) e, x.links[i]? = some e → (nmsL x.m)[i]? = some e.name) := Lib.hid (fun i e hi => by unfold nmsL ModelV.m; rw [List.getElem?_map, hi]; rfl)
  have HN : Hid ((nmsL x.m).length = x.links.length) := Lib.hid (by unfold nmsL ModelV.m; simp)
  have hsm : (x.links.length : Int) ≤ 9223372036854775807 := by have := HM.out.links.small; unfold maxLen at this; omega
  clear h
  obtain ⟨R, hR⟩ : ∃ R, plcI (nmsL x.m) y = R := ⟨_, rfl⟩
  have HR := Lib.hid hR
  rw [hR]
  clear hR
  go_enter Try.func23, Try.ntmps23
  go_upto_region 2 with fail
  generalize w.alloc (.cells #[.int .i64 x.ver, .slice x.pa x.procs.length x.pc, .slice x.la x.links.length x.lc, .slice x.ea x.events.length x.ec] 26) = w1 at *
  have hc1 : w1.cell? ⟨w.heap.size, 2, none⟩ = some (.slice x.la x.links.length x.lc) := heap_cell HX.out rfl
  go_loopw [5] (fun i wr => wr = w1 ∧ ∃ j : Nat, i = .int .i64 (j : Int) ∧ j ≤ x.links.length ∧ Hid (∀ i, i < j → (nmsL x.m)[i]? ≠ some y)) (fun i _ => x.links.length - (intOf i).toNat)
  case atStart => exact ⟨rfl, 0, rfl, Nat.zero_le _, Lib.hid (fun i hi => by omega)⟩
  case round =>
    obtain ⟨rfl, j, rfl, hj, HA⟩ := hrel
    have hj0 : (0 : Int) ≤ (j : Int) := Int.natCast_nonneg j
    by_cases hlt : j < x.links.length
    · have hI := (HM.out.links.kept HB.out (Nat.le_refl _))
      have ha := hI.addr.resolve_left (by omega)
      have hx : x.links[j]? = some (x.links[j]'hlt) := List.getElem?_eq_getElem _
      obtain ⟨e, hp⟩ : ∃ e, x.links[j]'hlt = e := ⟨_, rfl⟩
      rw [hp] at hx
      have c0 : wr.cell? ⟨x.lb, x.lo + j * 5, none⟩ = some (.string e.name) := hI.cell j e hx 0 _ rfl
      have hji : (j : Int) < (x.links.length : Int) := by omega
      rw [ha] at hc1
      have HT := Lib.hid (HL.out j e hx)
      clear hp hI hx ha
      by_cases heq : e.name = y
      · have heb : (e.name.toList == y.toList) = true := by rw [bytes_eq, decide_eq_true heq]
        have hr : R = (j : Int) := by
          rw [← HR.out]
          unfold plcI
          rw [fstP_at HA.out (by rw [HT.out, heq])]
        subst hr
        go_wp2
        go_ret
        exact ⟨rfl, HB.out⟩
      · have heb : (e.name.toList == y.toList) = false := by rw [bytes_eq, decide_eq_false heq]
        go_wp2
        refine ⟨⟨trivial, j + 1, by simp, by omega, Lib.hid (fun i hi => ?_)⟩, ?_⟩
        · by_cases e1 : i = j
          · subst e1
            rw [HT.out]
            exact fun h => heq (by cases h; rfl)
          · exact HA.out i (by omega)
        · unfold intOf
          simp
          omega
    · obtain rfl : j = x.links.length := by omega
      have hr : R = -1 := by
        rw [← HR.out]
        unfold plcI
        rw [fstP_no (fun i hi => HA.out i (by rw [HN.out] at hi; exact hi))]
      subst hr
      go_wp2
      go_ret
      exact ⟨rfl, HB.out⟩
set_option maxRecDepth 100000 in
set_option maxHeartbeats 4000000 in
theorem rvar_any {w : World} {p : ProcV} (h : ProcIn w.heap.size w p) (y : ByteArray) : Calls Try.prog 17 #[.agg #[.string p.p.name, .int .i64 p.p.weight, .slice p.va p.p.vars.length p.vc, .slice p.sa p.p.steps.length p.sc], .string y] w fun e w' => e = .returned (.int .i64 (plcI (vNames p.p) y)) ∧ Below w.heap.size w w' := by
  have HM := Lib.hid h
  have HX : Hid ((w.alloc (.cells #[.string p.p.name, .int .i64 p.p.weight, .slice p.va p.p.vars.length p.vc, .slice p.sa p.p.steps.length p.sc] 39)).heap[w.heap.size]? = some (.cells #[.string p.p.name, .int .i64 p.p.weight, .slice p.va p.p.vars.length p.vc, .slice p.sa p.p.steps.length p.sc] 39 (0, 0))) := Lib.hid (heap_new _ rfl)
  have HB := Lib.hid (below_one w (.cells #[.string p.p.name, .int .i64 p.p.weight, .slice p.va p.p.vars.length p.vc, .slice p.sa p.p.steps.length p.sc] 39))
  have HL : Hid (∀ (i : Nat) e, p.p.vars[i]? = some e → (vNames p.p)[i]? = some e.name) := Lib.hid (fun i e hi => by unfold vNames; rw [List.getElem?_map, hi]; rfl)
  have HN : Hid ((vNames p.p).length = p.p.vars.length) := Lib.hid (by unfold vNames; simp)
  have hsm : (p.p.vars.length : Int) ≤ 9223372036854775807 := by have := HM.out.vars.small; unfold maxLen at this; omega
  clear h
  obtain ⟨R, hR⟩ : ∃ R, plcI (vNames p.p) y = R := ⟨_, rfl⟩
  have HR := Lib.hid hR
  rw [hR]
  clear hR
  go_enter Try.func17, Try.ntmps17
  go_upto_region 2 with fail
  generalize w.alloc (.cells #[.string p.p.name, .int .i64 p.p.weight, .slice p.va p.p.vars.length p.vc, .slice p.sa p.p.steps.length p.sc] 39) = w1 at *
  have hc1 : w1.cell? ⟨w.heap.size, 2, none⟩ = some (.slice p.va p.p.vars.length p.vc) := heap_cell HX.out rfl
  go_loopw [5] (fun i wr => wr = w1 ∧ ∃ j : Nat, i = .int .i64 (j : Int) ∧ j ≤ p.p.vars.length ∧ Hid (∀ i, i < j → (vNames p.p)[i]? ≠ some y)) (fun i _ => p.p.vars.length - (intOf i).toNat)
  case atStart => exact ⟨rfl, 0, rfl, Nat.zero_le _, Lib.hid (fun i hi => by omega)⟩
  case round =>
    obtain ⟨rfl, j, rfl, hj, HA⟩ := hrel
    have hj0 : (0 : Int) ≤ (j : Int) := Int.natCast_nonneg j
    by_cases hlt : j < p.p.vars.length
    · have hI := (HM.out.vars.kept HB.out (Nat.le_refl _))
      have ha := hI.addr.resolve_left (by omega)
      have hx : p.p.vars[j]? = some (p.p.vars[j]'hlt) := List.getElem?_eq_getElem _
      obtain ⟨e, hp⟩ : ∃ e, p.p.vars[j]'hlt = e := ⟨_, rfl⟩
      rw [hp] at hx
      have c0 : wr.cell? ⟨p.vb, p.vo + j * 2, none⟩ = some (.string e.name) := hI.cell j e hx 0 _ rfl
      have hji : (j : Int) < (p.p.vars.length : Int) := by omega
      rw [ha] at hc1
      have HT := Lib.hid (HL.out j e hx)
      clear hp hI hx ha
      by_cases heq : e.name = y
      · have heb : (e.name.toList == y.toList) = true := by rw [bytes_eq, decide_eq_true heq]
        have hr : R = (j : Int) := by
          rw [← HR.out]
          unfold plcI
          rw [fstP_at HA.out (by rw [HT.out, heq])]
        subst hr
        go_wp2
        go_ret
        exact ⟨rfl, HB.out⟩
      · have heb : (e.name.toList == y.toList) = false := by rw [bytes_eq, decide_eq_false heq]
        go_wp2
        refine ⟨⟨trivial, j + 1, by simp, by omega, Lib.hid (fun i hi => ?_)⟩, ?_⟩
        · by_cases e1 : i = j
          · subst e1
            rw [HT.out]
            exact fun h => heq (by cases h; rfl)
          · exact HA.out i (by omega)
        · unfold intOf
          simp
          omega
    · obtain rfl : j = p.p.vars.length := by omega
      have hr : R = -1 := by
        rw [← HR.out]
        unfold plcI
        rw [fstP_no (fun i hi => HA.out i (by rw [HN.out] at hi; exact hi))]
      subst hr
      go_wp2
      go_ret
      exact ⟨rfl, HB.out⟩
end Go.Proofs.Ytenjhbibhkjdaaa.Md
