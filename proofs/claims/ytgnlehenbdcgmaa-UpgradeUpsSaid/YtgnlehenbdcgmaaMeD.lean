/- Contracts: the document's Proc, Link, Var. Contracts: the document's number, weight, arg. Contracts: the document's arg. Contracts: the document's step. -/
import Derived.Test.YtgnlehenbdcgmaaMdU
import Derived.Test.YtgnlehenbdcgmaaMdK
import Derived.Test.YtgnlehenbdcgmaaMdD
import Derived.Test.YtgnlehenbdcgmaaMdE
set_option linter.unusedVariables false
set_option linter.unusedSectionVars false
set_option linter.unusedSimpArgs false
namespace Go.Proofs.Ytgnlehenbdcgmaa.Md
open Go.RowKit Go.Shelf

set_option maxRecDepth 100000 in
set_option maxHeartbeats 4000000 in
theorem rproc_any {w : World} {x : ModelV} (h : ModelAt w.heap.size w x) (y : ByteArray) : Calls Try.prog 18 #[.agg #[.int .i64 x.ver, .slice x.pa x.procs.length x.pc, .slice x.la x.links.length x.lc, .slice x.ea x.events.length x.ec], .string y] w fun e w' => e = .returned (.int .i64 (plcI (nmsP x.m) y)) ∧ Below w.heap.size w w' := by
  have HM := Lib.hid h
  have HX : Hid ((w.alloc (.cells #[.int .i64 x.ver, .slice x.pa x.procs.length x.pc, .slice x.la x.links.length x.lc, .slice x.ea x.events.length x.ec] 26)).heap[w.heap.size]? = some (.cells #[.int .i64 x.ver, .slice x.pa x.procs.length x.pc, .slice x.la x.links.length x.lc, .slice x.ea x.events.length x.ec] 26 (0, 0))) := Lib.hid (heap_new _ rfl)
  have HB := Lib.hid (below_one w (.cells #[.int .i64 x.ver, .slice x.pa x.procs.length x.pc, .slice x.la x.links.length x.lc, .slice x.ea x.events.length x.ec] 26))
  have HL : Hid (∀ (i : Nat) e, x.procs[i]? = some e → (nmsP x.m)[i]? = some e.p.name) := Lib.hid (fun i e hi => by unfold nmsP ModelV.m; rw [List.map_map, List.getElem?_map, hi]; rfl)
  have HN : Hid ((nmsP x.m).length = x.procs.length) := Lib.hid (by unfold nmsP ModelV.m; simp)
  have hsm : (x.procs.length : Int) ≤ 9223372036854775807 := by have := HM.out.procs.small; unfold maxLen at this; omega
  clear h
  obtain ⟨R, hR⟩ : ∃ R, plcI (nmsP x.m) y = R := ⟨_, rfl⟩
  have HR := Lib.hid hR
  rw [hR]
  clear hR
  go_enter Try.func18, Try.ntmps18
  go_upto_region 2 with fail
  generalize w.alloc (.cells #[.int .i64 x.ver, .slice x.pa x.procs.length x.pc, .slice x.la x.links.length x.lc, .slice x.ea x.events.length x.ec] 26) = w1 at *
  have hc1 : w1.cell? ⟨w.heap.size, 1, none⟩ = some (.slice x.pa x.procs.length x.pc) := heap_cell HX.out rfl
  go_loopw [5] (fun i wr => wr = w1 ∧ ∃ j : Nat, i = .int .i64 (j : Int) ∧ j ≤ x.procs.length ∧ Hid (∀ i, i < j → (nmsP x.m)[i]? ≠ some y)) (fun i _ => x.procs.length - (intOf i).toNat)
  case atStart => exact ⟨rfl, 0, rfl, Nat.zero_le _, Lib.hid (fun i hi => by omega)⟩
  case round =>
    obtain ⟨rfl, j, rfl, hj, HA⟩ := hrel
    have hj0 : (0 : Int) ≤ (j : Int) := Int.natCast_nonneg j
    by_cases hlt : j < x.procs.length
    · have hI := (HM.out.procs.kept HB.out (Nat.le_refl _))
      have ha := hI.addr.resolve_left (by omega)
      have hx : x.procs[j]? = some (x.procs[j]'hlt) := List.getElem?_eq_getElem _
      obtain ⟨e, hp⟩ : ∃ e, x.procs[j]'hlt = e := ⟨_, rfl⟩
      rw [hp] at hx
      have c0 : wr.cell? ⟨x.pb, x.po + j * 4, none⟩ = some (.string e.p.name) := hI.cell j e hx 0 _ rfl
      have hji : (j : Int) < (x.procs.length : Int) := by omega
      rw [ha] at hc1
      have HT := Lib.hid (HL.out j e hx)
      clear hp hI hx ha
      by_cases heq : e.p.name = y
      · have heb : (e.p.name.toList == y.toList) = true := by rw [bytes_eq, decide_eq_true heq]
        have hr : R = (j : Int) := by
          rw [← HR.out]
          unfold plcI
          rw [fstP_at HA.out (by rw [HT.out, heq])]
        subst hr
        go_wp2
        go_ret
        exact ⟨rfl, HB.out⟩
      · have heb : (e.p.name.toList == y.toList) = false := by rw [bytes_eq, decide_eq_false heq]
        go_wp2
        refine ⟨⟨trivial, j + 1, by simp, by omega, Lib.hid (fun i hi => ?_)⟩, ?_⟩
        · by_cases e1 : i = j
          · subst e1
            rw [HT.out]
            exact fun h => heq (by cases h; rfl)
          · exact HA.out i (by omega)
        · unfold intOf
          simp
          omega
    · obtain rfl : j = x.procs.length := by omega
      have hr : R = -1 := by
        rw [← HR.out]
        unfold plcI
        rw [fstP_no (fun i hi => HA.out i (by rw [HN.out] at hi; exact hi))]
      subst hr
      go_wp2
      go_ret
      exact ⟨rfl, HB.out⟩
set_option maxRecDepth 100000 in
set_option maxHeartbeats 4000000 in
theorem rlink_any {w : World} {x : ModelV} (h : ModelAt w.heap.size w x) (y : ByteArray) : Calls Try.prog 20 #[.agg #[.int .i64 x.ver, .slice x.pa x.procs.length x.pc, .slice x.la x.links.length x.lc, .slice x.ea x.events.length x.ec], .string y] w fun e w' => e = .returned (.int .i64 (plcI (nmsL x.m) y)) ∧ Below w.heap.size w w' := by
  have HM := Lib.hid h
  have HX : Hid ((w.alloc (.cells #[.int .i64 x.ver, .slice x.pa x.procs.length x.pc, .slice x.la x.links.length x.lc, .slice x.ea x.events.length x.ec] 26)).heap[w.heap.size]? = some (.cells #[.int .i64 x.ver, .slice x.pa x.procs.length x.pc, .slice x.la x.links.length x.lc, .slice x.ea x.events.length x.ec] 26 (0, 0))) := Lib.hid (heap_new _ rfl)
  have HB := Lib.hid (below_one w (.cells #[.int .i64 x.ver, .slice x.pa x.procs.length x.pc, .slice x.la x.links.length x.lc, .slice x.ea x.events.length x.ec] 26))
  have HL : Hid (∀ (i : Nat) e, x.links[i]? = some e → (nmsL x.m)[i]? = some e.name) := Lib.hid (fun i e hi => by unfold nmsL ModelV.m; rw [List.getElem?_map, hi]; rfl)
  have HN : Hid ((nmsL x.m).length = x.links.length) := Lib.hid (by unfold nmsL ModelV.m; simp)
  have hsm : (x.links.length : Int) ≤ 9223372036854775807 := by have := HM.out.links.small; unfold maxLen at this; omega
  clear h
  obtain ⟨R, hR⟩ : ∃ R, plcI (nmsL x.m) y = R := ⟨_, rfl⟩
  have HR := Lib.hid hR
  rw [hR]
  clear hR
  go_enter Try.func20, Try.ntmps20
  go_upto_region 2 with fail
  generalize w.alloc (.cells #[.int .i64 x.ver, .slice x.pa x.procs.length x.pc, .slice x.la x.links.length x.lc, .slice x.ea x.events.length x.ec] 26) = w1 at *
  have hc1 : w1.cell? ⟨w.heap.size, 2, none⟩ = some (.slice x.la x.links.length x.lc) := heap_cell HX.out rfl
  go_loopw [5] (fun i wr => wr = w1 ∧ ∃ j : Nat, i = .int .i64 (j : Int) ∧ j ≤ x.links.length ∧ Hid (∀ i, i < j → (nmsL x.m)[i]? ≠ some y)) (fun i _ => x.links.length - (intOf i).toNat)
  case atStart => exact ⟨rfl, 0, rfl, Nat.zero_le _, Lib.hid (fun i hi => by omega)⟩
  case round =>
    obtain ⟨rfl, j, rfl, hj, HA⟩ := hrel
    have hj0 : (0 : Int) ≤ (j : Int) := Int.natCast_nonneg j
    by_cases hlt : j < x.links.length
    · have hI := (HM.out.links.kept HB.out (Nat.le_refl _))
      have ha := hI.addr.resolve_left (by omega)
      have hx : x.links[j]? = some (x.links[j]'hlt) := List.getElem?_eq_getElem _
      obtain ⟨e, hp⟩ : ∃ e, x.links[j]'hlt = e := ⟨_, rfl⟩
      rw [hp] at hx
      have c0 : wr.cell? ⟨x.lb, x.lo + j * 5, none⟩ = some (.string e.name) := hI.cell j e hx 0 _ rfl
      have hji : (j : Int) < (x.links.length : Int) := by omega
      rw [ha] at hc1
      have HT := Lib.hid (HL.out j e hx)
      clear hp hI hx ha
      by_cases heq : e.name = y
      · have heb : (e.name.toList == y.toList) = true := by rw [bytes_eq, decide_eq_true heq]
        have hr : R = (j : Int) := by
          rw [← HR.out]
          unfold plcI
          rw [fstP_at HA.out (by rw [HT.out, heq])]
        subst hr
        go_wp2
        go_ret
        exact ⟨rfl, HB.out⟩
      · have heb : (e.name.toList == y.toList) = false := by rw [bytes_eq, decide_eq_false heq]
        go_wp2
        refine ⟨⟨trivial, j + 1, by simp, by omega, Lib.hid (fun i hi => ?_)⟩, ?_⟩
        · by_cases e1 : i = j
          · subst e1
            rw [HT.out]
            exact fun h => heq (by cases h; rfl)
          · exact HA.out i (by omega)
        · unfold intOf
          simp
          omega
    · obtain rfl : j = x.links.length := by omega
      have hr : R = -1 := by
        rw [← HR.out]
        unfold plcI
        rw [fstP_no (fun i hi => HA.out i (by rw [HN.out] at hi; exact hi))]
      subst hr
      go_wp2
      go_ret
      exact ⟨rfl, HB.out⟩
set_option maxRecDepth 100000 in
set_option maxHeartbeats 4000000 in
theorem rvar_any {w : World} {p : ProcV} (h : ProcIn w.heap.size w p) (y : ByteArray) : Calls Try.prog 14 #[.agg #[.string p.p.name, .int .i64 p.p.weight, .slice p.va p.p.vars.length p.vc, .slice p.sa p.p.steps.length p.sc], .string y] w fun e w' => e = .returned (.int .i64 (plcI (vNames p.p) y)) ∧ Below w.heap.size w w' := by
  have HM := Lib.hid h
  have HX : Hid ((w.alloc (.cells #[.string p.p.name, .int .i64 p.p.weight, .slice p.va p.p.vars.length p.vc, .slice p.sa p.p.steps.length p.sc] 36)).heap[w.heap.size]? = some (.cells #[.string p.p.name, .int .i64 p.p.weight, .slice p.va p.p.vars.length p.vc, .slice p.sa p.p.steps.length p.sc] 36 (0, 0))) := Lib.hid (heap_new _ rfl)
  have HB := Lib.hid (below_one w (.cells #[.string p.p.name, .int .i64 p.p.weight, .slice p.va p.p.vars.length p.vc, .slice p.sa p.p.steps.length p.sc] 36))
  have HL : Hid (∀ (i : Nat) e, p.p.vars[i]? = some e → (vNames p.p)[i]? = some e.name) := Lib.hid (fun i e hi => by unfold vNames; rw [List.getElem?_map, hi]; rfl)
  have HN : Hid ((vNames p.p).length = p.p.vars.length) := Lib.hid (by unfold vNames; simp)
  have hsm : (p.p.vars.length : Int) ≤ 9223372036854775807 := by have := HM.out.vars.small; unfold maxLen at this; omega
  clear h
  obtain ⟨R, hR⟩ : ∃ R, plcI (vNames p.p) y = R := ⟨_, rfl⟩
  have HR := Lib.hid hR
  rw [hR]
  clear hR
  go_enter Try.func14, Try.ntmps14
  go_upto_region 2 with fail
  generalize w.alloc (.cells #[.string p.p.name, .int .i64 p.p.weight, .slice p.va p.p.vars.length p.vc, .slice p.sa p.p.steps.length p.sc] 36) = w1 at *
  have hc1 : w1.cell? ⟨w.heap.size, 2, none⟩ = some (.slice p.va p.p.vars.length p.vc) := heap_cell HX.out rfl
  go_loopw [5] (fun i wr => wr = w1 ∧ ∃ j : Nat, i = .int .i64 (j : Int) ∧ j ≤ p.p.vars.length ∧ Hid (∀ i, i < j → (vNames p.p)[i]? ≠ some y)) (fun i _ => p.p.vars.length - (intOf i).toNat)
  case atStart => exact ⟨rfl, 0, rfl, Nat.zero_le _, Lib.hid (fun i hi => by omega)⟩
  case round =>
    obtain ⟨rfl, j, rfl, hj, HA⟩ := hrel
    have hj0 : (0 : Int) ≤ (j : Int) := Int.natCast_nonneg j
    by_cases hlt : j < p.p.vars.length
    · have hI := (HM.out.vars.kept HB.out (Nat.le_refl _))
      have ha := hI.addr.resolve_left (by omega)
      have hx : p.p.vars[j]? = some (p.p.vars[j]'hlt) := List.getElem?_eq_getElem _
      obtain ⟨e, hp⟩ : ∃ e, p.p.vars[j]'hlt = e := ⟨_, rfl⟩
      rw [hp] at hx
      have c0 : wr.cell? ⟨p.vb, p.vo + j * 2, none⟩ = some (.string e.name) := hI.cell j e hx 0 _ rfl
      have hji : (j : Int) < (p.p.vars.length : Int) := by omega
      rw [ha] at hc1
      have HT := Lib.hid (HL.out j e hx)
      clear hp hI hx ha
      by_cases heq : e.name = y
      · have heb : (e.name.toList == y.toList) = true := by rw [bytes_eq, decide_eq_true heq]
        have hr : R = (j : Int) := by
          rw [← HR.out]
          unfold plcI
          rw [fstP_at HA.out (by rw [HT.out, heq])]
        subst hr
        go_wp2
        go_ret
        exact ⟨rfl, HB.out⟩
      · have heb : (e.name.toList == y.toList) = false := by rw [bytes_eq, decide_eq_false heq]
        go_wp2
        refine ⟨⟨trivial, j + 1, by simp, by omega, Lib.hid (fun i hi => ?_)⟩, ?_⟩
        · by_cases e1 : i = j
          · subst e1
            rw [HT.out]
            exact fun h => heq (by cases h; rfl)
          · exact HA.out i (by omega)
        · unfold intOf
          simp
          omega
    · obtain rfl : j = p.p.vars.length := by omega
      have hr : R = -1 := by
        rw [← HR.out]
        unfold plcI
        rw [fstP_no (fun i hi => HA.out i (by rw [HN.out] at hi; exact hi))]
      subst hr
      go_wp2
      go_ret
      exact ⟨rfl, HB.out⟩
end Go.Proofs.Ytgnlehenbdcgmaa.Md

namespace Go.Proofs.Ytgnlehenbdcgmaa.Md
open Go.RowKit Go.Shelf

theorem rnumber_any (n : Int) (w : World) : Calls Try.prog 46 #[.int .i64 n] w fun e w' => e = .returned (.bool (numB n)) ∧ w' = w := by
  go_enter Try.func46, Try.ntmps46
  by_cases h1 : -1099511627776 ≤ n
  · by_cases h2 : n ≤ 1099511627776
    · have hr : numB n = true := by unfold numB; simp [h1, h2]
      rw [hr]
      go_wp2
      go_ret
      exact ⟨rfl, rfl⟩
    · have hr : numB n = false := by unfold numB; simp [h1, h2]
      rw [hr]
      go_wp2
      go_ret
      exact ⟨rfl, rfl⟩
  · have hr : numB n = false := by unfold numB; simp [h1]
    rw [hr]
    go_wp2
    go_ret
    exact ⟨rfl, rfl⟩
theorem rweight_any (x : ModelV) (n : Int) (w : World) : Calls Try.prog 70 #[.agg #[.int .i64 x.ver, .slice x.pa x.procs.length x.pc, .slice x.la x.links.length x.lc, .slice x.ea x.events.length x.ec], .int .i64 n] w fun e w' => e = .returned (.bool (wgtB x.ver n)) ∧ Below w.heap.size w w' := by
  have HB := Lib.hid (below_one w (.cells #[.int .i64 x.ver, .slice x.pa x.procs.length x.pc, .slice x.la x.links.length x.lc, .slice x.ea x.events.length x.ec] 26))
  obtain ⟨r, hr⟩ : ∃ r, wgtB x.ver n = r := ⟨_, rfl⟩
  rw [hr]
  go_enter Try.func70, Try.ntmps70
  by_cases h1 : 1 ≤ n
  · by_cases h2 : n ≤ 1048576
    · obtain rfl : r = true := by rw [← hr]; unfold wgtB; simp [h1, h2]
      clear hr
      go_wp2
      go_ret
      exact ⟨rfl, HB.out⟩
    · have h3 : (n == 0) = false := by simp; omega
      obtain rfl : r = false := by rw [← hr]; unfold wgtB; simp [h3]; omega
      clear hr
      go_wp2
      go_ret
      exact ⟨rfl, HB.out⟩
  · by_cases h0 : n = 0
    · subst h0
      by_cases h3 : x.ver < 3
      · obtain rfl : r = true := by rw [← hr]; unfold wgtB; simp [h3]
        clear hr
        go_wp2
        go_ret
        exact ⟨rfl, HB.out⟩
      · obtain rfl : r = false := by rw [← hr]; unfold wgtB; simp [h3]
        clear hr
        go_wp2
        go_ret
        exact ⟨rfl, HB.out⟩
    · have h3 : (n == 0) = false := by simpa using h0
      obtain rfl : r = false := by rw [← hr]; unfold wgtB; simp [h3]; omega
      clear hr
      go_wp2
      go_ret
      exact ⟨rfl, HB.out⟩
end Go.Proofs.Ytgnlehenbdcgmaa.Md

namespace Go.Proofs.Ytgnlehenbdcgmaa.Md
open Go.RowKit Go.Shelf

set_option maxRecDepth 100000 in
set_option maxHeartbeats 4000000 in
theorem rarg_any {w : World} {p : ProcV} (h : ProcIn w.heap.size w p) (s : StepM) (hs : 0 ≤ s.ak ∧ s.ak ≤ 2) : Calls Try.prog 91 #[.agg #[.string p.p.name, .int .i64 p.p.weight, .slice p.va p.p.vars.length p.vc, .slice p.sa p.p.steps.length p.sc], .agg #[.int .i64 s.ak, .int .i64 s.an, .string s.aname]] w fun e w' => e = .returned (.int .i64 (argE (fstP (vNames p.p)) s)) ∧ Below w.heap.size w w' := by
  have HA : Hid (argE (fstP (vNames p.p)) s = if (s.ak == 0) && !numB s.an then 23 else if (s.ak != 0) && (s.an != 0) then 21 else if s.ak == 1 then thereE (fstP (vNames p.p)) s.aname else if !s.aname.toList.isEmpty then 21 else 0) := Lib.hid rfl
  obtain ⟨ak, hak⟩ : ∃ v, s.ak = v := ⟨_, rfl⟩
  obtain ⟨an, han⟩ : ∃ v, s.an = v := ⟨_, rfl⟩
  obtain ⟨y, hye⟩ : ∃ v, s.aname = v := ⟨_, rfl⟩
  generalize argE (fstP (vNames p.p)) s = r at *
  rw [hak, han, hye] at HA
  rw [hak] at hs
  rw [hak, han, hye]
  clear hak han hye
  have hb1 := (below_one w (.cells #[.string p.p.name, .int .i64 p.p.weight, .slice p.va p.p.vars.length p.vc, .slice p.sa p.p.steps.length p.sc] 36))
  have HB := Lib.hid (hb1.alloc hb1.size (.cells #[.int .i64 ak, .int .i64 an, .string y] 97))
  have HN := Lib.hid (fun W => rnumber_any an W)
  have HV := Lib.hid (rvar_any (h.on HB.out) y)
  have HX : Hid (((w.alloc (.cells #[.string p.p.name, .int .i64 p.p.weight, .slice p.va p.p.vars.length p.vc, .slice p.sa p.p.steps.length p.sc] 36)).alloc (.cells #[.int .i64 ak, .int .i64 an, .string y] 97)).heap[w.heap.size]? = some (.cells #[.string p.p.name, .int .i64 p.p.weight, .slice p.va p.p.vars.length p.vc, .slice p.sa p.p.steps.length p.sc] 36 (0, 0))) := Lib.hid (heap_alloc (heap_new _ rfl) _)
  have HY : Hid (((w.alloc (.cells #[.string p.p.name, .int .i64 p.p.weight, .slice p.va p.p.vars.length p.vc, .slice p.sa p.p.steps.length p.sc] 36)).alloc (.cells #[.int .i64 ak, .int .i64 an, .string y] 97)).heap[w.heap.size + 1]? = some (.cells #[.int .i64 ak, .int .i64 an, .string y] 97 (0, 0))) := Lib.hid (heap_new _ (by simp))
  clear h hb1
  obtain ⟨q, hq⟩ : ∃ q, plcI (vNames p.p) y = q := ⟨_, rfl⟩
  have HQ : Hid (thereE (fstP (vNames p.p)) y = if q < 0 then 4 else 0) := Lib.hid (by
    rw [← hq]
    unfold thereE plcI
    cases fstP (vNames p.p) y with
    | none => rfl
    | some i => simp)
  rw [hq] at HV
  clear hq
  generalize thereE (fstP (vNames p.p)) y = t at *
  generalize numB an = nb at *
  go_enter Try.func91, Try.ntmps91
  go_upto_region 1 with fail
  generalize ((w.alloc (.cells #[.string p.p.name, .int .i64 p.p.weight, .slice p.va p.p.vars.length p.vc, .slice p.sa p.p.steps.length p.sc] 36)).alloc (.cells #[.int .i64 ak, .int .i64 an, .string y] 97)) = w0 at *
  have c0 : w0.cell? ⟨w.heap.size + 1, 0, none⟩ = some (.int .i64 ak) := heap_cell HY.out rfl
  have c1 : w0.cell? ⟨w.heap.size + 1, 1, none⟩ = some (.int .i64 an) := heap_cell HY.out rfl
  have c2 : w0.cell? ⟨w.heap.size + 1, 2, none⟩ = some (.string y) := heap_cell HY.out rfl
  have d0 : w0.cell? ⟨w.heap.size, 0, none⟩ = some (.string p.p.name) := heap_cell HX.out rfl
  have d1 : w0.cell? ⟨w.heap.size, 1, none⟩ = some (.int .i64 p.p.weight) := heap_cell HX.out rfl
  have d2 : w0.cell? ⟨w.heap.size, 2, none⟩ = some (.slice p.va p.p.vars.length p.vc) := heap_cell HX.out rfl
  have d3 : w0.cell? ⟨w.heap.size, 3, none⟩ = some (.slice p.sa p.p.steps.length p.sc) := heap_cell HX.out rfl
  cases h0 : (ak == 0) with
  | true =>
    have h0n : (ak != 0) = false := by simp at h0 ⊢; exact h0
    have h01 : (ak == 1) = false := by simp at h0 ⊢; omega
    cases nb with
    | false =>
      have HR : Hid (r = 23) := Lib.hid (by rw [HA.out, h0]; rfl)
      go_wp2_with (go_at_call 46; refine (HN.out _).mono ?_; rintro e w' ⟨rfl, rfl⟩)
      go_ret
      exact ⟨by rw [HR.out]; rfl, HB.out⟩
    | true =>
      cases he : y.toList.isEmpty with
      | true =>
        have HR : Hid (r = 0) := Lib.hid (by rw [HA.out, h0, h0n, h01, he]; rfl)
        go_wp2_with (go_at_call 46; refine (HN.out _).mono ?_; rintro e w' ⟨rfl, rfl⟩)
        go_ret
        exact ⟨by rw [HR.out]; rfl, HB.out⟩
      | false =>
        have HR : Hid (r = 21) := Lib.hid (by rw [HA.out, h0, h0n, h01, he]; rfl)
        go_wp2_with (go_at_call 46; refine (HN.out _).mono ?_; rintro e w' ⟨rfl, rfl⟩)
        go_ret
        exact ⟨by rw [HR.out]; rfl, HB.out⟩
  | false =>
    have h0n : (ak != 0) = true := by simp at h0 ⊢; exact h0
    cases h2 : (an != 0) with
    | true =>
      have HR : Hid (r = 21) := Lib.hid (by rw [HA.out, h0, h0n, h2]; rfl)
      go_wp2
      go_ret
      exact ⟨by rw [HR.out]; rfl, HB.out⟩
    | false =>
      cases h01 : (ak == 1) with
      | true =>
        have h02 : (ak == 2) = false := by simp at h01 ⊢; omega
        have HR : Hid (r = t) := Lib.hid (by rw [HA.out, h0, h0n, h2, h01]; rfl)
        have HYb := HY.out
        by_cases hq : q < 0
        · go_wp2_with fail
          refine HV.out.mono ?_
          rintro e w3 ⟨rfl, hb3⟩
          have HB3 := Lib.hid (HB.out.trans (hb3.mono HB.out.size))
          clear hb3
          go_wp2
          go_ret
          exact ⟨by rw [HR.out, HQ.out, if_pos hq]; rfl, HB3.out⟩
        · have hqn : 0 ≤ q := by omega
          go_wp2_with fail
          refine HV.out.mono ?_
          rintro e w3 ⟨rfl, hb3⟩
          have HB3 := Lib.hid (HB.out.trans (hb3.mono HB.out.size))
          have e0 : w3.cell? ⟨w.heap.size + 1, 0, none⟩ = some (.int .i64 ak) := heap_cell (heap_below HYb hb3 (heap_lt HYb)) rfl
          clear hb3
          go_wp2
          go_ret
          exact ⟨by rw [HR.out, HQ.out, if_neg (by omega)]; rfl, HB3.out⟩
      | false =>
        have h02 : (ak == 2) = true := by simp at h0 h01 ⊢; omega
        cases he : y.toList.isEmpty with
        | true =>
          have HR : Hid (r = 0) := Lib.hid (by rw [HA.out, h0, h0n, h2, h01, he]; rfl)
          go_wp2
          go_ret
          exact ⟨by rw [HR.out]; rfl, HB.out⟩
        | false =>
          have HR : Hid (r = 21) := Lib.hid (by rw [HA.out, h0, h0n, h2, h01, he]; rfl)
          go_wp2
          go_ret
          exact ⟨by rw [HR.out]; rfl, HB.out⟩
end Go.Proofs.Ytgnlehenbdcgmaa.Md

namespace Go.Proofs.Ytgnlehenbdcgmaa.Md
open Go.RowKit Go.Shelf

theorem below_dNB (B : Nat) (w : World) (n : Nat) : Below B w (w.drewN n) := ⟨rfl, rfl, rfl, Nat.le_refl _, fun _ _ => rfl⟩
theorem plc_no {l : List ByteArray} {y : ByteArray} (h : fstP l y = none) : plcI l y = -1 := by unfold plcI; rw [h]
theorem plc_yes {l : List ByteArray} {y : ByteArray} {i : Nat} (h : fstP l y = some i) : plcI l y = (i : Int) := by unfold plcI; rw [h]
/-- The boxes of a step's check. -/
structure Sb (x : ModelV) (p : ProcV) (s : StepM) (w W : World) : Prop where
  a : W.heap[w.heap.size]? = some (.cells #[.int .i64 x.ver, .slice x.pa x.procs.length x.pc, .slice x.la x.links.length x.lc, .slice x.ea x.events.length x.ec] 26 (0, 0))
  b : W.heap[w.heap.size + 1]? = some (.cells #[.string p.p.name, .int .i64 p.p.weight, .slice p.va p.p.vars.length p.vc, .slice p.sa p.p.steps.length p.sc] 36 (0, 0))
  c : W.heap[w.heap.size + 1 + 1]? = some (.cells #[.int .i64 s.kind, .string s.name, .int .i64 s.ak, .int .i64 s.an, .string s.aname] 99 (0, 0))
  low : Below w.heap.size w W
theorem Sb.on {x : ModelV} {p : ProcV} {s : StepM} {w W W' : World} (h : Sb x p s w W) (hb : Below W.heap.size W W') : Sb x p s w W' :=
  ⟨heap_below h.a hb (heap_lt h.a), heap_below h.b hb (heap_lt h.b), heap_below h.c hb (heap_lt h.c), h.low.trans (hb.mono h.low.size)⟩
set_option maxRecDepth 100000 in
set_option maxHeartbeats 4000000 in
theorem rstep_any {w : World} {x : ModelV} {p : ProcV} (hx : ModelAt w.heap.size w x) (hp : ProcIn w.heap.size w p) (s : StepM) : Calls Try.prog 71 #[.agg #[.int .i64 x.ver, .slice x.pa x.procs.length x.pc, .slice x.la x.links.length x.lc, .slice x.ea x.events.length x.ec], .agg #[.string p.p.name, .int .i64 p.p.weight, .slice p.va p.p.vars.length p.vc, .slice p.sa p.p.steps.length p.sc], .agg #[.int .i64 s.kind, .string s.name, .int .i64 s.ak, .int .i64 s.an, .string s.aname]] w fun e w' => e = .returned (.int .i64 (stE x.links p.p.name (fstP (vNames p.p)) s)) ∧ Below w.heap.size w w' := by
  have HM := Lib.hid hx
  have HP := Lib.hid hp
  have HT : Hid (Sb x p s w (((w.alloc (.cells #[.int .i64 x.ver, .slice x.pa x.procs.length x.pc, .slice x.la x.links.length x.lc, .slice x.ea x.events.length x.ec] 26)).alloc (.cells #[.string p.p.name, .int .i64 p.p.weight, .slice p.va p.p.vars.length p.vc, .slice p.sa p.p.steps.length p.sc] 36)).alloc (.cells #[.int .i64 s.kind, .string s.name, .int .i64 s.ak, .int .i64 s.an, .string s.aname] 99))) := Lib.hid ⟨heap_alloc (heap_alloc (heap_new _ rfl) _) _, heap_alloc (heap_new _ (by simp)) _, heap_new _ (by simp), (((Below.refl _ _).alloc (Nat.le_refl _) _).alloc (by simp) _).alloc (by simp; omega) _⟩
  clear hx hp
  go_enter Try.func71, Try.ntmps71
  go_upto_region 1 with fail
  generalize (((w.alloc (.cells #[.int .i64 x.ver, .slice x.pa x.procs.length x.pc, .slice x.la x.links.length x.lc, .slice x.ea x.events.length x.ec] 26)).alloc (.cells #[.string p.p.name, .int .i64 p.p.weight, .slice p.va p.p.vars.length p.vc, .slice p.sa p.p.steps.length p.sc] 36)).alloc (.cells #[.int .i64 s.kind, .string s.name, .int .i64 s.ak, .int .i64 s.an, .string s.aname] 99)) = w0 at *
  have a0 : w0.cell? ⟨w.heap.size, 0, none⟩ = some (.int .i64 x.ver) := heap_cell HT.out.a rfl
  have a1 : w0.cell? ⟨w.heap.size, 1, none⟩ = some (.slice x.pa x.procs.length x.pc) := heap_cell HT.out.a rfl
  have a2 : w0.cell? ⟨w.heap.size, 2, none⟩ = some (.slice x.la x.links.length x.lc) := heap_cell HT.out.a rfl
  have a3 : w0.cell? ⟨w.heap.size, 3, none⟩ = some (.slice x.ea x.events.length x.ec) := heap_cell HT.out.a rfl
  have b0 : w0.cell? ⟨w.heap.size + 1, 0, none⟩ = some (.string p.p.name) := heap_cell HT.out.b rfl
  have b1 : w0.cell? ⟨w.heap.size + 1, 1, none⟩ = some (.int .i64 p.p.weight) := heap_cell HT.out.b rfl
  have b2 : w0.cell? ⟨w.heap.size + 1, 2, none⟩ = some (.slice p.va p.p.vars.length p.vc) := heap_cell HT.out.b rfl
  have b3 : w0.cell? ⟨w.heap.size + 1, 3, none⟩ = some (.slice p.sa p.p.steps.length p.sc) := heap_cell HT.out.b rfl
  have c0 : w0.cell? ⟨w.heap.size + 1 + 1, 0, none⟩ = some (.int .i64 s.kind) := heap_cell HT.out.c rfl
  have c1 : w0.cell? ⟨w.heap.size + 1 + 1, 1, none⟩ = some (.string s.name) := heap_cell HT.out.c rfl
  have c2 : w0.cell? ⟨w.heap.size + 1 + 1, 2, none⟩ = some (.int .i64 s.ak) := heap_cell HT.out.c rfl
  have c3 : w0.cell? ⟨w.heap.size + 1 + 1, 3, none⟩ = some (.int .i64 s.an) := heap_cell HT.out.c rfl
  have c4 : w0.cell? ⟨w.heap.size + 1 + 1, 4, none⟩ = some (.string s.aname) := heap_cell HT.out.c rfl
  by_cases hk : 1 ≤ s.kind ∧ s.kind ≤ 4 ∧ 0 ≤ s.ak ∧ s.ak ≤ 2
  · obtain ⟨hk1, hk2, hk3, hk4⟩ := hk
    have hst : stE x.links p.p.name (fstP (vNames p.p)) s = if tgtE x.links p.p.name (fstP (vNames p.p)) s = 0 then argE (fstP (vNames p.p)) s else tgtE x.links p.p.name (fstP (vNames p.p)) s := by
      unfold stE
      rw [if_neg (by simp; omega)]
    have HSt := Lib.hid hst
    clear hst
    by_cases h4 : s.kind = 4
    · have h4b : (s.kind == 4) = true := by simpa using h4
      have h4n : (s.kind != 4) = false := by simpa using h4
      go_wp2_with fail
      refine (rlink_any (HM.out.on HT.out.low) s.name).mono ?_
      clear a0 a1 a2 a3 b0 b1 b2 b3 c0 c1 c2 c3 c4
      rintro e w5 ⟨rfl, hb⟩
      replace HT := Lib.hid (HT.out.on hb)
      clear hb
      cases hf : fstP (nmsL x.m) s.name with
      | none =>
        have hr : stE x.links p.p.name (fstP (vNames p.p)) s = 4 := by
          have : tgtE x.links p.p.name (fstP (vNames p.p)) s = 4 := by
            unfold tgtE
            rw [h4n, show fstP (x.links.map (fun y => y.name)) s.name = none from hf]
            rfl
          rw [HSt.out, this, if_neg (by decide)]
        rw [plc_no hf]
        go_wp2
        go_ret
        exact ⟨by first | (rw [hr]; rfl) | rfl | rw [hr], HT.out.low⟩
      | some i =>
        have hi := fstP_lt hf
        have hil : i < x.links.length := by unfold nmsL ModelV.m at hi; rwa [List.length_map] at hi
        obtain ⟨l, hl⟩ : ∃ l, x.links[i]? = some l := ⟨_, List.getElem?_eq_getElem hil⟩
        rw [plc_yes hf]
        have hi0 : (0 : Int) ≤ (i : Int) := Int.natCast_nonneg i
        have hii : (i : Int) < (x.links.length : Int) := by omega
        have hin : ¬ ((i : Int) < 0) := by omega
        have hrow := (HM.out.on HT.out.low).links
        have ha := hrow.addr.resolve_left (by omega)
        have l1 : w5.cell? ⟨x.lb, x.lo + i * 5 + 1, none⟩ = some (.string l.frm) := hrow.cell i l hl 1 _ rfl
        have htg : tgtE x.links p.p.name (fstP (vNames p.p)) s = if l.frm.toList == p.p.name.toList then 0 else 47 := by
          unfold tgtE
          rw [h4n, show fstP (x.links.map (fun y => y.name)) s.name = some i from hf]
          dsimp only
          rw [hl]
          rfl
        have a0 : w5.cell? ⟨w.heap.size, 0, none⟩ = some (.int .i64 x.ver) := heap_cell HT.out.a rfl
        have a1 : w5.cell? ⟨w.heap.size, 1, none⟩ = some (.slice x.pa x.procs.length x.pc) := heap_cell HT.out.a rfl
        have a2 : w5.cell? ⟨w.heap.size, 2, none⟩ = some (.slice x.la x.links.length x.lc) := heap_cell HT.out.a rfl
        have a3 : w5.cell? ⟨w.heap.size, 3, none⟩ = some (.slice x.ea x.events.length x.ec) := heap_cell HT.out.a rfl
        have b0 : w5.cell? ⟨w.heap.size + 1, 0, none⟩ = some (.string p.p.name) := heap_cell HT.out.b rfl
        have b1 : w5.cell? ⟨w.heap.size + 1, 1, none⟩ = some (.int .i64 p.p.weight) := heap_cell HT.out.b rfl
        have b2 : w5.cell? ⟨w.heap.size + 1, 2, none⟩ = some (.slice p.va p.p.vars.length p.vc) := heap_cell HT.out.b rfl
        have b3 : w5.cell? ⟨w.heap.size + 1, 3, none⟩ = some (.slice p.sa p.p.steps.length p.sc) := heap_cell HT.out.b rfl
        have c0 : w5.cell? ⟨w.heap.size + 1 + 1, 0, none⟩ = some (.int .i64 s.kind) := heap_cell HT.out.c rfl
        have c1 : w5.cell? ⟨w.heap.size + 1 + 1, 1, none⟩ = some (.string s.name) := heap_cell HT.out.c rfl
        have c2 : w5.cell? ⟨w.heap.size + 1 + 1, 2, none⟩ = some (.int .i64 s.ak) := heap_cell HT.out.c rfl
        have c3 : w5.cell? ⟨w.heap.size + 1 + 1, 3, none⟩ = some (.int .i64 s.an) := heap_cell HT.out.c rfl
        have c4 : w5.cell? ⟨w.heap.size + 1 + 1, 4, none⟩ = some (.string s.aname) := heap_cell HT.out.c rfl
        rw [ha] at a2
        have HTg := Lib.hid htg
        clear htg hrow
        cases he : (l.frm.toList == p.p.name.toList) with
        | true =>
          have hne : (l.frm.toList != p.p.name.toList) = false := by simp only [bne, he]; rfl
          have hr : stE x.links p.p.name (fstP (vNames p.p)) s = argE (fstP (vNames p.p)) s := by rw [HSt.out, HTg.out, he, if_pos rfl, if_pos rfl]
          go_upto_region 7 with fail
          go_quiet (fail)
          clear a0 a1 a2 a3 b0 b1 b2 b3 c0 c1 c2 c3 c4 l1
          replace HT := Lib.hid (HT.out.on (below_dNB _ _ nq))
          generalize w5.drewN nq = w6 at *
          have a0 : w6.cell? ⟨w.heap.size, 0, none⟩ = some (.int .i64 x.ver) := heap_cell HT.out.a rfl
          have a1 : w6.cell? ⟨w.heap.size, 1, none⟩ = some (.slice x.pa x.procs.length x.pc) := heap_cell HT.out.a rfl
          have a2 : w6.cell? ⟨w.heap.size, 2, none⟩ = some (.slice x.la x.links.length x.lc) := heap_cell HT.out.a rfl
          have a3 : w6.cell? ⟨w.heap.size, 3, none⟩ = some (.slice x.ea x.events.length x.ec) := heap_cell HT.out.a rfl
          have b0 : w6.cell? ⟨w.heap.size + 1, 0, none⟩ = some (.string p.p.name) := heap_cell HT.out.b rfl
          have b1 : w6.cell? ⟨w.heap.size + 1, 1, none⟩ = some (.int .i64 p.p.weight) := heap_cell HT.out.b rfl
          have b2 : w6.cell? ⟨w.heap.size + 1, 2, none⟩ = some (.slice p.va p.p.vars.length p.vc) := heap_cell HT.out.b rfl
          have b3 : w6.cell? ⟨w.heap.size + 1, 3, none⟩ = some (.slice p.sa p.p.steps.length p.sc) := heap_cell HT.out.b rfl
          have c0 : w6.cell? ⟨w.heap.size + 1 + 1, 0, none⟩ = some (.int .i64 s.kind) := heap_cell HT.out.c rfl
          have c1 : w6.cell? ⟨w.heap.size + 1 + 1, 1, none⟩ = some (.string s.name) := heap_cell HT.out.c rfl
          have c2 : w6.cell? ⟨w.heap.size + 1 + 1, 2, none⟩ = some (.int .i64 s.ak) := heap_cell HT.out.c rfl
          have c3 : w6.cell? ⟨w.heap.size + 1 + 1, 3, none⟩ = some (.int .i64 s.an) := heap_cell HT.out.c rfl
          have c4 : w6.cell? ⟨w.heap.size + 1 + 1, 4, none⟩ = some (.string s.aname) := heap_cell HT.out.c rfl
          go_wp2_with fail
          refine (rarg_any (HP.out.on HT.out.low) s ⟨hk3, hk4⟩).mono ?_
          rintro e wz ⟨rfl, hbz⟩
          have HTz := Lib.hid (HT.out.low.trans (hbz.mono HT.out.low.size))
          clear hbz
          clear a0 a1 a2 a3 b0 b1 b2 b3 c0 c1 c2 c3 c4
          go_wp2
          go_ret
          exact ⟨by first | (rw [hr]; rfl) | rfl | rw [hr], HTz.out⟩
        | false =>
          have hne : (l.frm.toList != p.p.name.toList) = true := by simp only [bne, he]; rfl
          have hr : stE x.links p.p.name (fstP (vNames p.p)) s = 47 := by rw [HSt.out, HTg.out, he]; rfl
          go_upto_region 7 with fail
          go_quiet (fail)
          go_wp2
          go_ret
          exact ⟨by first | (rw [hr]; rfl) | rfl | rw [hr], HT.out.low.trans (below_dNB _ _ nq)⟩
    · have h4b : (s.kind == 4) = false := by simpa using h4
      have h4n : (s.kind != 4) = true := by simpa using h4
      have htg : tgtE x.links p.p.name (fstP (vNames p.p)) s = thereE (fstP (vNames p.p)) s.name := by
        unfold tgtE
        rw [h4n, if_pos rfl]
      go_wp2_with fail
      refine (rvar_any (HP.out.on HT.out.low) s.name).mono ?_
      clear a0 a1 a2 a3 b0 b1 b2 b3 c0 c1 c2 c3 c4
      rintro e w5 ⟨rfl, hb⟩
      replace HT := Lib.hid (HT.out.on hb)
      clear hb
      cases hf : fstP (vNames p.p) s.name with
      | none =>
        have hr : stE x.links p.p.name (fstP (vNames p.p)) s = 4 := by
          have : tgtE x.links p.p.name (fstP (vNames p.p)) s = 4 := by
            rw [htg]
            unfold thereE
            rw [hf]
            rfl
          rw [HSt.out, this, if_neg (by decide)]
        rw [plc_no hf]
        go_wp2
        go_ret
        exact ⟨by first | (rw [hr]; rfl) | rfl | rw [hr], HT.out.low⟩
      | some i =>
        have hr : stE x.links p.p.name (fstP (vNames p.p)) s = argE (fstP (vNames p.p)) s := by
          have : tgtE x.links p.p.name (fstP (vNames p.p)) s = 0 := by
            rw [htg]
            unfold thereE
            rw [hf]
            rfl
          rw [HSt.out, this, if_pos rfl]
        rw [plc_yes hf]
        have hi0 : (0 : Int) ≤ (i : Int) := Int.natCast_nonneg i
        have hin : ¬ ((i : Int) < 0) := by omega
        have a0 : w5.cell? ⟨w.heap.size, 0, none⟩ = some (.int .i64 x.ver) := heap_cell HT.out.a rfl
        have a1 : w5.cell? ⟨w.heap.size, 1, none⟩ = some (.slice x.pa x.procs.length x.pc) := heap_cell HT.out.a rfl
        have a2 : w5.cell? ⟨w.heap.size, 2, none⟩ = some (.slice x.la x.links.length x.lc) := heap_cell HT.out.a rfl
        have a3 : w5.cell? ⟨w.heap.size, 3, none⟩ = some (.slice x.ea x.events.length x.ec) := heap_cell HT.out.a rfl
        have b0 : w5.cell? ⟨w.heap.size + 1, 0, none⟩ = some (.string p.p.name) := heap_cell HT.out.b rfl
        have b1 : w5.cell? ⟨w.heap.size + 1, 1, none⟩ = some (.int .i64 p.p.weight) := heap_cell HT.out.b rfl
        have b2 : w5.cell? ⟨w.heap.size + 1, 2, none⟩ = some (.slice p.va p.p.vars.length p.vc) := heap_cell HT.out.b rfl
        have b3 : w5.cell? ⟨w.heap.size + 1, 3, none⟩ = some (.slice p.sa p.p.steps.length p.sc) := heap_cell HT.out.b rfl
        have c0 : w5.cell? ⟨w.heap.size + 1 + 1, 0, none⟩ = some (.int .i64 s.kind) := heap_cell HT.out.c rfl
        have c1 : w5.cell? ⟨w.heap.size + 1 + 1, 1, none⟩ = some (.string s.name) := heap_cell HT.out.c rfl
        have c2 : w5.cell? ⟨w.heap.size + 1 + 1, 2, none⟩ = some (.int .i64 s.ak) := heap_cell HT.out.c rfl
        have c3 : w5.cell? ⟨w.heap.size + 1 + 1, 3, none⟩ = some (.int .i64 s.an) := heap_cell HT.out.c rfl
        have c4 : w5.cell? ⟨w.heap.size + 1 + 1, 4, none⟩ = some (.string s.aname) := heap_cell HT.out.c rfl
        go_wp2_with fail
        refine (rarg_any (HP.out.on HT.out.low) s ⟨hk3, hk4⟩).mono ?_
        rintro e wz ⟨rfl, hbz⟩
        have HTz := Lib.hid (HT.out.low.trans (hbz.mono HT.out.low.size))
        clear hbz
        clear a0 a1 a2 a3 b0 b1 b2 b3 c0 c1 c2 c3 c4
        go_wp2
        go_ret
        exact ⟨by first | (rw [hr]; rfl) | rfl | rw [hr], HTz.out⟩
  · have hr : stE x.links p.p.name (fstP (vNames p.p)) s = 21 := by
      unfold stE
      rw [if_pos (by simp; omega)]
    by_cases g1 : s.kind < 1
    · go_wp2
      go_ret
      exact ⟨by first | (rw [hr]; rfl) | rfl | rw [hr], HT.out.low⟩
    · by_cases g2 : 4 < s.kind
      · go_wp2
        go_ret
        exact ⟨by first | (rw [hr]; rfl) | rfl | rw [hr], HT.out.low⟩
      · by_cases g3 : s.ak < 0
        · go_wp2
          go_ret
          exact ⟨by first | (rw [hr]; rfl) | rfl | rw [hr], HT.out.low⟩
        · have g4 : 2 < s.ak := by omega
          go_wp2
          go_ret
          exact ⟨by first | (rw [hr]; rfl) | rfl | rw [hr], HT.out.low⟩
end Go.Proofs.Ytgnlehenbdcgmaa.Md
