/- Contracts: are a model's parts few? -/
import Derived.Test.YtgnlehenbdcgmaaMdU
import Derived.Test.YtgnlehenbdcgmaaMdN
set_option linter.unusedVariables false
set_option linter.unusedSectionVars false
set_option linter.unusedSimpArgs false
namespace Go.Proofs.Ytgnlehenbdcgmaa.Md
open Go.RowKit Go.Shelf

def fewP (p : ProcM) : Bool := decide (p.vars.length ≤ 70) && decide (p.steps.length ≤ 300)
def fewB (m : ModelM) : Bool := decide (m.procs.length ≤ 12) && decide (m.links.length ≤ 24) && decide (m.events.length ≤ 24) && m.procs.all fewP && (mdN m).all (fun s => decide (s.size ≤ 80))
theorem few_len : ∀ L : List ProcM, L.all fewP = true → (L.flatMap prN).length ≤ 71 * L.length
  | [], _ => by simp
  | p :: L, h => by
    rw [List.all_cons, Bool.and_eq_true] at h
    have ih := few_len L h.2
    have h1 : p.vars.length ≤ 70 := by
      have := h.1
      unfold fewP at this
      simp at this
      exact this.1
    rw [List.flatMap_cons, List.length_append, List.length_cons]
    have h2 : (prN p).length = p.vars.length + 1 := by unfold prN vNames; simp
    omega
set_option maxRecDepth 100000 in
set_option maxHeartbeats 4000000 in
theorem few_any {w : World} {x : ModelV} (h : ModelAt w.heap.size w x) : Calls Try.prog 10 #[.agg #[.int .i64 x.ver, .slice x.pa x.procs.length x.pc, .slice x.la x.links.length x.lc, .slice x.ea x.events.length x.ec]] w fun e w' => e = .returned (.bool (fewB x.m)) ∧ Below w.heap.size w w' := by
  have HM := Lib.hid h
  have HX : Hid ((w.alloc (.cells #[.int .i64 x.ver, .slice x.pa x.procs.length x.pc, .slice x.la x.links.length x.lc, .slice x.ea x.events.length x.ec] 26)).heap[w.heap.size]? = some (.cells #[.int .i64 x.ver, .slice x.pa x.procs.length x.pc, .slice x.la x.links.length x.lc, .slice x.ea x.events.length x.ec] 26 (0, 0))) := Lib.hid (heap_new _ rfl)
  have HB := Lib.hid (below_one w (.cells #[.int .i64 x.ver, .slice x.pa x.procs.length x.pc, .slice x.la x.links.length x.lc, .slice x.ea x.events.length x.ec] 26))
  have hF : fewB x.m = (decide (x.procs.length ≤ 12) && decide (x.links.length ≤ 24) && decide (x.events.length ≤ 24) && x.m.procs.all fewP && (mdN x.m).all (fun s => decide (s.size ≤ 80))) := by unfold fewB ModelV.m; simp only [List.length_map]
  have HF := Lib.hid hF
  have HMl : Hid ((mdN x.m).length = (x.m.procs.flatMap prN).length + x.links.length ∧ x.m.procs.length = x.procs.length) := Lib.hid ⟨by unfold mdN nmsL ModelV.m; simp, by unfold ModelV.m; simp⟩
  obtain ⟨R, hR⟩ : ∃ R, fewB x.m = R := ⟨_, rfl⟩
  rw [hR] at HF ⊢
  clear h hF hR
  have hc1 : (w.alloc (.cells #[.int .i64 x.ver, .slice x.pa x.procs.length x.pc, .slice x.la x.links.length x.lc, .slice x.ea x.events.length x.ec] 26)).cell? ⟨w.heap.size, 1, none⟩ = some (.slice x.pa x.procs.length x.pc) := heap_cell HX.out rfl
  have hc2 : (w.alloc (.cells #[.int .i64 x.ver, .slice x.pa x.procs.length x.pc, .slice x.la x.links.length x.lc, .slice x.ea x.events.length x.ec] 26)).cell? ⟨w.heap.size, 2, none⟩ = some (.slice x.la x.links.length x.lc) := heap_cell HX.out rfl
  have hc3 : (w.alloc (.cells #[.int .i64 x.ver, .slice x.pa x.procs.length x.pc, .slice x.la x.links.length x.lc, .slice x.ea x.events.length x.ec] 26)).cell? ⟨w.heap.size, 3, none⟩ = some (.slice x.ea x.events.length x.ec) := heap_cell HX.out rfl
  go_enter Try.func10, Try.ntmps10
  by_cases h1 : 12 < x.procs.length
  · have h1i : (12 : Int) < (x.procs.length : Int) := by omega
    have hr : R = false := by rw [HF.out, show decide (x.procs.length ≤ 12) = false by simp; omega]; rfl
    subst hr
    go_wp2
    go_ret
    exact ⟨rfl, HB.out⟩
  · by_cases h2 : 24 < x.links.length
    · have h1i : ¬ (12 : Int) < (x.procs.length : Int) := by omega
      have h2i : (24 : Int) < (x.links.length : Int) := by omega
      have hr : R = false := by rw [HF.out, show decide (x.links.length ≤ 24) = false by simp; omega]; simp
      subst hr
      go_wp2
      go_ret
      exact ⟨rfl, HB.out⟩
    · by_cases h3 : 24 < x.events.length
      · have h1i : ¬ (12 : Int) < (x.procs.length : Int) := by omega
        have h2i : ¬ (24 : Int) < (x.links.length : Int) := by omega
        have h3i : (24 : Int) < (x.events.length : Int) := by omega
        have hr : R = false := by rw [HF.out, show decide (x.events.length ≤ 24) = false by simp; omega]; simp
        subst hr
        go_wp2
        go_ret
        exact ⟨rfl, HB.out⟩
      · have h1i : ¬ (12 : Int) < (x.procs.length : Int) := by omega
        have h2i : ¬ (24 : Int) < (x.links.length : Int) := by omega
        have h3i : ¬ (24 : Int) < (x.events.length : Int) := by omega
        have HF2 : Hid (R = (x.m.procs.all fewP && (mdN x.m).all (fun s => decide (s.size ≤ 80)))) := Lib.hid (by rw [HF.out, show decide (x.procs.length ≤ 12) = true by simp; omega, show decide (x.links.length ≤ 24) = true by simp; omega, show decide (x.events.length ≤ 24) = true by simp; omega]; simp)
        clear HF
        go_wp2
        clear hc1 hc2 hc3
        generalize w.alloc (.cells #[.int .i64 x.ver, .slice x.pa x.procs.length x.pc, .slice x.la x.links.length x.lc, .slice x.ea x.events.length x.ec] 26) = w1 at *
        have hc1 : w1.cell? ⟨w.heap.size, 1, none⟩ = some (.slice x.pa x.procs.length x.pc) := heap_cell HX.out rfl
        go_loopw [3] (fun i wr => wr = w1 ∧ ∃ j : Nat, i = .int .i64 (j : Int) ∧ j ≤ x.procs.length ∧ Hid ((x.m.procs.take j).all fewP = true)) (fun i _ => x.procs.length - (intOf i).toNat)
        case atStart => exact ⟨rfl, 0, rfl, Nat.zero_le _, Lib.hid rfl⟩
        case round =>
          obtain ⟨rfl, j, rfl, hj, HA⟩ := hrel
          have hj0 : (0 : Int) ≤ (j : Int) := Int.natCast_nonneg j
          by_cases hlt : j < x.procs.length
          · have hI := (HM.out.procs.kept HB.out (Nat.le_refl _))
            have ha := hI.addr.resolve_left (by omega)
            have hx : x.procs[j]? = some (x.procs[j]'hlt) := List.getElem?_eq_getElem _
            obtain ⟨p, hp⟩ : ∃ p, x.procs[j]'hlt = p := ⟨_, rfl⟩
            rw [hp] at hx
            have c2 : wr.cell? ⟨x.pb, x.po + j * 4 + 2, none⟩ = some (.slice p.va p.p.vars.length p.vc) := hI.cell j p hx 2 _ rfl
            have c3 : wr.cell? ⟨x.pb, x.po + j * 4 + 3, none⟩ = some (.slice p.sa p.p.steps.length p.sc) := hI.cell j p hx 3 _ rfl
            have hji : (j : Int) < (x.procs.length : Int) := by omega
            rw [ha] at hc1
            have HT : Hid ((x.m.procs.take (j + 1)).all fewP = fewP p.p) := Lib.hid (by
              have hm : x.m.procs[j]? = some p.p := by unfold ModelV.m; rw [List.getElem?_map, hx]; rfl
              obtain ⟨g1, g2⟩ := List.getElem?_eq_some_iff.1 hm
              rw [List.take_succ_eq_append_getElem g1, List.all_append, HA.out, g2]
              simp)
            clear hp hI hx ha
            have hno : fewP p.p = false → R = false := fun hf => by
              rw [HF2.out]
              have : x.m.procs.all fewP = false := by
                have e1 := HT.out
                rw [hf] at e1
                rw [← List.take_append_drop (j + 1) x.m.procs, List.all_append, e1]
                rfl
              rw [this]
              rfl
            have HNo := Lib.hid hno
            clear hno
            by_cases h4 : 70 < p.p.vars.length
            · have h4i : (70 : Int) < (p.p.vars.length : Int) := by omega
              have hr : R = false := HNo.out (by unfold fewP; rw [show decide (p.p.vars.length ≤ 70) = false by simp; omega]; rfl)
              subst hr
              go_wp2
              go_ret
              exact ⟨rfl, HB.out⟩
            · have h4i : ¬ (70 : Int) < (p.p.vars.length : Int) := by omega
              by_cases h5 : 300 < p.p.steps.length
              · have h5i : (300 : Int) < (p.p.steps.length : Int) := by omega
                have hr : R = false := HNo.out (by unfold fewP; rw [show decide (p.p.steps.length ≤ 300) = false by simp; omega]; simp)
                subst hr
                go_wp2
                go_ret
                exact ⟨rfl, HB.out⟩
              · have h5i : ¬ (300 : Int) < (p.p.steps.length : Int) := by omega
                have hyes : fewP p.p = true := by unfold fewP; simp; omega
                go_wp2
                refine ⟨⟨trivial, j + 1, by simp, by omega, Lib.hid (by rw [HT.out]; exact hyes)⟩, ?_⟩
                unfold intOf
                simp
                omega
          · obtain rfl : j = x.procs.length := by omega
            have hall : x.m.procs.all fewP = true := by
              have := HA.out
              rwa [List.take_of_length_le (by rw [HMl.out.2]; omega)] at this
            have hlen : (mdN x.m).length ≤ 1000000 := by
              have := few_len _ hall
              rw [HMl.out.1]
              rw [HMl.out.2] at this
              omega
            have HF3 : Hid (R = (mdN x.m).all (fun s => decide (s.size ≤ 80))) := Lib.hid (by rw [HF2.out, hall]; simp)
            have HN := Lib.hid (rnames_any (HM.out.on HB.out) hlen)
            have HLn := Lib.hid hlen
            clear HF2 hall hlen HA
            have hc0 : wr.cell? ⟨w.heap.size, 0, none⟩ = some (.int .i64 x.ver) := heap_cell HX.out rfl
            have hc2 : wr.cell? ⟨w.heap.size, 2, none⟩ = some (.slice x.la x.links.length x.lc) := heap_cell HX.out rfl
            have hc3 : wr.cell? ⟨w.heap.size, 3, none⟩ = some (.slice x.ea x.events.length x.ec) := heap_cell HX.out rfl
            go_wp2_with fail
            refine HN.out.mono ?_
            rintro e w2 ⟨hb2, v, rfl, hg⟩
            have HB2 := Lib.hid (HB.out.trans (hb2.mono HB.out.size))
            obtain ⟨a, c, g, rfl, hga, hgb, hgc⟩ := names_row hg
            have HGc := Lib.hid hgc
            clear HN hb2 hg hgc hc0 hc1 hc2 hc3 hgb HX HB HM HMl
            generalize mdN x.m = L at *
            have hL := HLn.out
            go_wp2
            go_loopw [5] (fun i wr => wr = w2 ∧ ∃ j : Nat, i = .int .i64 (j : Int) ∧ j ≤ L.length ∧ Hid ((L.take j).all (fun s => decide (s.size ≤ 80)) = true)) (fun i _ => L.length - (intOf i).toNat)
            case atStart => exact ⟨rfl, 0, rfl, Nat.zero_le _, Lib.hid rfl⟩
            case round =>
              obtain ⟨rfl, j, rfl, hj, HA⟩ := hrel
              have hj0 : (0 : Int) ≤ (j : Int) := Int.natCast_nonneg j
              by_cases hlt : j < L.length
              · have ha := hga.resolve_left (by omega)
                subst ha
                have hx : L[j]? = some (L[j]'hlt) := List.getElem?_eq_getElem _
                obtain ⟨y, hy⟩ : ∃ y, L[j]'hlt = y := ⟨_, rfl⟩
                rw [hy] at hx
                have c0 := HGc.out j y hx
                have hji : (j : Int) < (L.length : Int) := by omega
                have HT : Hid ((L.take (j + 1)).all (fun s => decide (s.size ≤ 80)) = decide (y.size ≤ 80)) := Lib.hid (by
                  rw [List.take_succ_eq_append_getElem hlt, List.all_append, HA.out, hy]
                  simp)
                clear hx hy
                by_cases h4 : 80 < y.size
                · have h4i : (80 : Int) < (y.size : Int) := by omega
                  have hr : R = false := by
                    have e1 := HT.out
                    rw [show decide (y.size ≤ 80) = false by simp; omega] at e1
                    rw [HF3.out, ← List.take_append_drop (j + 1) L, List.all_append, e1]
                    rfl
                  subst hr
                  go_wp2
                  go_ret
                  exact ⟨rfl, HB2.out⟩
                · have h4i : ¬ (80 : Int) < (y.size : Int) := by omega
                  go_wp2
                  refine ⟨⟨trivial, j + 1, by simp, by omega, Lib.hid (by rw [HT.out]; simp; omega)⟩, ?_⟩
                  unfold intOf
                  simp
                  omega
              · obtain rfl : j = L.length := by omega
                have hr : R = true := by
                  rw [HF3.out]
                  have := HA.out
                  rwa [List.take_length] at this
                subst hr
                go_wp2
                go_ret
                exact ⟨rfl, HB2.out⟩
end Go.Proofs.Ytgnlehenbdcgmaa.Md
