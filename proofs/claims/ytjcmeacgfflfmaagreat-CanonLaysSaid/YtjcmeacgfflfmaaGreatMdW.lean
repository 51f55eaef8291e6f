/- Contracts: are a model's parts few? Plain: when a model is right; rows that were gathered. -/
import Derived.Test.YtjcmeacgfflfmaaGreatMdU
import Derived.Test.YtjcmeacgfflfmaaGreatRt
import Derived.Test.YtjcmeacgfflfmaaGreatEa
import Derived.Test.YtjcmeacgfflfmaaGreatMrw
set_option linter.unusedVariables false
set_option linter.unusedSectionVars false
set_option linter.unusedSimpArgs false
namespace Go.Proofs.YtjcmeacgfflfmaaGreat.Md
open Go.RowKit Go.Shelf

def fewP (p : ProcM) : Bool := decide (p.vars.length ≤ 70) && decide (p.steps.length ≤ 300)
def fewB (m : ModelM) : Bool := decide (m.procs.length ≤ 12) && decide (m.links.length ≤ 24) && decide (m.events.length ≤ 24) && m.procs.all fewP && (mdN m).all (fun s => decide (s.size ≤ 80))
theorem few_len : ∀ L : List ProcM, L.all fewP = true → (L.flatMap prN).length ≤ 71 * L.length
  | [], _ => by simp
  | p :: L, h => by
    rw [List.all_cons, Bool.and_eq_true] at h
    have ih := few_len L h.2
    have h1 : p.vars.length ≤ 70 := by
      have := h.1
      unfold fewP at this
      simp at this
      exact this.1
    rw [List.flatMap_cons, List.length_append, List.length_cons]
    have h2 : (prN p).length = p.vars.length + 1 := by unfold prN vNames; simp
    omega
set_option maxRecDepth 100000 in
set_option maxHeartbeats 4000000 in
theorem few_any {w : World} {x : ModelV} (h : ModelAt w.heap.size w x) : Calls Tryz.prog 10 #[.agg #[.int .i64 x.ver, .slice x.pa x.procs.length x.pc, .slice x.la x.links.length x.lc, .slice x.ea x.events.length x.ec]] w fun e w' => e = .returned (.bool (fewB x.m)) ∧ Below w.heap.size w w' := by
  have HM := Lib.hid h
  have HX : Hid ((w.alloc (.cells #[.int .i64 x.ver, .slice x.pa x.procs.length x.pc, .slice x.la x.links.length x.lc, .slice x.ea x.events.length x.ec] 26)).heap[w.heap.size]? = some (.cells #[.int .i64 x.ver, .slice x.pa x.procs.length x.pc, .slice x.la x.links.length x.lc, .slice x.ea x.events.length x.ec] 26 (0, 0))) := Lib.hid (heap_new _ rfl)
  have HB := Lib.hid (below_one w (.cells #[.int .i64 x.ver, .slice x.pa x.procs.length x.pc, .slice x.la x.links.length x.lc, .slice x.ea x.events.length x.ec] 26))
  have hF : fewB x.m = (decide (x.procs.length ≤ 12) && decide (x.links.length ≤ 24) && decide (x.events.length ≤ 24) && x.m.procs.all fewP && (mdN x.m).all (fun s => decide (s.size ≤ 80))) := by unfold fewB ModelV.m; simp only [List.length_map]
  have HF := Lib.hid hF
  have HMl : Hid ((mdN x.m).length = (x.m.procs.flatMap prN).length + x.links.length ∧ x.m.procs.length = x.procs.length) := Lib.hid ⟨by unfold mdN nmsL ModelV.m; simp, by unfold ModelV.m; simp⟩
  obtain ⟨R, hR⟩ : ∃ R, fewB x.m = R := ⟨_, rfl⟩
  rw [hR] at HF ⊢
  clear h hF hR
  have hc1 : (w.alloc (.cells #[.int .i64 x.ver, .slice x.pa x.procs.length x.pc, .slice x.la x.links.length x.lc, .slice x.ea x.events.length x.ec] 26)).cell? ⟨w.heap.size, 1, none⟩ = some (.slice x.pa x.procs.length x.pc) := heap_cell HX.out rfl
  have hc2 : (w.alloc (.cells #[.int .i64 x.ver, .slice x.pa x.procs.length x.pc, .slice x.la x.links.length x.lc, .slice x.ea x.events.length x.ec] 26)).cell? ⟨w.heap.size, 2, none⟩ = some (.slice x.la x.links.length x.lc) := heap_cell HX.out rfl
  have hc3 : (w.alloc (.cells #[.int .i64 x.ver, .slice x.pa x.procs.length x.pc, .slice x.la x.links.length x.lc, .slice x.ea x.events.length x.ec] 26)).cell? ⟨w.heap.size, 3, none⟩ = some (.slice x.ea x.events.length x.ec) := heap_cell HX.out rfl
  go_enter Tryz.func10, Tryz.ntmps10
  by_cases h1 : 12 < x.procs.length
  · have h1i : (12 : Int) < (x.procs.length : Int) := by omega
    have hr : R = false := by rw [HF.out, show decide (x.procs.length ≤ 12) = false by simp; omega]; rfl
    subst hr
    go_wp2
    go_ret
    exact ⟨rfl, HB.out⟩
  · by_cases h2 : 24 < x.links.length
    · have h1i : ¬ (12 : Int) < (x.procs.length : Int) := by omega
      have h2i : (24 : Int) < (x.links.length : Int) := by omega
      have hr : R = false := by rw [HF.out, show decide (x.links.length ≤ 24) = false by simp; omega]; simp
      subst hr
      go_wp2
      go_ret
      exact ⟨rfl, HB.out⟩
    · by_cases h3 : 24 < x.events.length
      · have h1i : ¬ (12 : Int) < (x.procs.length : Int) := by omega
        have h2i : ¬ (24 : Int) < (x.links.length : Int) := by omega
        have h3i : (24 : Int) < (x.events.length : Int) := by omega
        have hr : R = false := by rw [HF.out, show decide (x.events.length ≤ 24) = false by simp; omega]; simp
        subst hr
        go_wp2
        go_ret
        exact ⟨rfl, HB.out⟩
      · have h1i : ¬ (12 : Int) < (x.procs.length : Int) := by omega
        have h2i : ¬ (24 : Int) < (x.links.length : Int) := by omega
        have h3i : ¬ (24 : Int) < (x.events.length : Int) := by omega
        have HF2 : Hid (R = (x.m.procs.all fewP && (mdN x.m).all (fun s => decide (s.size ≤ 80)))) := Lib.hid (by rw [HF.out, show decide (x.procs.length ≤ 12) = true by simp; omega, show decide (x.links.length ≤ 24) = true by simp; omega, show decide (x.events.length ≤ 24) = true by simp; omega]; simp)
        clear HF
        go_wp2
        clear hc1 hc2 hc3
        generalize w.alloc (.cells #[.int .i64 x.ver, .slice x.pa x.procs.length x.pc, .slice x.la x.links.length x.lc, .slice x.ea x.events.length x.ec] 26) = w1 at *
        have hc1 : w1.cell? ⟨w.heap.size, 1, none⟩ = some (.slice x.pa x.procs.length x.pc) := heap_cell HX.out rfl
        go_loopw [3] (fun i wr => wr = w1 ∧ ∃ j : Nat, i = .int .i64 (j : Int) ∧ j ≤ x.procs.length ∧ Hid ((x.m.procs.take j).all fewP = true)) (fun i _ => x.procs.length - (intOf i).toNat)
        case atStart => exact ⟨rfl, 0, rfl, Nat.zero_le _, Lib.hid rfl⟩
        case round =>
          obtain ⟨rfl, j, rfl, hj, HA⟩ := hrel
          have hj0 : (0 : Int) ≤ (j : Int) := Int.natCast_nonneg j
          by_cases hlt : j < x.procs.length
          · have hI := (HM.out.procs.kept HB.out (Nat.le_refl _))
            have ha := hI.addr.resolve_left (by omega)
            have hx : x.procs[j]? = some (x.procs[j]'hlt) := List.getElem?_eq_getElem _
            obtain ⟨p, hp⟩ : ∃ p, x.procs[j]'hlt = p := ⟨_, rfl⟩
            rw [hp] at hx
            have c2 : wr.cell? ⟨x.pb, x.po + j * 4 + 2, none⟩ = some (.slice p.va p.p.vars.length p.vc) := hI.cell j p hx 2 _ rfl
            have c3 : wr.cell? ⟨x.pb, x.po + j * 4 + 3, none⟩ = some (.slice p.sa p.p.steps.length p.sc) := hI.cell j p hx 3 _ rfl
            have hji : (j : Int) < (x.procs.length : Int) := by omega
            rw [ha] at hc1
            have HT : Hid ((x.m.procs.take (j + 1)).all fewP = fewP p.p) := Lib.hid (by
              have hm : x.m.procs[j]? = some p.p := by unfold ModelV.m; rw [List.getElem?_map, hx]; rfl
              obtain ⟨g1, g2⟩ := List.getElem?_eq_some_iff.1 hm
              rw [List.take_succ_eq_append_getElem g1, List.all_append, HA.out, g2]
              simp)
            clear hp hI hx ha
            have hno : fewP p.p = false → R = false := fun hf => by
              rw [HF2.out]
              have : x.m.procs.all fewP = false := by
                have e1 := HT.out
                rw [hf] at e1
                rw [← List.take_append_drop (j + 1) x.m.procs, List.all_append, e1]
                rfl
              rw [this]
              rfl
            have HNo := Lib.hid hno
            clear hno
            by_cases h4 : 70 < p.p.vars.length
            · have h4i : (70 : Int) < (p.p.vars.length : Int) := by omega
              have hr : R = false := HNo.out (by unfold fewP; rw [show decide (p.p.vars.length ≤ 70) = false by simp; omega]; rfl)
              subst hr
              go_wp2
              go_ret
              exact ⟨rfl, HB.out⟩
            · have h4i : ¬ (70 : Int) < (p.p.vars.length : Int) := by omega
              by_cases h5 : 300 < p.p.steps.length
              · have h5i : (300 : Int) < (p.p.steps.length : Int) := by omega
                have hr : R = false := HNo.out (by unfold fewP; rw [show decide (p.p.steps.length ≤ 300) = false by simp; omega]; simp)
                subst hr
                go_wp2
                go_ret
                exact ⟨rfl, HB.out⟩
              · have h5i : ¬ (300 : Int) < (p.p.steps.length : Int) := by omega
                have hyes : fewP p.p = true := by unfold fewP; simp; omega
                go_wp2
                refine ⟨⟨trivial, j + 1, by simp, by omega, Lib.hid (by rw [HT.out]; exact hyes)⟩, ?_⟩
                unfold intOf
                simp
                omega
          · obtain rfl : j = x.procs.length := by omega
            have hall : x.m.procs.all fewP = true := by
              have := HA.out
              rwa [List.take_of_length_le (by rw [HMl.out.2]; omega)] at this
            have hlen : (mdN x.m).length ≤ 1000000 := by
              have := few_len _ hall
              rw [HMl.out.1]
              rw [HMl.out.2] at this
              omega
            have HF3 : Hid (R = (mdN x.m).all (fun s => decide (s.size ≤ 80))) := Lib.hid (by rw [HF2.out, hall]; simp)
            have HN := Lib.hid (rnames_any (HM.out.on HB.out) hlen)
            have HLn := Lib.hid hlen
            clear HF2 hall hlen HA
            have hc0 : wr.cell? ⟨w.heap.size, 0, none⟩ = some (.int .i64 x.ver) := heap_cell HX.out rfl
            have hc2 : wr.cell? ⟨w.heap.size, 2, none⟩ = some (.slice x.la x.links.length x.lc) := heap_cell HX.out rfl
            have hc3 : wr.cell? ⟨w.heap.size, 3, none⟩ = some (.slice x.ea x.events.length x.ec) := heap_cell HX.out rfl
            go_wp2_with fail
            refine HN.out.mono ?_
            rintro e w2 ⟨hb2, v, rfl, hg⟩
            have HB2 := Lib.hid (HB.out.trans (hb2.mono HB.out.size))
            obtain ⟨a, c, g, rfl, hga, hgb, hgc⟩ := names_row hg
            have HGc := Lib.hid hgc
            clear HN hb2 hg hgc hc0 hc1 hc2 hc3 hgb HX HB HM HMl
            generalize mdN x.m = L at *
            have hL := HLn.out
            go_wp2
            go_loopw [5] (fun i wr => wr = w2 ∧ ∃ j : Nat, i = .int .i64 (j : Int) ∧ j ≤ L.length ∧ Hid ((L.take j).all (fun s => decide (s.size ≤ 80)) = true)) (fun i _ => L.length - (intOf i).toNat)
            case atStart => exact ⟨rfl, 0, rfl, Nat.zero_le _, Lib.hid rfl⟩
            case round =>
              obtain ⟨rfl, j, rfl, hj, HA⟩ := hrel
              have hj0 : (0 : Int) ≤ (j : Int) := Int.natCast_nonneg j
              by_cases hlt : j < L.length
              · have ha := hga.resolve_left (by omega)
                subst ha
                have hx : L[j]? = some (L[j]'hlt) := List.getElem?_eq_getElem _
                obtain ⟨y, hy⟩ : ∃ y, L[j]'hlt = y := ⟨_, rfl⟩
                rw [hy] at hx
                have c0 := HGc.out j y hx
                have hji : (j : Int) < (L.length : Int) := by omega
                have HT : Hid ((L.take (j + 1)).all (fun s => decide (s.size ≤ 80)) = decide (y.size ≤ 80)) := Lib.hid (by
                  rw [List.take_succ_eq_append_getElem hlt, List.all_append, HA.out, hy]
                  simp)
                clear hx hy
                by_cases h4 : 80 < y.size
                · have h4i : (80 : Int) < (y.size : Int) := by omega
                  have hr : R = false := by
                    have e1 := HT.out
                    rw [show decide (y.size ≤ 80) = false by simp; omega] at e1
                    rw [HF3.out, ← List.take_append_drop (j + 1) L, List.all_append, e1]
                    rfl
                  subst hr
                  go_wp2
                  go_ret
                  exact ⟨rfl, HB2.out⟩
                · have h4i : ¬ (80 : Int) < (y.size : Int) := by omega
                  go_wp2
                  refine ⟨⟨trivial, j + 1, by simp, by omega, Lib.hid (by rw [HT.out]; simp; omega)⟩, ?_⟩
                  unfold intOf
                  simp
                  omega
              · obtain rfl : j = L.length := by omega
                have hr : R = true := by
                  rw [HF3.out]
                  have := HA.out
                  rwa [List.take_length] at this
                subst hr
                go_wp2
                go_ret
                exact ⟨rfl, HB2.out⟩
end Go.Proofs.YtjcmeacgfflfmaaGreat.Md

namespace Go.Proofs.YtjcmeacgfflfmaaGreat.Md
open Go.RowKit Go.Shelf

theorem fErr_zero {α : Type} (E : Nat → α → Int) : ∀ (L : List α) (k : Nat), (fErr E k L).1 = 0 ↔ ∀ i x, L[i]? = some x → E (k + i) x = 0
  | [], k => by simp [fErr]
  | y :: r, k => by
    have ih := fErr_zero E r (k + 1)
    unfold fErr
    constructor
    · intro h
      by_cases h0 : E k y = 0
      · rw [if_neg (by simpa using h0)] at h
        intro i x hi
        cases i with
        | zero => simp at hi; subst hi; exact h0
        | succ i =>
          have := ih.1 h i x (by simpa using hi)
          rwa [show k + 1 + i = k + (i + 1) by omega] at this
      · rw [if_pos (by simpa using h0)] at h
        exact absurd h h0
    · intro h
      have h0 := h 0 y rfl
      rw [Nat.add_zero] at h0
      rw [if_neg (by simpa using h0)]
      refine ih.2 fun i x hi => ?_
      have := h (i + 1) x (by simpa using hi)
      rwa [show k + (i + 1) = k + 1 + i by omega] at this
/-- A model that is right. -/
structure Right (m : ModelM) : Prop where
  ver : 1 ≤ m.ver ∧ m.ver ≤ 3
  few : m.procs.length ≤ 4096 ∧ m.links.length ≤ 16384 ∧ m.events.length ≤ 16384
  procs : ∀ (i : Nat) (x : ProcM), m.procs[i]? = some x → prE m.ver m.links (fstP (nmsP m)) i x = 0
  links : ∀ (i : Nat) (x : LinkM), m.links[i]? = some x → lnE m.ver (fstP (nmsP m)) (fstP (nmsL m)) i x = 0
  events : ∀ (i : Nat) (x : EventM), m.events[i]? = some x → evE (fstP (nmsP m)) x = 0
theorem right_zero {m : ModelM} (h : Right m) : mdE m = (0, 0) := by
  unfold mdE
  have h1 : (fErr (prE m.ver m.links (fstP (nmsP m))) 0 m.procs).1 = 0 := (fErr_zero _ _ _).2 fun i x hi => by rw [Nat.zero_add]; exact h.procs i x hi
  have h2 : (fErr (lnE m.ver (fstP (nmsP m)) (fstP (nmsL m))) 0 m.links).1 = 0 := (fErr_zero _ _ _).2 fun i x hi => by rw [Nat.zero_add]; exact h.links i x hi
  have h3 : (fErr (fun _ e => evE (fstP (nmsP m)) e) 0 m.events).1 = 0 := (fErr_zero _ _ _).2 fun i x hi => h.events i x hi
  have e1 : erP m = (0, 0) := by unfold erP fltP; rw [h1, if_pos rfl]
  have e2 : erL m = (0, 0) := by unfold erL fltP; rw [h2, if_pos rfl]
  have e3 : erE m = (0, 0) := by unfold erE fltP; rw [h3, if_pos rfl]
  have g1 := h.ver
  have g2 := h.few
  rw [if_neg (by simp; omega), if_neg (by simp; omega), e1, e2, e3]
  rfl
theorem right_of {m : ModelM} (h : (mdE m).1 = 0) : Right m := by
  unfold mdE at h
  by_cases g1 : 1 ≤ m.ver ∧ m.ver ≤ 3
  · rw [if_neg (by simp; omega)] at h
    by_cases g2 : m.procs.length ≤ 4096 ∧ m.links.length ≤ 16384 ∧ m.events.length ≤ 16384
    · rw [if_neg (by simp; omega)] at h
      unfold orF at h
      by_cases k1 : (erP m).1 = 0 ∧ (erP m).2 = 0
      · rw [if_neg (by simpa using k1)] at h
        by_cases k2 : (erL m).1 = 0 ∧ (erL m).2 = 0
        · rw [if_neg (by simpa using k2)] at h
          refine ⟨g1, g2, fun i x hi => ?_, fun i x hi => ?_, fun i x hi => ?_⟩
          · have := (fErr_zero _ _ _).1 (show (fErr (prE m.ver m.links (fstP (nmsP m))) 0 m.procs).1 = 0 from k1.1) i x hi
            rwa [Nat.zero_add] at this
          · have := (fErr_zero _ _ _).1 (show (fErr (lnE m.ver (fstP (nmsP m)) (fstP (nmsL m))) 0 m.links).1 = 0 from k2.1) i x hi
            rwa [Nat.zero_add] at this
          · exact (fErr_zero _ _ _).1 (show (fErr (fun _ e => evE (fstP (nmsP m)) e) 0 m.events).1 = 0 from h) i x hi
        · rw [if_pos k2] at h
          have k3 : (erL m).2 = 0 := by unfold erL fltP at h ⊢; rw [if_pos h]
          exact absurd ⟨h, k3⟩ k2
      · rw [if_pos k1] at h
        have k3 : (erP m).2 = 0 := by unfold erP fltP at h ⊢; rw [if_pos h]
        exact absurd ⟨h, k3⟩ k1
    · rw [if_pos (by simp; omega)] at h
      simp at h
  · rw [if_pos (by simp; omega)] at h
    simp at h
theorem nm_zero {ver : Int} {links : List LinkM} {f : ByteArray → Option Nat} {k : Nat} {p : ProcM} (h : prE ver links f k p = 0) : nmE f p.name k = 0 ∧ wgtB ver p.weight = true ∧ p.vars.length ≤ 64 ∧ p.steps.length ≤ 256 ∧ inE links p = 0 := by
  unfold prE at h
  by_cases h1 : nmE f p.name k = 0
  · rw [if_neg (by simpa using h1)] at h
    by_cases h2 : wgtB ver p.weight = true
    · rw [if_pos h2] at h
      by_cases h3 : p.vars.length ≤ 64 ∧ p.steps.length ≤ 256
      · rw [if_neg (by simp; omega)] at h
        exact ⟨h1, h2, h3.1, h3.2, h⟩
      · rw [if_pos (by simp; omega)] at h
        simp at h
    · rw [if_neg h2] at h
      simp at h
  · rw [if_pos (by simpa using h1)] at h
    exact absurd h h1
theorem pr_zero {ver : Int} {links : List LinkM} {f : ByteArray → Option Nat} {k : Nat} {p : ProcM} (h : nmE f p.name k = 0 ∧ wgtB ver p.weight = true ∧ p.vars.length ≤ 64 ∧ p.steps.length ≤ 256 ∧ inE links p = 0) : prE ver links f k p = 0 := by
  unfold prE
  obtain ⟨h1, h2, h3, h4, h5⟩ := h
  rw [if_neg (by simpa using h1), if_pos h2, if_neg (by simp; omega)]
  exact h5
theorem in_bare {links : List LinkM} {p : ProcM} (h : inE links p = 0) : inE [] { p with steps := [] } = 0 := by
  unfold inE at h ⊢
  split at h
  · rename_i h1
    rw [if_pos (by exact h1)]
    rfl
  · rename_i h1
    exact absurd h h1
theorem wgt_old {ver n : Int} (h : wgtB ver n = true) (hv : ver ≤ 3) : wgtB 1 n = true := by
  unfold wgtB at *
  simp at *
  omega
def bareM (m : ModelM) : ModelM := ⟨m.ver, m.procs.map (fun p => { p with steps := [] }), [], []⟩
theorem right_quiet {m : ModelM} (h : Right m) : mdE { m with events := [] } = (0, 0) :=
  right_zero ⟨h.ver, ⟨h.few.1, h.few.2.1, by simp⟩, h.procs, h.links, fun i x hi => by simp at hi⟩
theorem nms_bare (m : ModelM) : nmsP (bareM m) = nmsP m := by unfold bareM nmsP; simp
theorem right_bare {m : ModelM} (h : Right m) : mdE (bareM m) = (0, 0) := by
  refine right_zero ⟨h.ver, ⟨by unfold bareM; simpa using h.few.1, by simp [bareM], by simp [bareM]⟩, fun i x hi => ?_, fun i x hi => by simp [bareM] at hi, fun i x hi => by simp [bareM] at hi⟩
  rw [nms_bare]
  unfold bareM at hi ⊢
  dsimp only at hi ⊢
  rw [List.getElem?_map] at hi
  cases hp : m.procs[i]? with
  | none => rw [hp] at hi; cases hi
  | some p =>
    rw [hp] at hi
    simp at hi
    subst hi
    obtain ⟨h1, h2, h3, h4, h5⟩ := nm_zero (h.procs i p hp)
    exact pr_zero ⟨h1, h2, h3, by simp, in_bare h5⟩
theorem right_older {m : ModelM} (h : Right m) : mdE { m with ver := 1 } = (0, 0) := by
  refine right_zero ⟨⟨by show (1 : Int) ≤ 1; decide, by show (1 : Int) ≤ 3; decide⟩, h.few, fun i x hi => ?_, fun i x hi => ?_, h.events⟩
  · obtain ⟨h1, h2, h3, h4, h5⟩ := nm_zero (h.procs i x hi)
    exact pr_zero ⟨h1, wgt_old h2 h.ver.2, h3, h4, h5⟩
  · have := h.links i x hi
    show lnE 1 (fstP (nmsP m)) (fstP (nmsL m)) i x = 0
    unfold lnE at this ⊢
    split at this
    · exact absurd this ‹_›
    · rename_i h1
      rw [if_neg h1]
      split at this
      · simp at this
      · rename_i h2
        rw [if_neg h2]
        split at this
        · simp at this
        · rename_i h3
          rw [if_neg h3]
          split at this
          · rename_i h4
            rw [if_pos (wgt_old h4 h.ver.2)]
          · simp at this
end Go.Proofs.YtjcmeacgfflfmaaGreat.Md
