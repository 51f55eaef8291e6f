/- Contracts: the document's arg. -/
import Derived.Test.YtenjhbibhkjdaaaMeE
set_option linter.unusedVariables false
set_option linter.unusedSectionVars false
set_option linter.unusedSimpArgs false
namespace Go.Proofs.Ytenjhbibhkjdaaa.Md
open Go.RowKit Go.Shelf

set_option maxRecDepth 100000 in
set_option maxHeartbeats 4000000 in
theorem rarg_any {w : World} {p : ProcV} (h : ProcIn w.heap.size w p) (s : StepM) (hs : 0 ≤ s.ak ∧ s.ak ≤ 2) : Calls Try.prog 91 #[.agg #[.string p.p.name, .int .i64 p.p.weight, .slice p.va p.p.vars.length p.vc, .slice p.sa p.p.steps.length p.sc], .agg #[.int .i64 s.ak, .int .i64 s.an, .string s.aname]] w fun e w' => e = .returned (.int .i64 (argE (fstP (vNames p.p)) s)) ∧ Below w.heap.size w w' := by
  have HA : Hid (argE (fstP (vNames p.p)) s = if (s.ak == 0) && !numB s.an then 23 else if (s.ak != 0) && (s.an != 0) then 21 else if s.ak == 1 then thereE (fstP (vNames p.p)) s.aname else if !s.aname.toList.isEmpty then 21 else 0) := Lib.hid rfl
  obtain ⟨ak, hak⟩ : ∃ v, s.ak = v := ⟨_, rfl⟩
  obtain ⟨an, han⟩ : ∃ v, s.an = v := ⟨_, rfl⟩
  obtain ⟨y, hye⟩ : ∃ v, s.aname = v := ⟨_, rfl⟩
  generalize argE (fstP (vNames p.p)) s = r at *
  rw [hak, han, hye] at HA
  rw [hak] at hs
  rw [hak, han, hye]
  clear hak han hye
  have hb1 := (below_one w (.cells #[.string p.p.name, .int .i64 p.p.weight, .slice p.va p.p.vars.length p.vc, .slice p.sa p.p.steps.length p.sc] 39))
  have HB := Lib.hid (hb1.alloc hb1.size (.cells #[.int .i64 ak, .int .i64 an, .string y] 98))
  have HN := Lib.hid (fun W => rnumber_any an W)
  have HV := Lib.hid (rvar_any (h.on HB.out) y)
  have HX : Hid (((w.alloc (.cells #[.string p.p.name, .int .i64 p.p.weight, .slice p.va p.p.vars.length p.vc, .slice p.sa p.p.steps.length p.sc] 39)).alloc (.cells #[.int .i64 ak, .int .i64 an, .string y] 98)).heap[w.heap.size]? = some (.cells #[.string p.p.name, .int .i64 p.p.weight, .slice p.va p.p.vars.length p.vc, .slice p.sa p.p.steps.length p.sc] 39 (0, 0))) := Lib.hid (heap_alloc (heap_new _ rfl) _)
  have HY : Hid (((w.alloc (.cells #[.string p.p.name, .int .i64 p.p.weight, .slice p.va p.p.vars.length p.vc, .slice p.sa p.p.steps.length p.sc] 39)).alloc (.cells #[.int .i64 ak, .int .i64 an, .string y] 98)).heap[w.heap.size + 1]? = some (.cells #[.int .i64 ak, .int .i64 an, .string y] 98 (0, 0))) := Lib.hid (heap_new _ (by simp))
  clear h hb1
  obtain ⟨q, hq⟩ : ∃ q, plcI (vNames p.p) y = q := ⟨_, rfl⟩
  have HQ : Hid (thereE (fstP (vNames p.p)) y = if q < 0 then 4 else 0) := Lib.hid (by
    rw [← hq]
    unfold thereE plcI
    cases fstP (vNames p.p) y with
    | none => rfl
    | some i => simp)
  rw [hq] at HV
  clear hq
  generalize thereE (fstP (vNames p.p)) y = t at *
  generalize numB an = nb at *
  go_enter Try.func91, Try.ntmps91
  go_upto_region 1 with fail
  generalize ((w.alloc (.cells #[.string p.p.name, .int .i64 p.p.weight, .slice p.va p.p.vars.length p.vc, .slice p.sa p.p.steps.length p.sc] 39)).alloc (.cells #[.int .i64 ak, .int .i64 an, .string y] 98)) = w0 at *
  have c0 : w0.cell? ⟨w.heap.size + 1, 0, none⟩ = some (.int .i64 ak) := heap_cell HY.out rfl
  have c1 : w0.cell? ⟨w.heap.size + 1, 1, none⟩ = some (.int .i64 an) := heap_cell HY.out rfl
  have c2 : w0.cell? ⟨w.heap.size + 1, 2, none⟩ = some (.string y) := heap_cell HY.out rfl
  have d0 : w0.cell? ⟨w.heap.size, 0, none⟩ = some (.string p.p.name) := heap_cell HX.out rfl
  have d1 : w0.cell? ⟨w.heap.size, 1, none⟩ = some (.int .i64 p.p.weight) := heap_cell HX.out rfl
  have d2 : w0.cell? ⟨w.heap.size, 2, none⟩ = some (.slice p.va p.p.vars.length p.vc) := heap_cell HX.out rfl
  have d3 : w0.cell? ⟨w.heap.size, 3, none⟩ = some (.slice p.sa p.p.steps.length p.sc) := heap_cell HX.out rfl
  cases h0 : (ak == 0) with
  | true =>
    have h0n : (ak != 0) = false := by simp at h0 ⊢; exact h0
    have h01 : (ak == 1) = false := by simp at h0 ⊢; omega
    cases nb with
    | false =>
      have HR : Hid (r = 23) := Lib.hid (by rw [HA.out, h0]; rfl)
      go_wp2_with (go_at_call 37; refine (HN.out _).mono ?_; rintro e w' ⟨rfl, rfl⟩)
      go_ret
      exact ⟨by rw [HR.out]; rfl, HB.out⟩
    | true =>
      cases he : y.toList.isEmpty with
      | true =>
        have HR : Hid (r = 0) := Lib.hid (by rw [HA.out, h0, h0n, h01, he]; rfl)
        go_wp2_with (go_at_call 37; refine (HN.out _).mono ?_; rintro e w' ⟨rfl, rfl⟩)
        go_ret
        exact ⟨by rw [HR.out]; rfl, HB.out⟩
      | false =>
        have HR : Hid (r = 21) := Lib.hid (by rw [HA.out, h0, h0n, h01, he]; rfl)
        go_wp2_with (go_at_call 37; refine (HN.out _).mono ?_; rintro e w' ⟨rfl, rfl⟩)
        go_ret
        exact ⟨by rw [HR.out]; rfl, HB.out⟩
  | false =>
    have h0n : (ak != 0) = true := by simp at h0 ⊢; exact h0
    cases h2 : (an != 0) with
    | true =>
      have HR : Hid (r = 21) := Lib.hid (by rw [HA.out, h0, h0n, h2]; rfl)
      go_wp2
      go_ret
      exact ⟨by rw [HR.out]; rfl, HB.out⟩
    | false =>
      cases h01 : (ak == 1) with
      | true =>
        have h02 : (ak == 2) = false := by simp at h01 ⊢; omega
        have HR : Hid (r = t) := Lib.hid (by rw [HA.out, h0, h0n, h2, h01]; rfl)
        have HYb := HY.out
        by_cases hq : q < 0
        · go_wp2_with fail
          refine HV.out.mono ?_
          rintro e w3 ⟨rfl, hb3⟩
          have HB3 := Lib.hid (HB.out.trans (hb3.mono HB.out.size))
          clear hb3
          go_wp2
          go_ret
          exact ⟨by rw [HR.out, HQ.out, if_pos hq]; rfl, HB3.out⟩
        · have hqn : 0 ≤ q := by omega
          go_wp2_with fail
          refine HV.out.mono ?_
          rintro e w3 ⟨rfl, hb3⟩
          have HB3 := Lib.hid (HB.out.trans (hb3.mono HB.out.size))
          have e0 : w3.cell? ⟨w.heap.size + 1, 0, none⟩ = some (.int .i64 ak) := heap_cell (heap_below HYb hb3 (heap_lt HYb)) rfl
          clear hb3
          go_wp2
          go_ret
          exact ⟨by rw [HR.out, HQ.out, if_neg (by omega)]; rfl, HB3.out⟩
      | false =>
        have h02 : (ak == 2) = true := by simp at h0 h01 ⊢; omega
        cases he : y.toList.isEmpty with
        | true =>
          have HR : Hid (r = 0) := Lib.hid (by rw [HA.out, h0, h0n, h2, h01, he]; rfl)
          go_wp2
          go_ret
          exact ⟨by rw [HR.out]; rfl, HB.out⟩
        | false =>
          have HR : Hid (r = 21) := Lib.hid (by rw [HA.out, h0, h0n, h2, h01, he]; rfl)
          go_wp2
          go_ret
          exact ⟨by rw [HR.out]; rfl, HB.out⟩
end Go.Proofs.Ytenjhbibhkjdaaa.Md
