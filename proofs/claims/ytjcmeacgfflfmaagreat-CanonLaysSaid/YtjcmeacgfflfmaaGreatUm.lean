/- Upgrade: the same models? (the document's Same). Upgrade: the same models? (the document's Same). -/
import Derived.Test.YtjcmeacgfflfmaaGreatMow
import Derived.Test.YtjcmeacgfflfmaaGreatMne
set_option linter.unusedVariables false
set_option linter.unusedSectionVars false
set_option linter.unusedSimpArgs false
namespace Go.Proofs.YtjcmeacgfflfmaaGreat.Md
open Go.RowKit Go.Shelf

set_option maxRecDepth 100000 in
set_option maxHeartbeats 4000000 in
theorem sameProc_any {w : World} {p q : ProcV} (hp : ProcIn w.heap.size w p) (hq : ProcIn w.heap.size w q) : Calls Tryz.prog 43 #[.agg #[.string p.p.name, .int .i64 p.p.weight, .slice p.va p.p.vars.length p.vc, .slice p.sa p.p.steps.length p.sc], .agg #[.string q.p.name, .int .i64 q.p.weight, .slice q.va q.p.vars.length q.vc, .slice q.sa q.p.steps.length q.sc]] w fun e w' => Below w.heap.size w w' ∧ ∃ b, e = .returned (.bool b) ∧ (b = true ↔ p.p = q.p) := by
  have hb0 : Below w.heap.size w ((w.alloc (.cells #[.string p.p.name, .int .i64 p.p.weight, .slice p.va p.p.vars.length p.vc, .slice p.sa p.p.steps.length p.sc] 34)).alloc (.cells #[.string q.p.name, .int .i64 q.p.weight, .slice q.va q.p.vars.length q.vc, .slice q.sa q.p.steps.length q.sc] 34)) := ((Below.refl _ w).alloc (Nat.le_refl _) _).alloc (by simp) _
  have HA : Hid (((w.alloc (.cells #[.string p.p.name, .int .i64 p.p.weight, .slice p.va p.p.vars.length p.vc, .slice p.sa p.p.steps.length p.sc] 34)).alloc (.cells #[.string q.p.name, .int .i64 q.p.weight, .slice q.va q.p.vars.length q.vc, .slice q.sa q.p.steps.length q.sc] 34)).heap[w.heap.size]? = some (.cells #[.string p.p.name, .int .i64 p.p.weight, .slice p.va p.p.vars.length p.vc, .slice p.sa p.p.steps.length p.sc] 34 (0, 0))) := Lib.hid (heap_alloc (heap_new _ rfl) _)
  have HQ : Hid (((w.alloc (.cells #[.string p.p.name, .int .i64 p.p.weight, .slice p.va p.p.vars.length p.vc, .slice p.sa p.p.steps.length p.sc] 34)).alloc (.cells #[.string q.p.name, .int .i64 q.p.weight, .slice q.va q.p.vars.length q.vc, .slice q.sa q.p.steps.length q.sc] 34)).heap[w.heap.size + 1]? = some (.cells #[.string q.p.name, .int .i64 q.p.weight, .slice q.va q.p.vars.length q.vc, .slice q.sa q.p.steps.length q.sc] 34 (0, 0))) := Lib.hid (heap_new _ (by simp))
  have HB0 := Lib.hid hb0
  have HP := Lib.hid (hp.on hb0)
  have HPq := Lib.hid (hq.on hb0)
  have hsv : (p.p.vars.length : Int) ≤ 9223372036854775807 := by have := hp.vars.small; unfold maxLen at this; omega
  have hss : (p.p.steps.length : Int) ≤ 9223372036854775807 := by have := hp.steps.small; unfold maxLen at this; omega
  clear hb0 hp hq
  go_enter Tryz.func43, Tryz.ntmps43
  go_upto_region 1 with fail
  generalize ((w.alloc (.cells #[.string p.p.name, .int .i64 p.p.weight, .slice p.va p.p.vars.length p.vc, .slice p.sa p.p.steps.length p.sc] 34)).alloc (.cells #[.string q.p.name, .int .i64 q.p.weight, .slice q.va q.p.vars.length q.vc, .slice q.sa q.p.steps.length q.sc] 34)) = w1 at *
  have a0 : w1.cell? ⟨w.heap.size, 0, none⟩ = some (.string p.p.name) := heap_cell HA.out rfl
  have a1 : w1.cell? ⟨w.heap.size, 1, none⟩ = some (.int .i64 p.p.weight) := heap_cell HA.out rfl
  have a2 : w1.cell? ⟨w.heap.size, 2, none⟩ = some (.slice p.va p.p.vars.length p.vc) := heap_cell HA.out rfl
  have a3 : w1.cell? ⟨w.heap.size, 3, none⟩ = some (.slice p.sa p.p.steps.length p.sc) := heap_cell HA.out rfl
  have b0 : w1.cell? ⟨w.heap.size + 1, 0, none⟩ = some (.string q.p.name) := heap_cell HQ.out rfl
  have b1 : w1.cell? ⟨w.heap.size + 1, 1, none⟩ = some (.int .i64 q.p.weight) := heap_cell HQ.out rfl
  have b2 : w1.cell? ⟨w.heap.size + 1, 2, none⟩ = some (.slice q.va q.p.vars.length q.vc) := heap_cell HQ.out rfl
  have b3 : w1.cell? ⟨w.heap.size + 1, 3, none⟩ = some (.slice q.sa q.p.steps.length q.sc) := heap_cell HQ.out rfl
  by_cases hn : p.p.name = q.p.name
  · have hnb : (p.p.name.toList != q.p.name.toList) = false := by rw [bne, bytes_eq, decide_eq_true hn]; rfl
    have hnc : (p.p.name.toList == q.p.name.toList) = true := by rw [bytes_eq, decide_eq_true hn]
    have HN := Lib.hid hn
    clear hn
    by_cases hw : p.p.weight = q.p.weight
    · have hwb : (p.p.weight != q.p.weight) = false := by simpa using hw
      have HW := Lib.hid hw
      clear hw
      by_cases hv : p.p.vars.length = q.p.vars.length
      · have hvb : ((p.p.vars.length : Int) != (q.p.vars.length : Int)) = false := by simp; omega
        by_cases hs : p.p.steps.length = q.p.steps.length
        · have hsb : ((p.p.steps.length : Int) != (q.p.steps.length : Int)) = false := by simp; omega
          go_wp2
          clear a0 a1 a2 a3 b0 b1 b2 b3
          go_loopw [5] (fun i wr => ∃ k : Nat, i = .int .i64 (k : Int) ∧ k ≤ p.p.vars.length ∧ Hid (p.p.vars.take k = q.p.vars.take k) ∧ Hid (Below w1.heap.size w1 wr)) (fun i _ => p.p.vars.length - (intOf i).toNat)
          case atStart => exact ⟨0, rfl, Nat.zero_le _, Lib.hid rfl, Lib.hid (Below.refl _ _)⟩
          case round =>
            
            obtain ⟨k, rfl, hk, HE, HB⟩ := hrel
            have hk0 : (0 : Int) ≤ (k : Int) := Int.natCast_nonneg k
            have hA := heap_below HA.out HB.out (heap_lt HA.out)
            have hB := heap_below HQ.out HB.out (heap_lt HQ.out)
            have a0 : wr.cell? ⟨w.heap.size, 0, none⟩ = some (.string p.p.name) := heap_cell hA rfl
            have a1 : wr.cell? ⟨w.heap.size, 1, none⟩ = some (.int .i64 p.p.weight) := heap_cell hA rfl
            have a2 : wr.cell? ⟨w.heap.size, 2, none⟩ = some (.slice p.va p.p.vars.length p.vc) := heap_cell hA rfl
            have a3 : wr.cell? ⟨w.heap.size, 3, none⟩ = some (.slice p.sa p.p.steps.length p.sc) := heap_cell hA rfl
            have b0 : wr.cell? ⟨w.heap.size + 1, 0, none⟩ = some (.string q.p.name) := heap_cell hB rfl
            have b1 : wr.cell? ⟨w.heap.size + 1, 1, none⟩ = some (.int .i64 q.p.weight) := heap_cell hB rfl
            have b2 : wr.cell? ⟨w.heap.size + 1, 2, none⟩ = some (.slice q.va q.p.vars.length q.vc) := heap_cell hB rfl
            have b3 : wr.cell? ⟨w.heap.size + 1, 3, none⟩ = some (.slice q.sa q.p.steps.length q.sc) := heap_cell hB rfl
            clear hA hB
            by_cases hlt : k < p.p.vars.length
            · have hlq : k < q.p.vars.length := by omega
              have hki : (k : Int) < (p.p.vars.length : Int) := by omega
              have hkq : (k : Int) < (q.p.vars.length : Int) := by omega
              have hx1 : p.p.vars[k]? = some (p.p.vars[k]'hlt) := List.getElem?_eq_getElem _
              have hy1 : q.p.vars[k]? = some (q.p.vars[k]'hlq) := List.getElem?_eq_getElem _
              obtain ⟨x, hxe⟩ : ∃ x, p.p.vars[k]'hlt = x := ⟨_, rfl⟩
              obtain ⟨y, hye⟩ : ∃ y, q.p.vars[k]'hlq = y := ⟨_, rfl⟩
              have hx : p.p.vars[k]? = some x := by rw [hx1, hxe]
              have hy : q.p.vars[k]? = some y := by rw [hy1, hye]
              have hIp := HP.out.vars.kept HB.out (Nat.le_refl _)
              have hIq := HPq.out.vars.kept HB.out (Nat.le_refl _)
              have hap := hIp.addr.resolve_left (by omega)
              have haq := hIq.addr.resolve_left (by omega)
              rw [hap] at a2
              rw [haq] at b2
              have hg := Tryz.guardVs
              have HX := Lib.hid hx
              have HY := Lib.hid hy
              have r0 : wr.cell? ⟨p.vb, p.vo + k * 2, none⟩ = some (.string x.name) := hIp.cell k x hx 0 _ rfl
              have r1 : wr.cell? ⟨p.vb, p.vo + k * 2 + 1, none⟩ = some (.int .i64 x.init) := hIp.cell k x hx 1 _ rfl
              have s0 : wr.cell? ⟨q.vb, q.vo + k * 2, none⟩ = some (.string y.name) := hIq.cell k y hy 0 _ rfl
              have s1 : wr.cell? ⟨q.vb, q.vo + k * 2 + 1, none⟩ = some (.int .i64 y.init) := hIq.cell k y hy 1 _ rfl
              clear hx1 hy1 hxe hye hx hy hIp hIq hap haq
              by_cases hxy : x = y
              · have hneq := neqVt hxy
                have HXY := Lib.hid hxy
                clear hxy
                go_wp2
                go_quiet (fail)
                go_wp2
                go_roundw
                case rel => exact ⟨k + 1, by go_num, by omega, Lib.hid (by rw [List.take_add_one, List.take_add_one, HE.out, HX.out, HY.out, HXY.out]), Lib.hid (HB.out.trans ((below_drewN _ _).mono HB.out.size))⟩
                case measure => simp [intOf]; omega
              · have hneq := neqVf hxy
                have HXY := Lib.hid hxy
                clear hxy
                go_wp2
                go_quiet (fail)
                go_wp2
                go_ret
                refine ⟨HB0.out.trans ((HB.out.trans ((below_drewN _ _).mono HB.out.size)).mono HB0.out.size), _, rfl, ?_⟩
                simp
                intro e
                have h1 := HX.out
                rw [e, HY.out] at h1
                cases h1
                exact HXY.out rfl
            · obtain rfl : k = p.p.vars.length := by omega
              rw [List.take_of_length_le (Nat.le_refl _), List.take_of_length_le (by omega)] at HE
              have HB1 := HB
              have HVs := HE
              clear HE HB
              go_wp2
              clear a0 a1 a2 a3 b0 b1 b2 b3
              go_loopw [6] (fun i wr => ∃ k : Nat, i = .int .i64 (k : Int) ∧ k ≤ p.p.steps.length ∧ Hid (p.p.steps.take k = q.p.steps.take k) ∧ Hid (Below w1.heap.size w1 wr)) (fun i _ => p.p.steps.length - (intOf i).toNat)
              case atStart => exact ⟨0, rfl, Nat.zero_le _, Lib.hid rfl, HB1⟩
              case round =>
                clear HB1
                obtain ⟨k, rfl, hk, HE, HB⟩ := hrel
                have hk0 : (0 : Int) ≤ (k : Int) := Int.natCast_nonneg k
                have hA := heap_below HA.out HB.out (heap_lt HA.out)
                have hB := heap_below HQ.out HB.out (heap_lt HQ.out)
                have a0 : wr.cell? ⟨w.heap.size, 0, none⟩ = some (.string p.p.name) := heap_cell hA rfl
                have a1 : wr.cell? ⟨w.heap.size, 1, none⟩ = some (.int .i64 p.p.weight) := heap_cell hA rfl
                have a2 : wr.cell? ⟨w.heap.size, 2, none⟩ = some (.slice p.va p.p.vars.length p.vc) := heap_cell hA rfl
                have a3 : wr.cell? ⟨w.heap.size, 3, none⟩ = some (.slice p.sa p.p.steps.length p.sc) := heap_cell hA rfl
                have b0 : wr.cell? ⟨w.heap.size + 1, 0, none⟩ = some (.string q.p.name) := heap_cell hB rfl
                have b1 : wr.cell? ⟨w.heap.size + 1, 1, none⟩ = some (.int .i64 q.p.weight) := heap_cell hB rfl
                have b2 : wr.cell? ⟨w.heap.size + 1, 2, none⟩ = some (.slice q.va q.p.vars.length q.vc) := heap_cell hB rfl
                have b3 : wr.cell? ⟨w.heap.size + 1, 3, none⟩ = some (.slice q.sa q.p.steps.length q.sc) := heap_cell hB rfl
                clear hA hB
                by_cases hlt : k < p.p.steps.length
                · have hlq : k < q.p.steps.length := by omega
                  have hki : (k : Int) < (p.p.steps.length : Int) := by omega
                  have hkq : (k : Int) < (q.p.steps.length : Int) := by omega
                  have hx1 : p.p.steps[k]? = some (p.p.steps[k]'hlt) := List.getElem?_eq_getElem _
                  have hy1 : q.p.steps[k]? = some (q.p.steps[k]'hlq) := List.getElem?_eq_getElem _
                  obtain ⟨x, hxe⟩ : ∃ x, p.p.steps[k]'hlt = x := ⟨_, rfl⟩
                  obtain ⟨y, hye⟩ : ∃ y, q.p.steps[k]'hlq = y := ⟨_, rfl⟩
                  have hx : p.p.steps[k]? = some x := by rw [hx1, hxe]
                  have hy : q.p.steps[k]? = some y := by rw [hy1, hye]
                  have hIp := HP.out.steps.kept HB.out (Nat.le_refl _)
                  have hIq := HPq.out.steps.kept HB.out (Nat.le_refl _)
                  have hap := hIp.addr.resolve_left (by omega)
                  have haq := hIq.addr.resolve_left (by omega)
                  rw [hap] at a3
                  rw [haq] at b3
                  have hg := Tryz.guardSs
                  have HX := Lib.hid hx
                  have HY := Lib.hid hy
                  have r0 : wr.cell? ⟨p.sb, p.so + k * 5, none⟩ = some (.int .i64 x.kind) := hIp.cell k x hx 0 _ rfl
                  have r1 : wr.cell? ⟨p.sb, p.so + k * 5 + 1, none⟩ = some (.string x.name) := hIp.cell k x hx 1 _ rfl
                  have r2 : wr.cell? ⟨p.sb, p.so + k * 5 + 2, none⟩ = some (.int .i64 x.ak) := hIp.cell k x hx 2 _ rfl
                  have r3 : wr.cell? ⟨p.sb, p.so + k * 5 + 3, none⟩ = some (.int .i64 x.an) := hIp.cell k x hx 3 _ rfl
                  have r4 : wr.cell? ⟨p.sb, p.so + k * 5 + 4, none⟩ = some (.string x.aname) := hIp.cell k x hx 4 _ rfl
                  have s0 : wr.cell? ⟨q.sb, q.so + k * 5, none⟩ = some (.int .i64 y.kind) := hIq.cell k y hy 0 _ rfl
                  have s1 : wr.cell? ⟨q.sb, q.so + k * 5 + 1, none⟩ = some (.string y.name) := hIq.cell k y hy 1 _ rfl
                  have s2 : wr.cell? ⟨q.sb, q.so + k * 5 + 2, none⟩ = some (.int .i64 y.ak) := hIq.cell k y hy 2 _ rfl
                  have s3 : wr.cell? ⟨q.sb, q.so + k * 5 + 3, none⟩ = some (.int .i64 y.an) := hIq.cell k y hy 3 _ rfl
                  have s4 : wr.cell? ⟨q.sb, q.so + k * 5 + 4, none⟩ = some (.string y.aname) := hIq.cell k y hy 4 _ rfl
                  clear hx1 hy1 hxe hye hx hy hIp hIq hap haq
                  by_cases hxy : x = y
                  · have hneq := neqSt hxy
                    have HXY := Lib.hid hxy
                    clear hxy
                    go_wp2
                    go_quiet (fail)
                    go_wp2
                    go_roundw
                    case rel => exact ⟨k + 1, by go_num, by omega, Lib.hid (by rw [List.take_add_one, List.take_add_one, HE.out, HX.out, HY.out, HXY.out]), Lib.hid (HB.out.trans ((below_drewN _ _).mono HB.out.size))⟩
                    case measure => simp [intOf]; omega
                  · have hneq := neqSf hxy
                    have HXY := Lib.hid hxy
                    clear hxy
                    go_wp2
                    go_quiet (fail)
                    go_wp2
                    go_ret
                    refine ⟨HB0.out.trans ((HB.out.trans ((below_drewN _ _).mono HB.out.size)).mono HB0.out.size), _, rfl, ?_⟩
                    simp
                    intro e
                    have h1 := HX.out
                    rw [e, HY.out] at h1
                    cases h1
                    exact HXY.out rfl
                · obtain rfl : k = p.p.steps.length := by omega
                  rw [List.take_of_length_le (Nat.le_refl _), List.take_of_length_le (by omega)] at HE
                  go_wp2
                  go_ret
                  refine ⟨HB0.out.trans (HB.out.mono HB0.out.size), _, rfl, ?_⟩
                  simp
                  have h1 := HN.out
                  have h2 := HW.out
                  have h3 := HVs.out
                  have h4 := HE.out
                  obtain ⟨⟨n1, g1, v1, s1⟩, _⟩ := p
                  obtain ⟨⟨n2, g2, v2, s2⟩, _⟩ := q
                  simp_all
        · have hsb : ((p.p.steps.length : Int) != (q.p.steps.length : Int)) = true := by simp; omega
          go_wp2
          go_ret
          exact ⟨HB0.out, _, rfl, by simp; intro e; rw [e] at hs; exact hs rfl⟩
      · have hvb : ((p.p.vars.length : Int) != (q.p.vars.length : Int)) = true := by simp; omega
        go_wp2
        go_ret
        exact ⟨HB0.out, _, rfl, by simp; intro e; rw [e] at hv; exact hv rfl⟩
    · have hwb : (p.p.weight != q.p.weight) = true := by simpa using hw
      have HW := Lib.hid hw
      clear hw
      go_wp2
      go_ret
      exact ⟨HB0.out, _, rfl, by simp; intro e; exact HW.out (by rw [e])⟩
  · have hnb : (p.p.name.toList != q.p.name.toList) = true := by rw [bne, bytes_eq, decide_eq_false hn]; rfl
    have hnc : (p.p.name.toList == q.p.name.toList) = false := by rw [bytes_eq, decide_eq_false hn]
    have HN := Lib.hid hn
    clear hn
    go_wp2
    go_ret
    exact ⟨HB0.out, _, rfl, by simp; intro e; exact HN.out (by rw [e])⟩
end Go.Proofs.YtjcmeacgfflfmaaGreat.Md

namespace Go.Proofs.YtjcmeacgfflfmaaGreat.Md
open Go.RowKit Go.Shelf

theorem sameProc_t {w : World} {p q : ProcV} (hp : ProcIn w.heap.size w p) (hq : ProcIn w.heap.size w q) (h : p.p = q.p) : Calls Tryz.prog 43 #[.agg #[.string p.p.name, .int .i64 p.p.weight, .slice p.va p.p.vars.length p.vc, .slice p.sa p.p.steps.length p.sc], .agg #[.string q.p.name, .int .i64 q.p.weight, .slice q.va q.p.vars.length q.vc, .slice q.sa q.p.steps.length q.sc]] w fun e w' => e = .returned (.bool true) ∧ Below w.heap.size w w' :=
  (sameProc_any hp hq).mono (by
    rintro e w' ⟨hb, b, rfl, hi⟩
    exact ⟨by rw [hi.2 h], hb⟩)
theorem sameProc_f {w : World} {p q : ProcV} (hp : ProcIn w.heap.size w p) (hq : ProcIn w.heap.size w q) (h : p.p ≠ q.p) : Calls Tryz.prog 43 #[.agg #[.string p.p.name, .int .i64 p.p.weight, .slice p.va p.p.vars.length p.vc, .slice p.sa p.p.steps.length p.sc], .agg #[.string q.p.name, .int .i64 q.p.weight, .slice q.va q.p.vars.length q.vc, .slice q.sa q.p.steps.length q.sc]] w fun e w' => e = .returned (.bool false) ∧ Below w.heap.size w w' :=
  (sameProc_any hp hq).mono (by
    rintro e w' ⟨hb, b, rfl, hi⟩
    cases b with
    | false => exact ⟨rfl, hb⟩
    | true => exact absurd (hi.1 rfl) h)
set_option maxRecDepth 100000 in
set_option maxHeartbeats 8000000 in
theorem rsame_any {w : World} {x y : ModelV} (hx : ModelAt w.heap.size w x) (hy : ModelAt w.heap.size w y) : Calls Tryz.prog 14 #[.agg #[.int .i64 x.ver, .slice x.pa x.procs.length x.pc, .slice x.la x.links.length x.lc, .slice x.ea x.events.length x.ec], .agg #[.int .i64 y.ver, .slice y.pa y.procs.length y.pc, .slice y.la y.links.length y.lc, .slice y.ea y.events.length y.ec]] w fun e w' => Below w.heap.size w w' ∧ ∃ b, e = .returned (.bool b) ∧ (b = true ↔ x.m = y.m) := by
  have hb0 : Below w.heap.size w ((w.alloc (.cells #[.int .i64 x.ver, .slice x.pa x.procs.length x.pc, .slice x.la x.links.length x.lc, .slice x.ea x.events.length x.ec] 26)).alloc (.cells #[.int .i64 y.ver, .slice y.pa y.procs.length y.pc, .slice y.la y.links.length y.lc, .slice y.ea y.events.length y.ec] 26)) := ((Below.refl _ w).alloc (Nat.le_refl _) _).alloc (by simp) _
  have HA : Hid (((w.alloc (.cells #[.int .i64 x.ver, .slice x.pa x.procs.length x.pc, .slice x.la x.links.length x.lc, .slice x.ea x.events.length x.ec] 26)).alloc (.cells #[.int .i64 y.ver, .slice y.pa y.procs.length y.pc, .slice y.la y.links.length y.lc, .slice y.ea y.events.length y.ec] 26)).heap[w.heap.size]? = some (.cells #[.int .i64 x.ver, .slice x.pa x.procs.length x.pc, .slice x.la x.links.length x.lc, .slice x.ea x.events.length x.ec] 26 (0, 0))) := Lib.hid (heap_alloc (heap_new _ rfl) _)
  have HQ : Hid (((w.alloc (.cells #[.int .i64 x.ver, .slice x.pa x.procs.length x.pc, .slice x.la x.links.length x.lc, .slice x.ea x.events.length x.ec] 26)).alloc (.cells #[.int .i64 y.ver, .slice y.pa y.procs.length y.pc, .slice y.la y.links.length y.lc, .slice y.ea y.events.length y.ec] 26)).heap[w.heap.size + 1]? = some (.cells #[.int .i64 y.ver, .slice y.pa y.procs.length y.pc, .slice y.la y.links.length y.lc, .slice y.ea y.events.length y.ec] 26 (0, 0))) := Lib.hid (heap_new _ (by simp))
  have HB0 := Lib.hid hb0
  have HM := Lib.hid (hx.on hb0)
  have HMy := Lib.hid (hy.on hb0)
  have hsp : (x.procs.length : Int) ≤ 9223372036854775807 := by have := hx.procs.small; unfold maxLen at this; omega
  have hsl : (x.links.length : Int) ≤ 9223372036854775807 := by have := hx.links.small; unfold maxLen at this; omega
  have hse : (x.events.length : Int) ≤ 9223372036854775807 := by have := hx.events.small; unfold maxLen at this; omega
  clear hb0 hx hy
  go_enter Tryz.func14, Tryz.ntmps14
  go_upto_region 1 with fail
  generalize ((w.alloc (.cells #[.int .i64 x.ver, .slice x.pa x.procs.length x.pc, .slice x.la x.links.length x.lc, .slice x.ea x.events.length x.ec] 26)).alloc (.cells #[.int .i64 y.ver, .slice y.pa y.procs.length y.pc, .slice y.la y.links.length y.lc, .slice y.ea y.events.length y.ec] 26)) = w1 at *
  have a0 : w1.cell? ⟨w.heap.size, 0, none⟩ = some (.int .i64 x.ver) := heap_cell HA.out rfl
  have a1 : w1.cell? ⟨w.heap.size, 1, none⟩ = some (.slice x.pa x.procs.length x.pc) := heap_cell HA.out rfl
  have a2 : w1.cell? ⟨w.heap.size, 2, none⟩ = some (.slice x.la x.links.length x.lc) := heap_cell HA.out rfl
  have a3 : w1.cell? ⟨w.heap.size, 3, none⟩ = some (.slice x.ea x.events.length x.ec) := heap_cell HA.out rfl
  have b0 : w1.cell? ⟨w.heap.size + 1, 0, none⟩ = some (.int .i64 y.ver) := heap_cell HQ.out rfl
  have b1 : w1.cell? ⟨w.heap.size + 1, 1, none⟩ = some (.slice y.pa y.procs.length y.pc) := heap_cell HQ.out rfl
  have b2 : w1.cell? ⟨w.heap.size + 1, 2, none⟩ = some (.slice y.la y.links.length y.lc) := heap_cell HQ.out rfl
  have b3 : w1.cell? ⟨w.heap.size + 1, 3, none⟩ = some (.slice y.ea y.events.length y.ec) := heap_cell HQ.out rfl
  by_cases hw : x.ver = y.ver
  · have hwb : (x.ver != y.ver) = false := by simpa using hw
    have HW := Lib.hid hw
    clear hw
    by_cases hp : x.procs.length = y.procs.length
    · have hpb : ((x.procs.length : Int) != (y.procs.length : Int)) = false := by simp; omega
      by_cases hl : x.links.length = y.links.length
      · have hlb : ((x.links.length : Int) != (y.links.length : Int)) = false := by simp; omega
        by_cases he : x.events.length = y.events.length
        · have heb : ((x.events.length : Int) != (y.events.length : Int)) = false := by simp; omega
          have HNn := Lib.hid (And.intro hp (And.intro hl he))
          clear hp hl he
          go_wp2
          clear a0 a1 a2 a3 b0 b1 b2 b3
          go_loopw [5] (fun i wr => ∃ k : Nat, i = .int .i64 (k : Int) ∧ k ≤ x.procs.length ∧ Hid ((x.procs.take k).map (·.p) = (y.procs.take k).map (·.p)) ∧ Hid (Below w1.heap.size w1 wr)) (fun i _ => x.procs.length - (intOf i).toNat)
          case atStart => exact ⟨0, rfl, Nat.zero_le _, Lib.hid rfl, Lib.hid (Below.refl _ _)⟩
          case round =>
          obtain ⟨k, rfl, hk, HE, HB⟩ := hrel
          have hk0 : (0 : Int) ≤ (k : Int) := Int.natCast_nonneg k
          have hA := heap_below HA.out HB.out (heap_lt HA.out)
          have hB := heap_below HQ.out HB.out (heap_lt HQ.out)
          have a0 : wr.cell? ⟨w.heap.size, 0, none⟩ = some (.int .i64 x.ver) := heap_cell hA rfl
          have a1 : wr.cell? ⟨w.heap.size, 1, none⟩ = some (.slice x.pa x.procs.length x.pc) := heap_cell hA rfl
          have a2 : wr.cell? ⟨w.heap.size, 2, none⟩ = some (.slice x.la x.links.length x.lc) := heap_cell hA rfl
          have a3 : wr.cell? ⟨w.heap.size, 3, none⟩ = some (.slice x.ea x.events.length x.ec) := heap_cell hA rfl
          have b0 : wr.cell? ⟨w.heap.size + 1, 0, none⟩ = some (.int .i64 y.ver) := heap_cell hB rfl
          have b1 : wr.cell? ⟨w.heap.size + 1, 1, none⟩ = some (.slice y.pa y.procs.length y.pc) := heap_cell hB rfl
          have b2 : wr.cell? ⟨w.heap.size + 1, 2, none⟩ = some (.slice y.la y.links.length y.lc) := heap_cell hB rfl
          have b3 : wr.cell? ⟨w.heap.size + 1, 3, none⟩ = some (.slice y.ea y.events.length y.ec) := heap_cell hB rfl
          have hlA : w.heap.size < wr.heap.size := heap_lt hA
          have hlB : w.heap.size + 1 < wr.heap.size := heap_lt hB
          clear hA hB
          by_cases hlt : k < x.procs.length
          · have hlq : k < y.procs.length := by have := HNn.out; omega
            have hki : (k : Int) < (x.procs.length : Int) := by omega
            have hkq : (k : Int) < (y.procs.length : Int) := by omega
            have hx1 : x.procs[k]? = some (x.procs[k]'hlt) := List.getElem?_eq_getElem _
            have hy1 : y.procs[k]? = some (y.procs[k]'hlq) := List.getElem?_eq_getElem _
            have hpm : x.procs[k]'hlt ∈ x.procs := List.getElem_mem _
            have hqm : y.procs[k]'hlq ∈ y.procs := List.getElem_mem _
            obtain ⟨p, hpe⟩ : ∃ p, x.procs[k]'hlt = p := ⟨_, rfl⟩
            obtain ⟨q, hqe⟩ : ∃ q, y.procs[k]'hlq = q := ⟨_, rfl⟩
            rw [hpe] at hpm
            rw [hqe] at hqm
            have hp : x.procs[k]? = some p := by rw [hx1, hpe]
            have hq : y.procs[k]? = some q := by rw [hy1, hqe]
            have hIp := HM.out.procs.kept HB.out (Nat.le_refl _)
            have hIq := HMy.out.procs.kept HB.out (Nat.le_refl _)
            have hNp := (HM.out.inner p hpm).on HB.out
            have hNq := (HMy.out.inner q hqm).on HB.out
            have hap := hIp.addr.resolve_left (by omega)
            have haq := hIq.addr.resolve_left (by omega)
            rw [hap] at a1
            rw [haq] at b1
            have hlP : x.pb < wr.heap.size := by
              have h1 := hIp.below.resolve_left (by omega)
              have h2 := HB.out.size
              omega
            have hlQ : y.pb < wr.heap.size := by
              have h1 := hIq.below.resolve_left (by omega)
              have h2 := HB.out.size
              omega
            have HX := Lib.hid hp
            have HY := Lib.hid hq
            have HNp := Lib.hid hNp
            have HNq := Lib.hid hNq
            have r0 : wr.cell? ⟨x.pb, x.po + k * 4, none⟩ = some (.string p.p.name) := hIp.cell k p hp 0 _ rfl
            have r1 : wr.cell? ⟨x.pb, x.po + k * 4 + 1, none⟩ = some (.int .i64 p.p.weight) := hIp.cell k p hp 1 _ rfl
            have r2 : wr.cell? ⟨x.pb, x.po + k * 4 + 2, none⟩ = some (.slice p.va p.p.vars.length p.vc) := hIp.cell k p hp 2 _ rfl
            have r3 : wr.cell? ⟨x.pb, x.po + k * 4 + 3, none⟩ = some (.slice p.sa p.p.steps.length p.sc) := hIp.cell k p hp 3 _ rfl
            have s0 : wr.cell? ⟨y.pb, y.po + k * 4, none⟩ = some (.string q.p.name) := hIq.cell k q hq 0 _ rfl
            have s1 : wr.cell? ⟨y.pb, y.po + k * 4 + 1, none⟩ = some (.int .i64 q.p.weight) := hIq.cell k q hq 1 _ rfl
            have s2 : wr.cell? ⟨y.pb, y.po + k * 4 + 2, none⟩ = some (.slice q.va q.p.vars.length q.vc) := hIq.cell k q hq 2 _ rfl
            have s3 : wr.cell? ⟨y.pb, y.po + k * 4 + 3, none⟩ = some (.slice q.sa q.p.steps.length q.sc) := hIq.cell k q hq 3 _ rfl
            have da0 : ∀ W, Below wr.heap.size wr W → W.cell? ⟨w.heap.size, 0, none⟩ = some (.int .i64 x.ver) := fun W hW => by rw [hW.cell (by first | exact hlA | exact hlB | exact hlP | exact hlQ)]; assumption
            have da1 : ∀ W, Below wr.heap.size wr W → W.cell? ⟨w.heap.size, 1, none⟩ = some (.slice (some ⟨x.pb, x.po, none⟩) x.procs.length x.pc) := fun W hW => by rw [hW.cell (by first | exact hlA | exact hlB | exact hlP | exact hlQ)]; assumption
            have da2 : ∀ W, Below wr.heap.size wr W → W.cell? ⟨w.heap.size, 2, none⟩ = some (.slice x.la x.links.length x.lc) := fun W hW => by rw [hW.cell (by first | exact hlA | exact hlB | exact hlP | exact hlQ)]; assumption
            have da3 : ∀ W, Below wr.heap.size wr W → W.cell? ⟨w.heap.size, 3, none⟩ = some (.slice x.ea x.events.length x.ec) := fun W hW => by rw [hW.cell (by first | exact hlA | exact hlB | exact hlP | exact hlQ)]; assumption
            have db0 : ∀ W, Below wr.heap.size wr W → W.cell? ⟨w.heap.size + 1, 0, none⟩ = some (.int .i64 y.ver) := fun W hW => by rw [hW.cell (by first | exact hlA | exact hlB | exact hlP | exact hlQ)]; assumption
            have db1 : ∀ W, Below wr.heap.size wr W → W.cell? ⟨w.heap.size + 1, 1, none⟩ = some (.slice (some ⟨y.pb, y.po, none⟩) y.procs.length y.pc) := fun W hW => by rw [hW.cell (by first | exact hlA | exact hlB | exact hlP | exact hlQ)]; assumption
            have db2 : ∀ W, Below wr.heap.size wr W → W.cell? ⟨w.heap.size + 1, 2, none⟩ = some (.slice y.la y.links.length y.lc) := fun W hW => by rw [hW.cell (by first | exact hlA | exact hlB | exact hlP | exact hlQ)]; assumption
            have db3 : ∀ W, Below wr.heap.size wr W → W.cell? ⟨w.heap.size + 1, 3, none⟩ = some (.slice y.ea y.events.length y.ec) := fun W hW => by rw [hW.cell (by first | exact hlA | exact hlB | exact hlP | exact hlQ)]; assumption
            have dr0 : ∀ W, Below wr.heap.size wr W → W.cell? ⟨x.pb, x.po + k * 4, none⟩ = some (.string p.p.name) := fun W hW => by rw [hW.cell (by first | exact hlA | exact hlB | exact hlP | exact hlQ)]; assumption
            have dr1 : ∀ W, Below wr.heap.size wr W → W.cell? ⟨x.pb, x.po + k * 4 + 1, none⟩ = some (.int .i64 p.p.weight) := fun W hW => by rw [hW.cell (by first | exact hlA | exact hlB | exact hlP | exact hlQ)]; assumption
            have dr2 : ∀ W, Below wr.heap.size wr W → W.cell? ⟨x.pb, x.po + k * 4 + 2, none⟩ = some (.slice p.va p.p.vars.length p.vc) := fun W hW => by rw [hW.cell (by first | exact hlA | exact hlB | exact hlP | exact hlQ)]; assumption
            have dr3 : ∀ W, Below wr.heap.size wr W → W.cell? ⟨x.pb, x.po + k * 4 + 3, none⟩ = some (.slice p.sa p.p.steps.length p.sc) := fun W hW => by rw [hW.cell (by first | exact hlA | exact hlB | exact hlP | exact hlQ)]; assumption
            have ds0 : ∀ W, Below wr.heap.size wr W → W.cell? ⟨y.pb, y.po + k * 4, none⟩ = some (.string q.p.name) := fun W hW => by rw [hW.cell (by first | exact hlA | exact hlB | exact hlP | exact hlQ)]; assumption
            have ds1 : ∀ W, Below wr.heap.size wr W → W.cell? ⟨y.pb, y.po + k * 4 + 1, none⟩ = some (.int .i64 q.p.weight) := fun W hW => by rw [hW.cell (by first | exact hlA | exact hlB | exact hlP | exact hlQ)]; assumption
            have ds2 : ∀ W, Below wr.heap.size wr W → W.cell? ⟨y.pb, y.po + k * 4 + 2, none⟩ = some (.slice q.va q.p.vars.length q.vc) := fun W hW => by rw [hW.cell (by first | exact hlA | exact hlB | exact hlP | exact hlQ)]; assumption
            have ds3 : ∀ W, Below wr.heap.size wr W → W.cell? ⟨y.pb, y.po + k * 4 + 3, none⟩ = some (.slice q.sa q.p.steps.length q.sc) := fun W hW => by rw [hW.cell (by first | exact hlA | exact hlB | exact hlP | exact hlQ)]; assumption
            clear a0 a1 a2 a3 b0 b1 b2 b3 r0 r1 r2 r3 s0 s1 s2 s3 hx1 hy1 hpm hqm hpe hqe hp hq hIp hIq hNp hNq hap haq
            by_cases hxy : p.p = q.p
            · have HSp : Hid (∀ W, Below wr.heap.size wr W → Calls Tryz.prog 43 #[.agg #[.string p.p.name, .int .i64 p.p.weight, .slice p.va p.p.vars.length p.vc, .slice p.sa p.p.steps.length p.sc], .agg #[.string q.p.name, .int .i64 q.p.weight, .slice q.va q.p.vars.length q.vc, .slice q.sa q.p.steps.length q.sc]] W fun e w' => e = .returned (.bool true) ∧ Below W.heap.size W w') := Lib.hid (fun W hW => sameProc_t (HNp.out.on hW) (HNq.out.on hW) hxy)
              have HXY := Lib.hid hxy
              clear hxy
              have wa1 := da1 wr (Below.refl _ _)
              go_wp2_with fail
              clear wa1
              go_region_held3 (fun W => Below wr.heap.size wr W) (first | assumption | exact Below.refl _ _ | exact (Below.refl _ _).drew | exact Below.drew (by assumption)) (
            (go_at_call 43; refine (HSp.out _ (by assumption)).mono ?_; rintro e w5 ⟨rfl, hb⟩; have hS5 : Below wr.heap.size wr w5 := Below.trans (show Below wr.heap.size wr _ by assumption) (hb.mono (show Below wr.heap.size wr _ by assumption).size); clear hb))
              clear da0 da1 da2 da3 db0 db1 db2 db3 dr0 dr1 dr2 dr3 ds0 ds1 ds2 ds3
              have HS5 := Lib.hid hS5
              clear hS5
              go_wp2
              go_roundw
              case rel => exact ⟨k + 1, by go_num, by omega, Lib.hid (by rw [List.take_add_one, List.take_add_one, HX.out, HY.out, List.map_append, List.map_append, HE.out]; simp [HXY.out]), Lib.hid (HB.out.trans (HS5.out.mono HB.out.size))⟩
              case measure => simp [intOf]; omega
            · have HSp : Hid (∀ W, Below wr.heap.size wr W → Calls Tryz.prog 43 #[.agg #[.string p.p.name, .int .i64 p.p.weight, .slice p.va p.p.vars.length p.vc, .slice p.sa p.p.steps.length p.sc], .agg #[.string q.p.name, .int .i64 q.p.weight, .slice q.va q.p.vars.length q.vc, .slice q.sa q.p.steps.length q.sc]] W fun e w' => e = .returned (.bool false) ∧ Below W.heap.size W w') := Lib.hid (fun W hW => sameProc_f (HNp.out.on hW) (HNq.out.on hW) hxy)
              have HXY := Lib.hid hxy
              clear hxy
              have wa1 := da1 wr (Below.refl _ _)
              go_wp2_with fail
              clear wa1
              go_region_held3 (fun W => Below wr.heap.size wr W) (first | assumption | exact Below.refl _ _ | exact (Below.refl _ _).drew | exact Below.drew (by assumption)) (
            (go_at_call 43; refine (HSp.out _ (by assumption)).mono ?_; rintro e w5 ⟨rfl, hb⟩; have hS5 : Below wr.heap.size wr w5 := Below.trans (show Below wr.heap.size wr _ by assumption) (hb.mono (show Below wr.heap.size wr _ by assumption).size); clear hb))
              clear da0 da1 da2 da3 db0 db1 db2 db3 dr0 dr1 dr2 dr3 ds0 ds1 ds2 ds3
              have HS5 := Lib.hid hS5
              clear hS5
              go_wp2
              go_ret
              refine ⟨HB0.out.trans ((HB.out.trans (HS5.out.mono HB.out.size)).mono HB0.out.size), _, rfl, ?_⟩
              simp
              intro e
              have h0 : x.procs.map (·.p) = y.procs.map (·.p) := congrArg ModelM.procs e
              have h1 : (x.procs.map (·.p))[k]? = some p.p := by rw [List.getElem?_map, HX.out]; rfl
              rw [h0, List.getElem?_map, HY.out] at h1
              simp at h1
              exact HXY.out h1.symm
          · obtain rfl : k = x.procs.length := by omega
            rw [List.take_of_length_le (Nat.le_refl _), List.take_of_length_le (by have := HNn.out; omega)] at HE
            have HB1 := HB
            have HPs := HE
            clear HE HB
            go_wp2
            clear a0 a1 a2 a3 b0 b1 b2 b3
            go_loopw [6] (fun i wr => ∃ k : Nat, i = .int .i64 (k : Int) ∧ k ≤ x.links.length ∧ Hid (x.links.take k = y.links.take k) ∧ Hid (Below w1.heap.size w1 wr)) (fun i _ => x.links.length - (intOf i).toNat)
            case atStart => exact ⟨0, rfl, Nat.zero_le _, Lib.hid rfl, HB1⟩
            case round =>
              clear HB1
              obtain ⟨k, rfl, hk, HE, HB⟩ := hrel
              have hk0 : (0 : Int) ≤ (k : Int) := Int.natCast_nonneg k
              have hA := heap_below HA.out HB.out (heap_lt HA.out)
              have hB := heap_below HQ.out HB.out (heap_lt HQ.out)
              have a0 : wr.cell? ⟨w.heap.size, 0, none⟩ = some (.int .i64 x.ver) := heap_cell hA rfl
              have a1 : wr.cell? ⟨w.heap.size, 1, none⟩ = some (.slice x.pa x.procs.length x.pc) := heap_cell hA rfl
              have a2 : wr.cell? ⟨w.heap.size, 2, none⟩ = some (.slice x.la x.links.length x.lc) := heap_cell hA rfl
              have a3 : wr.cell? ⟨w.heap.size, 3, none⟩ = some (.slice x.ea x.events.length x.ec) := heap_cell hA rfl
              have b0 : wr.cell? ⟨w.heap.size + 1, 0, none⟩ = some (.int .i64 y.ver) := heap_cell hB rfl
              have b1 : wr.cell? ⟨w.heap.size + 1, 1, none⟩ = some (.slice y.pa y.procs.length y.pc) := heap_cell hB rfl
              have b2 : wr.cell? ⟨w.heap.size + 1, 2, none⟩ = some (.slice y.la y.links.length y.lc) := heap_cell hB rfl
              have b3 : wr.cell? ⟨w.heap.size + 1, 3, none⟩ = some (.slice y.ea y.events.length y.ec) := heap_cell hB rfl
              clear hA hB
              by_cases hlt : k < x.links.length
              · have hlq : k < y.links.length := by have := HNn.out; omega
                have hki : (k : Int) < (x.links.length : Int) := by omega
                have hkq : (k : Int) < (y.links.length : Int) := by omega
                have hx1 : x.links[k]? = some (x.links[k]'hlt) := List.getElem?_eq_getElem _
                have hy1 : y.links[k]? = some (y.links[k]'hlq) := List.getElem?_eq_getElem _
                obtain ⟨u, hue⟩ : ∃ u, x.links[k]'hlt = u := ⟨_, rfl⟩
                obtain ⟨v, hve⟩ : ∃ v, y.links[k]'hlq = v := ⟨_, rfl⟩
                have hu : x.links[k]? = some u := by rw [hx1, hue]
                have hv : y.links[k]? = some v := by rw [hy1, hve]
                have hIp := HM.out.links.kept HB.out (Nat.le_refl _)
                have hIq := HMy.out.links.kept HB.out (Nat.le_refl _)
                have hap := hIp.addr.resolve_left (by omega)
                have haq := hIq.addr.resolve_left (by omega)
                rw [hap] at a2
                rw [haq] at b2
                have hg := Tryz.guardLs
                have HX := Lib.hid hu
                have HY := Lib.hid hv
                have r0 : wr.cell? ⟨x.lb, x.lo + k * 5, none⟩ = some (.string u.name) := hIp.cell k u hu 0 _ rfl
                have r1 : wr.cell? ⟨x.lb, x.lo + k * 5 + 1, none⟩ = some (.string u.frm) := hIp.cell k u hu 1 _ rfl
                have r2 : wr.cell? ⟨x.lb, x.lo + k * 5 + 2, none⟩ = some (.string u.to_) := hIp.cell k u hu 2 _ rfl
                have r3 : wr.cell? ⟨x.lb, x.lo + k * 5 + 3, none⟩ = some (.int .i64 u.delay) := hIp.cell k u hu 3 _ rfl
                have r4 : wr.cell? ⟨x.lb, x.lo + k * 5 + 4, none⟩ = some (.int .i64 u.weight) := hIp.cell k u hu 4 _ rfl
                have s0 : wr.cell? ⟨y.lb, y.lo + k * 5, none⟩ = some (.string v.name) := hIq.cell k v hv 0 _ rfl
                have s1 : wr.cell? ⟨y.lb, y.lo + k * 5 + 1, none⟩ = some (.string v.frm) := hIq.cell k v hv 1 _ rfl
                have s2 : wr.cell? ⟨y.lb, y.lo + k * 5 + 2, none⟩ = some (.string v.to_) := hIq.cell k v hv 2 _ rfl
                have s3 : wr.cell? ⟨y.lb, y.lo + k * 5 + 3, none⟩ = some (.int .i64 v.delay) := hIq.cell k v hv 3 _ rfl
                have s4 : wr.cell? ⟨y.lb, y.lo + k * 5 + 4, none⟩ = some (.int .i64 v.weight) := hIq.cell k v hv 4 _ rfl
                clear hx1 hy1 hue hve hu hv hIp hIq hap haq
                by_cases hxy : u = v
                · have hneq := neqLt hxy
                  have HXY := Lib.hid hxy
                  clear hxy
                  go_wp2
                  go_quiet (fail)
                  go_wp2
                  go_roundw
                  case rel => exact ⟨k + 1, by go_num, by omega, Lib.hid (by rw [List.take_add_one, List.take_add_one, HE.out, HX.out, HY.out, HXY.out]), Lib.hid (HB.out.trans ((below_drewN _ _).mono HB.out.size))⟩
                  case measure => simp [intOf]; omega
                · have hneq := neqLf hxy
                  have HXY := Lib.hid hxy
                  clear hxy
                  go_wp2
                  go_quiet (fail)
                  go_wp2
                  go_ret
                  refine ⟨HB0.out.trans ((HB.out.trans ((below_drewN _ _).mono HB.out.size)).mono HB0.out.size), _, rfl, ?_⟩
                  simp
                  intro e
                  have h0 : x.links = y.links := congrArg ModelM.links e
                  have h1 := HX.out
                  rw [h0, HY.out] at h1
                  cases h1
                  exact HXY.out rfl
              · obtain rfl : k = x.links.length := by omega
                rw [List.take_of_length_le (Nat.le_refl _), List.take_of_length_le (by have := HNn.out; omega)] at HE
                have HB1 := HB
                have HLs := HE
                clear HE HB
                go_wp2
                clear a0 a1 a2 a3 b0 b1 b2 b3
                go_loopw [7] (fun i wr => ∃ k : Nat, i = .int .i64 (k : Int) ∧ k ≤ x.events.length ∧ Hid (x.events.take k = y.events.take k) ∧ Hid (Below w1.heap.size w1 wr)) (fun i _ => x.events.length - (intOf i).toNat)
                case atStart => exact ⟨0, rfl, Nat.zero_le _, Lib.hid rfl, HB1⟩
                case round =>
                  clear HB1
                  obtain ⟨k, rfl, hk, HE, HB⟩ := hrel
                  have hk0 : (0 : Int) ≤ (k : Int) := Int.natCast_nonneg k
                  have hA := heap_below HA.out HB.out (heap_lt HA.out)
                  have hB := heap_below HQ.out HB.out (heap_lt HQ.out)
                  have a0 : wr.cell? ⟨w.heap.size, 0, none⟩ = some (.int .i64 x.ver) := heap_cell hA rfl
                  have a1 : wr.cell? ⟨w.heap.size, 1, none⟩ = some (.slice x.pa x.procs.length x.pc) := heap_cell hA rfl
                  have a2 : wr.cell? ⟨w.heap.size, 2, none⟩ = some (.slice x.la x.links.length x.lc) := heap_cell hA rfl
                  have a3 : wr.cell? ⟨w.heap.size, 3, none⟩ = some (.slice x.ea x.events.length x.ec) := heap_cell hA rfl
                  have b0 : wr.cell? ⟨w.heap.size + 1, 0, none⟩ = some (.int .i64 y.ver) := heap_cell hB rfl
                  have b1 : wr.cell? ⟨w.heap.size + 1, 1, none⟩ = some (.slice y.pa y.procs.length y.pc) := heap_cell hB rfl
                  have b2 : wr.cell? ⟨w.heap.size + 1, 2, none⟩ = some (.slice y.la y.links.length y.lc) := heap_cell hB rfl
                  have b3 : wr.cell? ⟨w.heap.size + 1, 3, none⟩ = some (.slice y.ea y.events.length y.ec) := heap_cell hB rfl
                  clear hA hB
                  by_cases hlt : k < x.events.length
                  · have hlq : k < y.events.length := by have := HNn.out; omega
                    have hki : (k : Int) < (x.events.length : Int) := by omega
                    have hkq : (k : Int) < (y.events.length : Int) := by omega
                    have hx1 : x.events[k]? = some (x.events[k]'hlt) := List.getElem?_eq_getElem _
                    have hy1 : y.events[k]? = some (y.events[k]'hlq) := List.getElem?_eq_getElem _
                    obtain ⟨u, hue⟩ : ∃ u, x.events[k]'hlt = u := ⟨_, rfl⟩
                    obtain ⟨v, hve⟩ : ∃ v, y.events[k]'hlq = v := ⟨_, rfl⟩
                    have hu : x.events[k]? = some u := by rw [hx1, hue]
                    have hv : y.events[k]? = some v := by rw [hy1, hve]
                    have hIp := HM.out.events.kept HB.out (Nat.le_refl _)
                    have hIq := HMy.out.events.kept HB.out (Nat.le_refl _)
                    have hap := hIp.addr.resolve_left (by omega)
                    have haq := hIq.addr.resolve_left (by omega)
                    rw [hap] at a3
                    rw [haq] at b3
                    have hg := Tryz.guardEs
                    have HX := Lib.hid hu
                    have HY := Lib.hid hv
                    have r0 : wr.cell? ⟨x.eb, x.eo + k * 3, none⟩ = some (.string u.to_) := hIp.cell k u hu 0 _ rfl
                    have r1 : wr.cell? ⟨x.eb, x.eo + k * 3 + 1, none⟩ = some (.int .i64 u.at_) := hIp.cell k u hu 1 _ rfl
                    have r2 : wr.cell? ⟨x.eb, x.eo + k * 3 + 2, none⟩ = some (.int .i64 u.val) := hIp.cell k u hu 2 _ rfl
                    have s0 : wr.cell? ⟨y.eb, y.eo + k * 3, none⟩ = some (.string v.to_) := hIq.cell k v hv 0 _ rfl
                    have s1 : wr.cell? ⟨y.eb, y.eo + k * 3 + 1, none⟩ = some (.int .i64 v.at_) := hIq.cell k v hv 1 _ rfl
                    have s2 : wr.cell? ⟨y.eb, y.eo + k * 3 + 2, none⟩ = some (.int .i64 v.val) := hIq.cell k v hv 2 _ rfl
                    clear hx1 hy1 hue hve hu hv hIp hIq hap haq
                    by_cases hxy : u = v
                    · have hneq := neqEt hxy
                      have HXY := Lib.hid hxy
                      clear hxy
                      go_wp2
                      go_quiet (fail)
                      go_wp2
                      go_roundw
                      case rel => exact ⟨k + 1, by go_num, by omega, Lib.hid (by rw [List.take_add_one, List.take_add_one, HE.out, HX.out, HY.out, HXY.out]), Lib.hid (HB.out.trans ((below_drewN _ _).mono HB.out.size))⟩
                      case measure => simp [intOf]; omega
                    · have hneq := neqEf hxy
                      have HXY := Lib.hid hxy
                      clear hxy
                      go_wp2
                      go_quiet (fail)
                      go_wp2
                      go_ret
                      refine ⟨HB0.out.trans ((HB.out.trans ((below_drewN _ _).mono HB.out.size)).mono HB0.out.size), _, rfl, ?_⟩
                      simp
                      intro e
                      have h0 : x.events = y.events := congrArg ModelM.events e
                      have h1 := HX.out
                      rw [h0, HY.out] at h1
                      cases h1
                      exact HXY.out rfl
                  · obtain rfl : k = x.events.length := by omega
                    rw [List.take_of_length_le (Nat.le_refl _), List.take_of_length_le (by have := HNn.out; omega)] at HE
                    go_wp2
                    go_ret
                    refine ⟨HB0.out.trans (HB.out.mono HB0.out.size), _, rfl, ?_⟩
                    simp [ModelV.m, HW.out, HPs.out, HLs.out, HE.out]
        · have heb : ((x.events.length : Int) != (y.events.length : Int)) = true := by simp; omega
          go_wp2
          go_ret
          exact ⟨HB0.out, _, rfl, by simp; intro e; exact he (congrArg (fun m => m.events.length) e)⟩
      · have hlb : ((x.links.length : Int) != (y.links.length : Int)) = true := by simp; omega
        go_wp2
        go_ret
        exact ⟨HB0.out, _, rfl, by simp; intro e; exact hl (congrArg (fun m => m.links.length) e)⟩
    · have hpb : ((x.procs.length : Int) != (y.procs.length : Int)) = true := by simp; omega
      go_wp2
      go_ret
      exact ⟨HB0.out, _, rfl, by simp; intro e; exact hp (by have := congrArg (fun m => m.procs.length) e; simpa [ModelV.m] using this)⟩
  · have hwb : (x.ver != y.ver) = true := by simpa using hw
    have HW := Lib.hid hw
    clear hw
    go_wp2
    go_ret
    exact ⟨HB0.out, _, rfl, by simp; intro e; exact HW.out (congrArg ModelM.ver e)⟩
end Go.Proofs.YtjcmeacgfflfmaaGreat.Md
