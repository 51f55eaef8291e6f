/- Upgrade: the same models? (the document's Same). -/
import Derived.Test.YtenjhbibhkjdaaaUl
import Derived.Test.YtenjhbibhkjdaaaMdK
set_option linter.unusedVariables false
set_option linter.unusedSectionVars false
set_option linter.unusedSimpArgs false
namespace Go.Proofs.Ytenjhbibhkjdaaa.Md
open Go.RowKit Go.Shelf

theorem below_drewN (W : World) (n : Nat) : Below W.heap.size W (W.drewN n) := ⟨rfl, rfl, rfl, Nat.le_refl _, fun _ _ => rfl⟩
theorem Try.structVs : Try.prog.underlying 81 = some (.struct (Try.prog.fieldsOf 81)) := by kernel_rfl
theorem Try.stoodVs : Try.prog.stoodInHeld 81 = false := by kernel_rfl
theorem Try.guardVs : Try.prog.eqGuardType Try.prog.depth 81 = false := by kernel_rfl
theorem neqVs (x y : VarM) (V : World) : (binOp BinOp.neq 81 (.agg #[.string x.name, .int .i64 x.init]) (.agg #[.string y.name, .int .i64 y.init])).run Try.prog V = .ok (.bool (!decide (x.name = y.name ∧ x.init = y.init))) V := by
  simp [go_sem, run_equalIn_agg _ _ _ _ _ Try.structVs Try.stoodVs, bytes_eq]
  repeat (first | (split <;> simp_all))
theorem neqVt {x y : VarM} (h : x = y) (V : World) : (binOp BinOp.neq 81 (.agg #[.string x.name, .int .i64 x.init]) (.agg #[.string y.name, .int .i64 y.init])).run Try.prog V = .ok (.bool false) V := by
  subst h
  rw [neqVs]
  simp
theorem neqVf {x y : VarM} (h : x ≠ y) (V : World) : (binOp BinOp.neq 81 (.agg #[.string x.name, .int .i64 x.init]) (.agg #[.string y.name, .int .i64 y.init])).run Try.prog V = .ok (.bool true) V := by
  rw [neqVs, decide_eq_false]
  · rfl
  · intro e
    apply h
    cases x
    cases y
    simp_all
theorem Try.structSs : Try.prog.underlying 100 = some (.struct (Try.prog.fieldsOf 100)) := by kernel_rfl
theorem Try.stoodSs : Try.prog.stoodInHeld 100 = false := by kernel_rfl
theorem Try.guardSs : Try.prog.eqGuardType Try.prog.depth 100 = false := by kernel_rfl
theorem neqSs (x y : StepM) (V : World) : (binOp BinOp.neq 100 (.agg #[.int .i64 x.kind, .string x.name, .int .i64 x.ak, .int .i64 x.an, .string x.aname]) (.agg #[.int .i64 y.kind, .string y.name, .int .i64 y.ak, .int .i64 y.an, .string y.aname])).run Try.prog V = .ok (.bool (!decide (x.kind = y.kind ∧ x.name = y.name ∧ x.ak = y.ak ∧ x.an = y.an ∧ x.aname = y.aname))) V := by
  simp [go_sem, run_equalIn_agg _ _ _ _ _ Try.structSs Try.stoodSs, bytes_eq]
  repeat (first | (split <;> simp_all))
theorem neqSt {x y : StepM} (h : x = y) (V : World) : (binOp BinOp.neq 100 (.agg #[.int .i64 x.kind, .string x.name, .int .i64 x.ak, .int .i64 x.an, .string x.aname]) (.agg #[.int .i64 y.kind, .string y.name, .int .i64 y.ak, .int .i64 y.an, .string y.aname])).run Try.prog V = .ok (.bool false) V := by
  subst h
  rw [neqSs]
  simp
theorem neqSf {x y : StepM} (h : x ≠ y) (V : World) : (binOp BinOp.neq 100 (.agg #[.int .i64 x.kind, .string x.name, .int .i64 x.ak, .int .i64 x.an, .string x.aname]) (.agg #[.int .i64 y.kind, .string y.name, .int .i64 y.ak, .int .i64 y.an, .string y.aname])).run Try.prog V = .ok (.bool true) V := by
  rw [neqSs, decide_eq_false]
  · rfl
  · intro e
    apply h
    cases x
    cases y
    simp_all
theorem Try.structLs : Try.prog.underlying 50 = some (.struct (Try.prog.fieldsOf 50)) := by kernel_rfl
theorem Try.stoodLs : Try.prog.stoodInHeld 50 = false := by kernel_rfl
theorem Try.guardLs : Try.prog.eqGuardType Try.prog.depth 50 = false := by kernel_rfl
theorem neqLs (x y : LinkM) (V : World) : (binOp BinOp.neq 50 (.agg #[.string x.name, .string x.frm, .string x.to_, .int .i64 x.delay, .int .i64 x.weight]) (.agg #[.string y.name, .string y.frm, .string y.to_, .int .i64 y.delay, .int .i64 y.weight])).run Try.prog V = .ok (.bool (!decide (x.name = y.name ∧ x.frm = y.frm ∧ x.to_ = y.to_ ∧ x.delay = y.delay ∧ x.weight = y.weight))) V := by
  simp [go_sem, run_equalIn_agg _ _ _ _ _ Try.structLs Try.stoodLs, bytes_eq]
  repeat (first | (split <;> simp_all))
theorem neqLt {x y : LinkM} (h : x = y) (V : World) : (binOp BinOp.neq 50 (.agg #[.string x.name, .string x.frm, .string x.to_, .int .i64 x.delay, .int .i64 x.weight]) (.agg #[.string y.name, .string y.frm, .string y.to_, .int .i64 y.delay, .int .i64 y.weight])).run Try.prog V = .ok (.bool false) V := by
  subst h
  rw [neqLs]
  simp
theorem neqLf {x y : LinkM} (h : x ≠ y) (V : World) : (binOp BinOp.neq 50 (.agg #[.string x.name, .string x.frm, .string x.to_, .int .i64 x.delay, .int .i64 x.weight]) (.agg #[.string y.name, .string y.frm, .string y.to_, .int .i64 y.delay, .int .i64 y.weight])).run Try.prog V = .ok (.bool true) V := by
  rw [neqLs, decide_eq_false]
  · rfl
  · intro e
    apply h
    cases x
    cases y
    simp_all
theorem Try.structEs : Try.prog.underlying 52 = some (.struct (Try.prog.fieldsOf 52)) := by kernel_rfl
theorem Try.stoodEs : Try.prog.stoodInHeld 52 = false := by kernel_rfl
theorem Try.guardEs : Try.prog.eqGuardType Try.prog.depth 52 = false := by kernel_rfl
theorem neqEs (x y : EventM) (V : World) : (binOp BinOp.neq 52 (.agg #[.string x.to_, .int .i64 x.at_, .int .i64 x.val]) (.agg #[.string y.to_, .int .i64 y.at_, .int .i64 y.val])).run Try.prog V = .ok (.bool (!decide (x.to_ = y.to_ ∧ x.at_ = y.at_ ∧ x.val = y.val))) V := by
  simp [go_sem, run_equalIn_agg _ _ _ _ _ Try.structEs Try.stoodEs, bytes_eq]
  repeat (first | (split <;> simp_all))
theorem neqEt {x y : EventM} (h : x = y) (V : World) : (binOp BinOp.neq 52 (.agg #[.string x.to_, .int .i64 x.at_, .int .i64 x.val]) (.agg #[.string y.to_, .int .i64 y.at_, .int .i64 y.val])).run Try.prog V = .ok (.bool false) V := by
  subst h
  rw [neqEs]
  simp
theorem neqEf {x y : EventM} (h : x ≠ y) (V : World) : (binOp BinOp.neq 52 (.agg #[.string x.to_, .int .i64 x.at_, .int .i64 x.val]) (.agg #[.string y.to_, .int .i64 y.at_, .int .i64 y.val])).run Try.prog V = .ok (.bool true) V := by
  rw [neqEs, decide_eq_false]
  · rfl
  · intro e
    apply h
    cases x
    cases y
    simp_all
set_option maxRecDepth 100000 in
set_option maxHeartbeats 4000000 in
theorem sameProc_any {w : World} {p q : ProcV} (hp : ProcIn w.heap.size w p) (hq : ProcIn w.heap.size w q) : Calls Try.prog 60 #[.agg #[.string p.p.name, .int .i64 p.p.weight, .slice p.va p.p.vars.length p.vc, .slice p.sa p.p.steps.length p.sc], .agg #[.string q.p.name, .int .i64 q.p.weight, .slice q.va q.p.vars.length q.vc, .slice q.sa q.p.steps.length q.sc]] w fun e w' => Below w.heap.size w w' ∧ ∃ b, e = .returned (.bool b) ∧ (b = true ↔ p.p = q.p) := by
  have hb0 : Below w.heap.size w ((w.alloc (.cells #[.string p.p.name, .int .i64 p.p.weight, .slice p.va p.p.vars.length p.vc, .slice p.sa p.p.steps.length p.sc] 39)).alloc (.cells #[.string q.p.name, .int .i64 q.p.weight, .slice q.va q.p.vars.length q.vc, .slice q.sa q.p.steps.length q.sc] 39)) := ((Below.refl _ w).alloc (Nat.le_refl _) _).alloc (by simp) _
  have HA : Hid (((w.alloc (.cells #[.string p.p.name, .int .i64 p.p.weight, .slice p.va p.p.vars.length p.vc, .slice p.sa p.p.steps.length p.sc] 39)).alloc (.cells #[.string q.p.name, .int .i64 q.p.weight, .slice q.va q.p.vars.length q.vc, .slice q.sa q.p.steps.length q.sc] 39)).heap[w.heap.size]? = some (.cells #[.string p.p.name, .int .i64 p.p.weight, .slice p.va p.p.vars.length p.vc, .slice p.sa p.p.steps.length p.sc] 39 (0, 0))) := Lib.hid (heap_alloc (heap_new _ rfl) _)
  have HQ : Hid (((w.alloc (.cells #[.string p.p.name, .int .i64 p.p.weight, .slice p.va p.p.vars.length p.vc, .slice p.sa p.p.steps.length p.sc] 39)).alloc (.cells #[.string q.p.name, .int .i64 q.p.weight, .slice q.va q.p.vars.length q.vc, .slice q.sa q.p.steps.length q.sc] 39)).heap[w.heap.size + 1]? = some (.cells #[.string q.p.name, .int .i64 q.p.weight, .slice q.va q.p.vars.length q.vc, .slice q.sa q.p.steps.length q.sc] 39 (0, 0))) := Lib.hid (heap_new _ (by simp))
  have HB0 := Lib.hid hb0
  have HP := Lib.hid (hp.on hb0)
  have HPq := Lib.hid (hq.on hb0)
  have hsv : (p.p.vars.length : Int) ≤ 9223372036854775807 := by have := hp.vars.small; unfold maxLen at this; omega
  have hss : (p.p.steps.length : Int) ≤ 9223372036854775807 := by have := hp.steps.small; unfold maxLen at this; omega
  clear hb0 hp hq
  go_enter Try.func60, Try.ntmps60
  go_upto_region 1 with fail
  generalize ((w.alloc (.cells #[.string p.p.name, .int .i64 p.p.weight, .slice p.va p.p.vars.length p.vc, .slice p.sa p.p.steps.length p.sc] 39)).alloc (.cells #[.string q.p.name, .int .i64 q.p.weight, .slice q.va q.p.vars.length q.vc, .slice q.sa q.p.steps.length q.sc] 39)) = w1 at *
  have a0 : w1.cell? ⟨w.heap.size, 0, none⟩ = some (.string p.p.name) := heap_cell HA.out rfl
  have a1 : w1.cell? ⟨w.heap.size, 1, none⟩ = some (.int .i64 p.p.weight) := heap_cell HA.out rfl
  have a2 : w1.cell? ⟨w.heap.size, 2, none⟩ = some (.slice p.va p.p.vars.length p.vc) := heap_cell HA.out rfl
  have a3 : w1.cell? ⟨w.heap.size, 3, none⟩ = some (.slice p.sa p.p.steps.length p.sc) := heap_cell HA.out rfl
  have b0 : w1.cell? ⟨w.heap.size + 1, 0, none⟩ = some (.string q.p.name) := heap_cell HQ.out rfl
  have b1 : w1.cell? ⟨w.heap.size + 1, 1, none⟩ = some (.int .i64 q.p.weight) := heap_cell HQ.out rfl
  have b2 : w1.cell? ⟨w.heap.size + 1, 2, none⟩ = some (.slice q.va q.p.vars.length q.vc) := heap_cell HQ.out rfl
  have b3 : w1.cell? ⟨w.heap.size + 1, 3, none⟩ = some (.slice q.sa q.p.steps.length q.sc) := heap_cell HQ.out rfl
  by_cases hn : p.p.name = q.p.name
  · have hnb : (p.p.name.toList != q.p.name.toList) = false := by rw [bne, bytes_eq, decide_eq_true hn]; rfl
    have hnc : (p.p.name.toList == q.p.name.toList) = true := by rw [bytes_eq, decide_eq_true hn]
    have HN := Lib.hid hn
    clear hn
    by_cases hw : p.p.weight = q.p.weight
    · have hwb : (p.p.weight != q.p.weight) = false := by simpa using hw
      have HW := Lib.hid hw
      clear hw
      by_cases hv : p.p.vars.length = q.p.vars.length
      · have hvb : ((p.p.vars.length : Int) != (q.p.vars.length : Int)) = false := by simp; omega
        by_cases hs : p.p.steps.length = q.p.steps.length
        · have hsb : ((p.p.steps.length : Int) != (q.p.steps.length : Int)) = false := by simp; omega
          go_wp2
          clear a0 a1 a2 a3 b0 b1 b2 b3
          go_loopw [5] (fun i wr => ∃ k : Nat, i = .int .i64 (k : Int) ∧ k ≤ p.p.vars.length ∧ Hid (p.p.vars.take k = q.p.vars.take k) ∧ Hid (Below w1.heap.size w1 wr)) (fun i _ => p.p.vars.length - (intOf i).toNat)
          case atStart => exact ⟨0, rfl, Nat.zero_le _, Lib.hid rfl, Lib.hid (Below.refl _ _)⟩
          case round =>
            
            obtain ⟨k, rfl, hk, HE, HB⟩ := hrel
            have hk0 : (0 : Int) ≤ (k : Int) := Int.natCast_nonneg k
            have hA := heap_below HA.out HB.out (heap_lt HA.out)
            have hB := heap_below HQ.out HB.out (heap_lt HQ.out)
            have a0 : wr.cell? ⟨w.heap.size, 0, none⟩ = some (.string p.p.name) := heap_cell hA rfl
            have a1 : wr.cell? ⟨w.heap.size, 1, none⟩ = some (.int .i64 p.p.weight) := heap_cell hA rfl
            have a2 : wr.cell? ⟨w.heap.size, 2, none⟩ = some (.slice p.va p.p.vars.length p.vc) := heap_cell hA rfl
            have a3 : wr.cell? ⟨w.heap.size, 3, none⟩ = some (.slice p.sa p.p.steps.length p.sc) := heap_cell hA rfl
            have b0 : wr.cell? ⟨w.heap.size + 1, 0, none⟩ = some (.string q.p.name) := heap_cell hB rfl
            have b1 : wr.cell? ⟨w.heap.size + 1, 1, none⟩ = some (.int .i64 q.p.weight) := heap_cell hB rfl
            have b2 : wr.cell? ⟨w.heap.size + 1, 2, none⟩ = some (.slice q.va q.p.vars.length q.vc) := heap_cell hB rfl
            have b3 : wr.cell? ⟨w.heap.size + 1, 3, none⟩ = some (.slice q.sa q.p.steps.length q.sc) := heap_cell hB rfl
            clear hA hB
            by_cases hlt : k < p.p.vars.length
            · have hlq : k < q.p.vars.length := by omega
              have hki : (k : Int) < (p.p.vars.length : Int) := by omega
              have hkq : (k : Int) < (q.p.vars.length : Int) := by omega
              have hx1 : p.p.vars[k]? = some (p.p.vars[k]'hlt) := List.getElem?_eq_getElem _
              have hy1 : q.p.vars[k]? = some (q.p.vars[k]'hlq) := List.getElem?_eq_getElem _
              obtain ⟨x, hxe⟩ : ∃ x, p.p.vars[k]'hlt = x := ⟨_, rfl⟩
              obtain ⟨y, hye⟩ : ∃ y, q.p.vars[k]'hlq = y := ⟨_, rfl⟩
              have hx : p.p.vars[k]? = some x := by rw [hx1, hxe]
              have hy : q.p.vars[k]? = some y := by rw [hy1, hye]
              have hIp := HP.out.vars.kept HB.out (Nat.le_refl _)
              have hIq := HPq.out.vars.kept HB.out (Nat.le_refl _)
              have hap := hIp.addr.resolve_left (by omega)
              have haq := hIq.addr.resolve_left (by omega)
              rw [hap] at a2
              rw [haq] at b2
              have hg := Try.guardVs
              have HX := Lib.hid hx
              have HY := Lib.hid hy
              have r0 : wr.cell? ⟨p.vb, p.vo + k * 2, none⟩ = some (.string x.name) := hIp.cell k x hx 0 _ rfl
              have r1 : wr.cell? ⟨p.vb, p.vo + k * 2 + 1, none⟩ = some (.int .i64 x.init) := hIp.cell k x hx 1 _ rfl
              have s0 : wr.cell? ⟨q.vb, q.vo + k * 2, none⟩ = some (.string y.name) := hIq.cell k y hy 0 _ rfl
              have s1 : wr.cell? ⟨q.vb, q.vo + k * 2 + 1, none⟩ = some (.int .i64 y.init) := hIq.cell k y hy 1 _ rfl
              clear hx1 hy1 hxe hye hx hy hIp hIq hap haq
              by_cases hxy : x = y
              · have hneq := neqVt hxy
                have HXY := Lib.hid hxy
                clear hxy
                go_wp2
                go_quiet (fail)
                go_wp2
                go_roundw
                case rel => exact ⟨k + 1, by go_num, by omega, Lib.hid (by rw [List.take_add_one, List.take_add_one, HE.out, HX.out, HY.out, HXY.out]), Lib.hid (HB.out.trans ((below_drewN _ _).mono HB.out.size))⟩
                case measure => simp [intOf]; omega
              · have hneq := neqVf hxy
                have HXY := Lib.hid hxy
                clear hxy
                go_wp2
                go_quiet (fail)
                go_wp2
                go_ret
                refine ⟨HB0.out.trans ((HB.out.trans ((below_drewN _ _).mono HB.out.size)).mono HB0.out.size), _, rfl, ?_⟩
                simp
                intro e
                have h1 := HX.out
                rw [e, HY.out] at h1
                cases h1
                exact HXY.out rfl
            · obtain rfl : k = p.p.vars.length := by omega
              rw [List.take_of_length_le (Nat.le_refl _), List.take_of_length_le (by omega)] at HE
              have HB1 := HB
              have HVs := HE
              clear HE HB
              go_wp2
              clear a0 a1 a2 a3 b0 b1 b2 b3
              go_loopw [6] (fun i wr => ∃ k : Nat, i = .int .i64 (k : Int) ∧ k ≤ p.p.steps.length ∧ Hid (p.p.steps.take k = q.p.steps.take k) ∧ Hid (Below w1.heap.size w1 wr)) (fun i _ => p.p.steps.length - (intOf i).toNat)
              case atStart => exact ⟨0, rfl, Nat.zero_le _, Lib.hid rfl, HB1⟩
              case round =>
                clear HB1
                obtain ⟨k, rfl, hk, HE, HB⟩ := hrel
                have hk0 : (0 : Int) ≤ (k : Int) := Int.natCast_nonneg k
                have hA := heap_below HA.out HB.out (heap_lt HA.out)
                have hB := heap_below HQ.out HB.out (heap_lt HQ.out)
                have a0 : wr.cell? ⟨w.heap.size, 0, none⟩ = some (.string p.p.name) := heap_cell hA rfl
                have a1 : wr.cell? ⟨w.heap.size, 1, none⟩ = some (.int .i64 p.p.weight) := heap_cell hA rfl
                have a2 : wr.cell? ⟨w.heap.size, 2, none⟩ = some (.slice p.va p.p.vars.length p.vc) := heap_cell hA rfl
                have a3 : wr.cell? ⟨w.heap.size, 3, none⟩ = some (.slice p.sa p.p.steps.length p.sc) := heap_cell hA rfl
                have b0 : wr.cell? ⟨w.heap.size + 1, 0, none⟩ = some (.string q.p.name) := heap_cell hB rfl
                have b1 : wr.cell? ⟨w.heap.size + 1, 1, none⟩ = some (.int .i64 q.p.weight) := heap_cell hB rfl
                have b2 : wr.cell? ⟨w.heap.size + 1, 2, none⟩ = some (.slice q.va q.p.vars.length q.vc) := heap_cell hB rfl
                have b3 : wr.cell? ⟨w.heap.size + 1, 3, none⟩ = some (.slice q.sa q.p.steps.length q.sc) := heap_cell hB rfl
                clear hA hB
                by_cases hlt : k < p.p.steps.length
                · have hlq : k < q.p.steps.length := by omega
                  have hki : (k : Int) < (p.p.steps.length : Int) := by omega
                  have hkq : (k : Int) < (q.p.steps.length : Int) := by omega
                  have hx1 : p.p.steps[k]? = some (p.p.steps[k]'hlt) := List.getElem?_eq_getElem _
                  have hy1 : q.p.steps[k]? = some (q.p.steps[k]'hlq) := List.getElem?_eq_getElem _
                  obtain ⟨x, hxe⟩ : ∃ x, p.p.steps[k]'hlt = x := ⟨_, rfl⟩
                  obtain ⟨y, hye⟩ : ∃ y, q.p.steps[k]'hlq = y := ⟨_, rfl⟩
                  have hx : p.p.steps[k]? = some x := by rw [hx1, hxe]
                  have hy : q.p.steps[k]? = some y := by rw [hy1, hye]
                  have hIp := HP.out.steps.kept HB.out (Nat.le_refl _)
                  have hIq := HPq.out.steps.kept HB.out (Nat.le_refl _)
                  have hap := hIp.addr.resolve_left (by omega)
                  have haq := hIq.addr.resolve_left (by omega)
                  rw [hap] at a3
                  rw [haq] at b3
                  have hg := Try.guardSs
                  have HX := Lib.hid hx
                  have HY := Lib.hid hy
                  have r0 : wr.cell? ⟨p.sb, p.so + k * 5, none⟩ = some (.int .i64 x.kind) := hIp.cell k x hx 0 _ rfl
                  have r1 : wr.cell? ⟨p.sb, p.so + k * 5 + 1, none⟩ = some (.string x.name) := hIp.cell k x hx 1 _ rfl
                  have r2 : wr.cell? ⟨p.sb, p.so + k * 5 + 2, none⟩ = some (.int .i64 x.ak) := hIp.cell k x hx 2 _ rfl
                  have r3 : wr.cell? ⟨p.sb, p.so + k * 5 + 3, none⟩ = some (.int .i64 x.an) := hIp.cell k x hx 3 _ rfl
                  have r4 : wr.cell? ⟨p.sb, p.so + k * 5 + 4, none⟩ = some (.string x.aname) := hIp.cell k x hx 4 _ rfl
                  have s0 : wr.cell? ⟨q.sb, q.so + k * 5, none⟩ = some (.int .i64 y.kind) := hIq.cell k y hy 0 _ rfl
                  have s1 : wr.cell? ⟨q.sb, q.so + k * 5 + 1, none⟩ = some (.string y.name) := hIq.cell k y hy 1 _ rfl
                  have s2 : wr.cell? ⟨q.sb, q.so + k * 5 + 2, none⟩ = some (.int .i64 y.ak) := hIq.cell k y hy 2 _ rfl
                  have s3 : wr.cell? ⟨q.sb, q.so + k * 5 + 3, none⟩ = some (.int .i64 y.an) := hIq.cell k y hy 3 _ rfl
                  have s4 : wr.cell? ⟨q.sb, q.so + k * 5 + 4, none⟩ = some (.string y.aname) := hIq.cell k y hy 4 _ rfl
                  clear hx1 hy1 hxe hye hx hy hIp hIq hap haq
                  by_cases hxy : x = y
                  · have hneq := neqSt hxy
                    have HXY := Lib.hid hxy
                    clear hxy
                    go_wp2
                    go_quiet (fail)
                    go_wp2
                    go_roundw
                    case rel => exact ⟨k + 1, by go_num, by omega, Lib.hid (by rw [List.take_add_one, List.take_add_one, HE.out, HX.out, HY.out, HXY.out]), Lib.hid (HB.out.trans ((below_drewN _ _).mono HB.out.size))⟩
                    case measure => simp [intOf]; omega
                  · have hneq := neqSf hxy
                    have HXY := Lib.hid hxy
                    clear hxy
                    go_wp2
                    go_quiet (fail)
                    go_wp2
                    go_ret
                    refine ⟨HB0.out.trans ((HB.out.trans ((below_drewN _ _).mono HB.out.size)).mono HB0.out.size), _, rfl, ?_⟩
                    simp
                    intro e
                    have h1 := HX.out
                    rw [e, HY.out] at h1
                    cases h1
                    exact HXY.out rfl
                · obtain rfl : k = p.p.steps.length := by omega
                  rw [List.take_of_length_le (Nat.le_refl _), List.take_of_length_le (by omega)] at HE
                  go_wp2
                  go_ret
                  refine ⟨HB0.out.trans (HB.out.mono HB0.out.size), _, rfl, ?_⟩
                  simp
                  have h1 := HN.out
                  have h2 := HW.out
                  have h3 := HVs.out
                  have h4 := HE.out
                  obtain ⟨⟨n1, g1, v1, s1⟩, _⟩ := p
                  obtain ⟨⟨n2, g2, v2, s2⟩, _⟩ := q
                  simp_all
        · have hsb : ((p.p.steps.length : Int) != (q.p.steps.length : Int)) = true := by simp; omega
          go_wp2
          go_ret
          exact ⟨HB0.out, _, rfl, by simp; intro e; rw [e] at hs; exact hs rfl⟩
      · have hvb : ((p.p.vars.length : Int) != (q.p.vars.length : Int)) = true := by simp; omega
        go_wp2
        go_ret
        exact ⟨HB0.out, _, rfl, by simp; intro e; rw [e] at hv; exact hv rfl⟩
    · have hwb : (p.p.weight != q.p.weight) = true := by simpa using hw
      have HW := Lib.hid hw
      clear hw
      go_wp2
      go_ret
      exact ⟨HB0.out, _, rfl, by simp; intro e; exact HW.out (by rw [e])⟩
  · have hnb : (p.p.name.toList != q.p.name.toList) = true := by rw [bne, bytes_eq, decide_eq_false hn]; rfl
    have hnc : (p.p.name.toList == q.p.name.toList) = false := by rw [bytes_eq, decide_eq_false hn]
    have HN := Lib.hid hn
    clear hn
    go_wp2
    go_ret
    exact ⟨HB0.out, _, rfl, by simp; intro e; exact HN.out (by rw [e])⟩
end Go.Proofs.Ytenjhbibhkjdaaa.Md
