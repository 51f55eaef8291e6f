/- Contracts: what the document finds wrong with a process. -/
import Derived.Test.YtenjhbibhkjdaaaMeG
import Derived.Test.YtenjhbibhkjdaaaMeB
import Derived.Test.YtenjhbibhkjdaaaIr
set_option linter.unusedVariables false
set_option linter.unusedSectionVars false
set_option linter.unusedSimpArgs false
namespace Go.Proofs.Ytenjhbibhkjdaaa.Md
open Go.RowKit Go.Shelf

theorem chk_two (s : ByteArray) : Ic.chkE s = 0 ∨ Ic.chkE s = 40 := by unfold Ic.chkE; split <;> simp
theorem plc_iff {l : List ByteArray} {i : Nat} {y : ByteArray} (h : l[i]? = some y) : (plcI l y = (i : Int)) ↔ ¬ ((fstP l y).getD 0 < i) := by
  obtain ⟨j, hj, h2⟩ := fstP_mem h
  rw [plc_pos h2, h2]
  show (j : Int) = (i : Int) ↔ ¬ j < i
  omega
/-- The boxes of a process's check. -/
structure Pb (x : ModelV) (p : ProcV) (w W : World) : Prop where
  a : W.heap[w.heap.size]? = some (.cells #[.int .i64 x.ver, .slice x.pa x.procs.length x.pc, .slice x.la x.links.length x.lc, .slice x.ea x.events.length x.ec] 26 (0, 0))
  b : W.heap[w.heap.size + 1]? = some (.cells #[.string p.p.name, .int .i64 p.p.weight, .slice p.va p.p.vars.length p.vc, .slice p.sa p.p.steps.length p.sc] 39 (0, 0))
  low : Below w.heap.size w W
theorem Pb.on {x : ModelV} {p : ProcV} {w W W' : World} (h : Pb x p w W) (hb : Below W.heap.size W W') : Pb x p w W' :=
  ⟨heap_below h.a hb (heap_lt h.a), heap_below h.b hb (heap_lt h.b), h.low.trans (hb.mono h.low.size)⟩
theorem Pb.ab {x : ModelV} {p : ProcV} {w W : World} (h : Pb x p w W) : w.heap.size + 1 < W.heap.size := heap_lt h.b
theorem varE_chk {f : ByteArray → Option Nat} {k : Nat} {v : VarM} (h : Ic.chkE v.name ≠ 0) : varE f k v = 40 := by
  have h2 := (chk_two v.name).resolve_left h
  unfold varE nmE
  rw [h2]
  split
  · rfl
  · rw [if_pos (show (40 : Int) ≠ 0 by decide), if_pos (show (40 : Int) ≠ 0 by decide)]
theorem varE_val {f : ByteArray → Option Nat} {k : Nat} {v : VarM} (h : (v.name.toList == [118, 97, 108, 117, 101]) = true) : varE f k v = 40 := by
  unfold varE
  rw [if_pos h]
theorem varE_two {f : ByteArray → Option Nat} {k : Nat} {v : VarM} (h1 : Ic.chkE v.name = 0) (h2 : (v.name.toList == [118, 97, 108, 117, 101]) = false) (h3 : (f v.name).getD 0 < k) : varE f k v = 5 := by
  unfold varE nmE
  rw [h2, if_neg (by decide), h1, if_neg (show ¬ (0 : Int) ≠ 0 by decide), if_pos h3, if_pos (show (5 : Int) ≠ 0 by decide)]
theorem varE_num {f : ByteArray → Option Nat} {k : Nat} {v : VarM} (h1 : Ic.chkE v.name = 0) (h2 : (v.name.toList == [118, 97, 108, 117, 101]) = false) (h3 : ¬ (f v.name).getD 0 < k) : varE f k v = if numB v.init then 0 else 23 := by
  unfold varE nmE
  rw [h2, if_neg (by decide), h1, if_neg (show ¬ (0 : Int) ≠ 0 by decide), if_neg h3, if_neg (show ¬ (0 : Int) ≠ 0 by decide)]
/-- While a variable is looked at. -/
structure Vb (x : ModelV) (p : ProcV) (v : VarM) (w w0 W : World) : Prop where
  t : Pb x p w W
  v : W.heap[w0.heap.size]? = some (.cells #[.string v.name, .int .i64 v.init] 81 (0, 0))
theorem Vb.on {x : ModelV} {p : ProcV} {v : VarM} {w w0 W W' : World} (h : Vb x p v w w0 W) (hb : Below W.heap.size W W') : Vb x p v w w0 W' := ⟨h.t.on hb, heap_below h.v hb (heap_lt h.v)⟩
set_option maxRecDepth 100000 in
set_option maxHeartbeats 4000000 in
theorem rprocE_any {w : World} {x : ModelV} (h : ModelAt w.heap.size w x) {i : Nat} {p : ProcV} (hp : x.procs[i]? = some p) : Calls Try.prog 35 #[.agg #[.int .i64 x.ver, .slice x.pa x.procs.length x.pc, .slice x.la x.links.length x.lc, .slice x.ea x.events.length x.ec], .int .i64 (i : Int)] w fun e w' => e = .returned (.int .i64 (prE x.ver x.links (fstP (nmsP x.m)) i p.p)) ∧ Below w.heap.size w w' := by
  have hil : i < x.procs.length := (List.getElem?_eq_some_iff.1 hp).1
  have hsm := h.procs.small
  unfold maxLen at hsm
  have hi0 : (0 : Int) ≤ (i : Int) := Int.natCast_nonneg i
  have hii : (i : Int) < (x.procs.length : Int) := by omega
  have HPl := Lib.hid (plc_iff (nm_at (m := x.m) (i := i) (p := p.p) (by unfold ModelV.m; rw [List.getElem?_map, hp]; rfl)))
  have HA : Hid (prE x.ver x.links (fstP (nmsP x.m)) i p.p = if nmE (fstP (nmsP x.m)) p.p.name i ≠ 0 then nmE (fstP (nmsP x.m)) p.p.name i else if wgtB x.ver p.p.weight then if decide (64 < p.p.vars.length) || decide (256 < p.p.steps.length) then 3 else inE x.links p.p else 41) := Lib.hid rfl
  have HNm : Hid (nmE (fstP (nmsP x.m)) p.p.name i = if Ic.chkE p.p.name ≠ 0 then Ic.chkE p.p.name else if ((fstP (nmsP x.m)) p.p.name).getD 0 < i then 5 else 0) := Lib.hid rfl
  have HM := Lib.hid h
  have HP := Lib.hid (h.inner p (List.mem_of_getElem? hp))
  have hfp : p.p.name.size ≤ maxLen := h.procs.fits p (List.mem_of_getElem? hp)
  have hX1 := heap_new (w := w) (.cells #[.int .i64 x.ver, .slice x.pa x.procs.length x.pc, .slice x.la x.links.length x.lc, .slice x.ea x.events.length x.ec] 26) rfl
  have hB1 := below_one w (.cells #[.int .i64 x.ver, .slice x.pa x.procs.length x.pc, .slice x.la x.links.length x.lc, .slice x.ea x.events.length x.ec] 26)
  have HX := Lib.hid hX1
  have HT : Hid (Pb x p w ((w.alloc (.cells #[.int .i64 x.ver, .slice x.pa x.procs.length x.pc, .slice x.la x.links.length x.lc, .slice x.ea x.events.length x.ec] 26)).alloc (.cells #[.string p.p.name, .int .i64 p.p.weight, .slice p.va p.p.vars.length p.vc, .slice p.sa p.p.steps.length p.sc] 39))) := Lib.hid ⟨heap_alloc hX1 _, heap_new _ (by simp), hB1.alloc (by simp) _⟩
  have hrow := h.procs.kept hB1 (Nat.le_refl _)
  have ha := h.procs.addr.resolve_left (by omega)
  have r0 := hrow.cell i p hp 0 _ rfl
  have r1 := hrow.cell i p hp 1 _ rfl
  have r2 := hrow.cell i p hp 2 _ rfl
  have r3 := hrow.cell i p hp 3 _ rfl
  simp only [ProcV.vv, ProcV.sv, Nat.add_zero] at r0 r1 r2 r3
  have a1 := heap_cell hX1 (i := 1) rfl
  rw [show (#[.int .i64 x.ver, .slice x.pa x.procs.length x.pc, .slice x.la x.links.length x.lc, .slice x.ea x.events.length x.ec] : Array Value)[1] = .slice (some ⟨x.pb, x.po, none⟩) x.procs.length x.pc by rw [ha]; rfl] at a1
  have HPX := Lib.hid hp
  clear h hp hX1 hB1 hrow ha hsm
  generalize prE x.ver x.links (fstP (nmsP x.m)) i p.p = r at *
  go_enter Try.func35, Try.ntmps35
  go_wp2_with fail
  clear r0 r1 r2 r3 a1 HX
  generalize (w.alloc (.cells #[.int .i64 x.ver, .slice x.pa x.procs.length x.pc, .slice x.la x.links.length x.lc, .slice x.ea x.events.length x.ec] 26)).alloc (.cells #[.string p.p.name, .int .i64 p.p.weight, .slice p.va p.p.vars.length p.vc, .slice p.sa p.p.steps.length p.sc] 39) = w2 at *
  refine (Ic.xcheck_any p.p.name hfp _).mono ?_
  rintro e w' ⟨rfl, rfl⟩
  by_cases hc : Ic.chkE p.p.name = 0
  · have hcb : (Ic.chkE p.p.name != 0) = false := by simpa using hc
    have hn2 := HNm.out
    rw [if_neg (by simpa using hc)] at hn2
    have a0 : w2.cell? ⟨w.heap.size, 0, none⟩ = some (.int .i64 x.ver) := heap_cell HT.out.a rfl
    have a1 : w2.cell? ⟨w.heap.size, 1, none⟩ = some (.slice x.pa x.procs.length x.pc) := heap_cell HT.out.a rfl
    have a2 : w2.cell? ⟨w.heap.size, 2, none⟩ = some (.slice x.la x.links.length x.lc) := heap_cell HT.out.a rfl
    have a3 : w2.cell? ⟨w.heap.size, 3, none⟩ = some (.slice x.ea x.events.length x.ec) := heap_cell HT.out.a rfl
    have b0 : w2.cell? ⟨w.heap.size + 1, 0, none⟩ = some (.string p.p.name) := heap_cell HT.out.b rfl
    have b1 : w2.cell? ⟨w.heap.size + 1, 1, none⟩ = some (.int .i64 p.p.weight) := heap_cell HT.out.b rfl
    have b2 : w2.cell? ⟨w.heap.size + 1, 2, none⟩ = some (.slice p.va p.p.vars.length p.vc) := heap_cell HT.out.b rfl
    have b3 : w2.cell? ⟨w.heap.size + 1, 3, none⟩ = some (.slice p.sa p.p.steps.length p.sc) := heap_cell HT.out.b rfl
    rw [hc]
    go_wp2_with fail
    clear a0 a1 a2 a3 b0 b1 b2 b3
    refine (rproc_any (HM.out.on HT.out.low) p.p.name).mono ?_
    rintro e w3 ⟨rfl, hb⟩
    replace HT := Lib.hid (HT.out.on hb)
    clear hb
    by_cases hj : (fstP (nmsP x.m) p.p.name).getD 0 < i
    · have hne : (plcI (nmsP x.m) p.p.name != (i : Int)) = true := by
        simp only [bne_iff_ne, ne_eq]
        exact fun e => absurd hj (HPl.out.1 e)
      have HR : Hid (r = 5) := Lib.hid (by rw [HA.out, hn2, if_pos hj]; rfl)
      clear hn2 HPl hj
      generalize plcI (nmsP x.m) p.p.name = q at *
      go_wp2
      go_ret
      exact ⟨by rw [HR.out]; rfl, HT.out.low⟩
    · have hpe : plcI (nmsP x.m) p.p.name = (i : Int) := HPl.out.2 hj
      rw [hpe]
      have hn0 : nmE (fstP (nmsP x.m)) p.p.name i = 0 := by rw [hn2, if_neg hj]
      have HA2 : Hid (r = if wgtB x.ver p.p.weight then if decide (64 < p.p.vars.length) || decide (256 < p.p.steps.length) then 3 else inE x.links p.p else 41) := Lib.hid (by rw [HA.out, hn0]; rfl)
      clear hn2 HPl hj HA HNm hn0 hpe
      have a0 : w3.cell? ⟨w.heap.size, 0, none⟩ = some (.int .i64 x.ver) := heap_cell HT.out.a rfl
      have a1 : w3.cell? ⟨w.heap.size, 1, none⟩ = some (.slice x.pa x.procs.length x.pc) := heap_cell HT.out.a rfl
      have a2 : w3.cell? ⟨w.heap.size, 2, none⟩ = some (.slice x.la x.links.length x.lc) := heap_cell HT.out.a rfl
      have a3 : w3.cell? ⟨w.heap.size, 3, none⟩ = some (.slice x.ea x.events.length x.ec) := heap_cell HT.out.a rfl
      have b0 : w3.cell? ⟨w.heap.size + 1, 0, none⟩ = some (.string p.p.name) := heap_cell HT.out.b rfl
      have b1 : w3.cell? ⟨w.heap.size + 1, 1, none⟩ = some (.int .i64 p.p.weight) := heap_cell HT.out.b rfl
      have b2 : w3.cell? ⟨w.heap.size + 1, 2, none⟩ = some (.slice p.va p.p.vars.length p.vc) := heap_cell HT.out.b rfl
      have b3 : w3.cell? ⟨w.heap.size + 1, 3, none⟩ = some (.slice p.sa p.p.steps.length p.sc) := heap_cell HT.out.b rfl
      go_wp2_with fail
      clear a0 a1 a2 a3 b0 b1 b2 b3
      refine (rweight_any x p.p.weight _).mono ?_
      rintro e w4 ⟨rfl, hb⟩
      replace HT := Lib.hid (HT.out.on hb)
      clear hb
      generalize wgtB x.ver p.p.weight = gb at *
      cases gb with
      | false =>
        have HR : Hid (r = 41) := Lib.hid (by rw [HA2.out]; rfl)
        go_wp2
        go_ret
        exact ⟨by rw [HR.out]; rfl, HT.out.low⟩
      | true =>
        have HA3 : Hid (r = if decide (64 < p.p.vars.length) || decide (256 < p.p.steps.length) then 3 else inE x.links p.p) := Lib.hid (by rw [HA2.out]; rfl)
        clear HA2
        have a0 : w4.cell? ⟨w.heap.size, 0, none⟩ = some (.int .i64 x.ver) := heap_cell HT.out.a rfl
        have a1 : w4.cell? ⟨w.heap.size, 1, none⟩ = some (.slice x.pa x.procs.length x.pc) := heap_cell HT.out.a rfl
        have a2 : w4.cell? ⟨w.heap.size, 2, none⟩ = some (.slice x.la x.links.length x.lc) := heap_cell HT.out.a rfl
        have a3 : w4.cell? ⟨w.heap.size, 3, none⟩ = some (.slice x.ea x.events.length x.ec) := heap_cell HT.out.a rfl
        have b0 : w4.cell? ⟨w.heap.size + 1, 0, none⟩ = some (.string p.p.name) := heap_cell HT.out.b rfl
        have b1 : w4.cell? ⟨w.heap.size + 1, 1, none⟩ = some (.int .i64 p.p.weight) := heap_cell HT.out.b rfl
        have b2 : w4.cell? ⟨w.heap.size + 1, 2, none⟩ = some (.slice p.va p.p.vars.length p.vc) := heap_cell HT.out.b rfl
        have b3 : w4.cell? ⟨w.heap.size + 1, 3, none⟩ = some (.slice p.sa p.p.steps.length p.sc) := heap_cell HT.out.b rfl
        by_cases h64 : 64 < p.p.vars.length
        · have g64 : decide ((64 : Int) < (p.p.vars.length : Int)) = true := by simp; omega
          have HR : Hid (r = 3) := Lib.hid (by rw [HA3.out, decide_eq_true h64]; rfl)
          go_wp2
          go_ret
          exact ⟨by rw [HR.out]; rfl, HT.out.low⟩
        · have g64 : decide ((64 : Int) < (p.p.vars.length : Int)) = false := by simp; omega
          by_cases h256 : 256 < p.p.steps.length
          · have g256 : decide ((256 : Int) < (p.p.steps.length : Int)) = true := by simp; omega
            have HR : Hid (r = 3) := Lib.hid (by rw [HA3.out, decide_eq_true h256, Bool.or_true]; rfl)
            go_wp2
            go_ret
            exact ⟨by rw [HR.out]; rfl, HT.out.low⟩
          · have g256 : decide ((256 : Int) < (p.p.steps.length : Int)) = false := by simp; omega
            have HIn : Hid (r = if (fErr (varE (fstP (vNames p.p))) 0 p.p.vars).1 = 0 then (fErr (fun _ s => stE x.links p.p.name (fstP (vNames p.p)) s) 0 p.p.steps).1 else (fErr (varE (fstP (vNames p.p))) 0 p.p.vars).1) := Lib.hid (by rw [HA3.out, decide_eq_false h64, decide_eq_false h256]; rfl)
            clear HA3
            go_wp2
            clear a0 a1 a2 a3 b0 b1 b2 b3 g64 g256
            go_loopw [6] (fun i wr => ∃ k : Nat, i = .int .i64 (k : Int) ∧ k ≤ p.p.vars.length ∧ Hid (Pb x p w wr) ∧ Hid (∀ j v, j < k → p.p.vars[j]? = some v → varE (fstP (vNames p.p)) (0 + j) v = 0)) (fun i _ => p.p.vars.length - (intOf i).toNat)
            case atStart => exact ⟨0, rfl, Nat.zero_le _, HT, Lib.hid (fun j v hj => by omega)⟩
            case round =>
              clear HT
              obtain ⟨k, rfl, hk, HT, HZ⟩ := hrel
              have hk0 : (0 : Int) ≤ (k : Int) := Int.natCast_nonneg k
              have a0 : wr.cell? ⟨w.heap.size, 0, none⟩ = some (.int .i64 x.ver) := heap_cell HT.out.a rfl
              have a1 : wr.cell? ⟨w.heap.size, 1, none⟩ = some (.slice x.pa x.procs.length x.pc) := heap_cell HT.out.a rfl
              have a2 : wr.cell? ⟨w.heap.size, 2, none⟩ = some (.slice x.la x.links.length x.lc) := heap_cell HT.out.a rfl
              have a3 : wr.cell? ⟨w.heap.size, 3, none⟩ = some (.slice x.ea x.events.length x.ec) := heap_cell HT.out.a rfl
              have b0 : wr.cell? ⟨w.heap.size + 1, 0, none⟩ = some (.string p.p.name) := heap_cell HT.out.b rfl
              have b1 : wr.cell? ⟨w.heap.size + 1, 1, none⟩ = some (.int .i64 p.p.weight) := heap_cell HT.out.b rfl
              have b2 : wr.cell? ⟨w.heap.size + 1, 2, none⟩ = some (.slice p.va p.p.vars.length p.vc) := heap_cell HT.out.b rfl
              have b3 : wr.cell? ⟨w.heap.size + 1, 3, none⟩ = some (.slice p.sa p.p.steps.length p.sc) := heap_cell HT.out.b rfl
              by_cases hlt : k < p.p.vars.length
              · have hki : (k : Int) < (p.p.vars.length : Int) := by omega
                obtain ⟨v, hv⟩ : ∃ v, p.p.vars[k]? = some v := ⟨_, List.getElem?_eq_getElem hlt⟩
                have hI := (HP.out.vars.kept HT.out.low (Nat.le_refl _))
                have ha := hI.addr.resolve_left (by omega)
                have r0 : wr.cell? ⟨p.vb, p.vo + k * 2, none⟩ = some (.string v.name) := hI.cell k v hv 0 _ rfl
                have r1 : wr.cell? ⟨p.vb, p.vo + k * 2 + 1, none⟩ = some (.int .i64 v.init) := hI.cell k v hv 1 _ rfl
                have hfv : v.name.size ≤ maxLen := hI.fits v (List.mem_of_getElem? hv)
                rw [ha] at b2
                have HV : Hid (Vb x p v w wr (wr.alloc (.cells #[.string v.name, .int .i64 v.init] 81))) := Lib.hid ⟨HT.out.on (below_one _ _), heap_new _ rfl⟩
                have HPv := Lib.hid (plc_iff (l := vNames p.p) (i := k) (y := v.name) (by unfold vNames; rw [List.getElem?_map, hv]; rfl))
                have HE : Hid (varE (fstP (vNames p.p)) k v ≠ 0 → r = varE (fstP (vNames p.p)) k v) := Lib.hid (fun hne => by
                  have h1 := fErr_at (varE (fstP (vNames p.p))) p.p.vars 0 k v (fun j u hj hu => HZ.out j u hj hu) hv (by rw [Nat.zero_add]; exact hne)
                  rw [HIn.out, h1, Nat.zero_add, if_neg hne])
                have HZ2 : Hid (varE (fstP (vNames p.p)) k v = 0 → ∀ j u, j < k + 1 → p.p.vars[j]? = some u → varE (fstP (vNames p.p)) (0 + j) u = 0) := Lib.hid (fun h0 j u hj hu => by
                  by_cases e : j = k
                  · subst e
                    rw [hv] at hu
                    cases hu
                    rw [Nat.zero_add]
                    exact h0
                  · exact HZ.out j u (by omega) hu)
                clear hI ha hv HZ
                have hlt1 := HT.out.ab
                have hnw : ¬ w.heap.size + 1 = wr.heap.size := by omega
                have hnw0 : ¬ w.heap.size = wr.heap.size := by omega
                go_wp2_with fail
                clear a0 a1 a2 a3 b0 b1 b2 b3 r0 r1
                generalize wr.alloc (.cells #[.string v.name, .int .i64 v.init] 81) = w5 at *
                refine (Ic.xcheck_any v.name hfv _).mono ?_
                rintro e w' ⟨rfl, rfl⟩
                have v0 : w5.cell? ⟨wr.heap.size, 0, none⟩ = some (.string v.name) := heap_cell HV.out.v rfl
                have v1 : w5.cell? ⟨wr.heap.size, 1, none⟩ = some (.int .i64 v.init) := heap_cell HV.out.v rfl
                by_cases hcv : Ic.chkE v.name = 0
                · have hcvb : (Ic.chkE v.name != 0) = false := by simpa using hcv
                  have HCv := Lib.hid hcv
                  rw [hcv]
                  clear hcv
                  obtain ⟨vb, hvb⟩ : ∃ vb, (v.name.toList == [118, 97, 108, 117, 101]) = vb := ⟨_, rfl⟩
                  cases vb with
                  | true =>
                    have hE := varE_val (f := fstP (vNames p.p)) (k := k) hvb
                    have HR : Hid (r = 40) := Lib.hid (by rw [HE.out (by rw [hE]; decide), hE])
                    clear hE
                    go_wp2
                    go_ret
                    exact ⟨by rw [HR.out]; rfl, HV.out.t.low⟩
                  | false =>
                    have b0 : w5.cell? ⟨w.heap.size + 1, 0, none⟩ = some (.string p.p.name) := heap_cell HV.out.t.b rfl
                    have b1 : w5.cell? ⟨w.heap.size + 1, 1, none⟩ = some (.int .i64 p.p.weight) := heap_cell HV.out.t.b rfl
                    have b2 : w5.cell? ⟨w.heap.size + 1, 2, none⟩ = some (.slice p.va p.p.vars.length p.vc) := heap_cell HV.out.t.b rfl
                    have b3 : w5.cell? ⟨w.heap.size + 1, 3, none⟩ = some (.slice p.sa p.p.steps.length p.sc) := heap_cell HV.out.t.b rfl
                    go_wp2_with fail
                    clear b0 b1 b2 b3 v0 v1
                    refine (rvar_any (HP.out.on HV.out.t.low) v.name).mono ?_
                    rintro e w6 ⟨rfl, hb⟩
                    replace HV := Lib.hid (HV.out.on hb)
                    clear hb
                    have v0 : w6.cell? ⟨wr.heap.size, 0, none⟩ = some (.string v.name) := heap_cell HV.out.v rfl
                    have v1 : w6.cell? ⟨wr.heap.size, 1, none⟩ = some (.int .i64 v.init) := heap_cell HV.out.v rfl
                    by_cases hj : (fstP (vNames p.p) v.name).getD 0 < k
                    · have hne : (plcI (vNames p.p) v.name != (k : Int)) = true := by
                        simp only [bne_iff_ne, ne_eq]
                        exact fun e => absurd hj (HPv.out.1 e)
                      have hE := varE_two HCv.out hvb hj
                      have HR : Hid (r = 5) := Lib.hid (by rw [HE.out (by rw [hE]; decide), hE])
                      clear hE hj
                      generalize plcI (vNames p.p) v.name = q at *
                      go_wp2
                      go_ret
                      exact ⟨by rw [HR.out]; rfl, HV.out.t.low⟩
                    · have hpe : plcI (vNames p.p) v.name = (k : Int) := HPv.out.2 hj
                      rw [hpe]
                      have hE := varE_num HCv.out hvb hj
                      have HEn := Lib.hid hE
                      clear hE hj hpe
                      go_wp2_with fail
                      refine (rnumber_any v.init _).mono ?_
                      rintro e w' ⟨rfl, rfl⟩
                      obtain ⟨nb, hnb⟩ : ∃ nb, numB v.init = nb := ⟨_, rfl⟩
                      rw [hnb] at HEn ⊢
                      cases nb with
                      | true =>
                        have HZ3 := Lib.hid (HZ2.out HEn.out)
                        clear hnb
                        go_wp2
                        refine ⟨⟨k + 1, by simp, by omega, Lib.hid HV.out.t, HZ3⟩, ?_⟩
                        unfold intOf
                        simp
                        omega
                      | false =>
                        have HR : Hid (r = 23) := Lib.hid (by rw [HE.out (by rw [HEn.out]; decide), HEn.out]; rfl)
                        clear hnb
                        go_wp2
                        go_ret
                        exact ⟨by rw [HR.out]; rfl, HV.out.t.low⟩
                · have hcvb : (Ic.chkE v.name != 0) = true := by simpa using hcv
                  have hE := varE_chk (f := fstP (vNames p.p)) (k := k) hcv
                  have HR : Hid (r = 40) := Lib.hid (by rw [HE.out (by rw [hE]; decide), hE])
                  clear hE hcv
                  generalize Ic.chkE v.name = cv at *
                  go_wp2
                  go_ret
                  exact ⟨by rw [HR.out]; rfl, HV.out.t.low⟩
              · obtain rfl : k = p.p.vars.length := by omega
                have HV0 : Hid ((fErr (varE (fstP (vNames p.p))) 0 p.p.vars).1 = 0) := Lib.hid ((fErr_zero _ _ _).2 fun j u hu => HZ.out j u (List.getElem?_eq_some_iff.1 hu).1 hu)
                have HIs : Hid (r = (fErr (fun _ s => stE x.links p.p.name (fstP (vNames p.p)) s) 0 p.p.steps).1) := Lib.hid (by rw [HIn.out, if_pos HV0.out])
                clear HIn HV0 HZ
                go_wp2
                clear a0 a1 a2 a3 b0 b1 b2 b3
                go_loopw [8] (fun i wr => ∃ k : Nat, i = .int .i64 (k : Int) ∧ k ≤ p.p.steps.length ∧ Hid (Pb x p w wr) ∧ Hid (∀ j s, j < k → p.p.steps[j]? = some s → stE x.links p.p.name (fstP (vNames p.p)) s = 0)) (fun i _ => p.p.steps.length - (intOf i).toNat)
                case atStart => exact ⟨0, rfl, Nat.zero_le _, HT, Lib.hid (fun j v hj => by omega)⟩
                case round =>
                  clear HT
                  obtain ⟨k, rfl, hk, HT, HZ⟩ := hrel
                  have hk0 : (0 : Int) ≤ (k : Int) := Int.natCast_nonneg k
                  have a0 : wr.cell? ⟨w.heap.size, 0, none⟩ = some (.int .i64 x.ver) := heap_cell HT.out.a rfl
                  have a1 : wr.cell? ⟨w.heap.size, 1, none⟩ = some (.slice x.pa x.procs.length x.pc) := heap_cell HT.out.a rfl
                  have a2 : wr.cell? ⟨w.heap.size, 2, none⟩ = some (.slice x.la x.links.length x.lc) := heap_cell HT.out.a rfl
                  have a3 : wr.cell? ⟨w.heap.size, 3, none⟩ = some (.slice x.ea x.events.length x.ec) := heap_cell HT.out.a rfl
                  have b0 : wr.cell? ⟨w.heap.size + 1, 0, none⟩ = some (.string p.p.name) := heap_cell HT.out.b rfl
                  have b1 : wr.cell? ⟨w.heap.size + 1, 1, none⟩ = some (.int .i64 p.p.weight) := heap_cell HT.out.b rfl
                  have b2 : wr.cell? ⟨w.heap.size + 1, 2, none⟩ = some (.slice p.va p.p.vars.length p.vc) := heap_cell HT.out.b rfl
                  have b3 : wr.cell? ⟨w.heap.size + 1, 3, none⟩ = some (.slice p.sa p.p.steps.length p.sc) := heap_cell HT.out.b rfl
                  by_cases hlt : k < p.p.steps.length
                  · have hki : (k : Int) < (p.p.steps.length : Int) := by omega
                    obtain ⟨s, hs⟩ : ∃ s, p.p.steps[k]? = some s := ⟨_, List.getElem?_eq_getElem hlt⟩
                    have hI := (HP.out.steps.kept HT.out.low (Nat.le_refl _))
                    have ha := hI.addr.resolve_left (by omega)
                    have r0 : wr.cell? ⟨p.sb, p.so + k * 5, none⟩ = some (.int .i64 s.kind) := hI.cell k s hs 0 _ rfl
                    have r1 : wr.cell? ⟨p.sb, p.so + k * 5 + 1, none⟩ = some (.string s.name) := hI.cell k s hs 1 _ rfl
                    have r2 : wr.cell? ⟨p.sb, p.so + k * 5 + 2, none⟩ = some (.int .i64 s.ak) := hI.cell k s hs 2 _ rfl
                    have r3 : wr.cell? ⟨p.sb, p.so + k * 5 + 3, none⟩ = some (.int .i64 s.an) := hI.cell k s hs 3 _ rfl
                    have r4 : wr.cell? ⟨p.sb, p.so + k * 5 + 4, none⟩ = some (.string s.aname) := hI.cell k s hs 4 _ rfl
                    have HE : Hid (stE x.links p.p.name (fstP (vNames p.p)) s ≠ 0 → r = stE x.links p.p.name (fstP (vNames p.p)) s) := Lib.hid (fun hne => by
                      have h1 := fErr_at (fun _ s => stE x.links p.p.name (fstP (vNames p.p)) s) p.p.steps 0 k s (fun j u hj hu => HZ.out j u hj hu) hs hne
                      rw [HIs.out, h1])
                    have HZ2 : Hid (stE x.links p.p.name (fstP (vNames p.p)) s = 0 → ∀ j u, j < k + 1 → p.p.steps[j]? = some u → stE x.links p.p.name (fstP (vNames p.p)) u = 0) := Lib.hid (fun h0 j u hj hu => by
                      by_cases e : j = k
                      · subst e
                        rw [hs] at hu
                        cases hu
                        exact h0
                      · exact HZ.out j u (by omega) hu)
                    clear hI hs HZ
                    go_upto_region 23 with fail
                    have HSt : Hid (∀ W, Below wr.heap.size wr W → Calls Try.prog 64 #[.agg #[.int .i64 x.ver, .slice x.pa x.procs.length x.pc, .slice x.la x.links.length x.lc, .slice x.ea x.events.length x.ec], .agg #[.string p.p.name, .int .i64 p.p.weight, .slice p.va p.p.vars.length p.vc, .slice p.sa p.p.steps.length p.sc], .agg #[.int .i64 s.kind, .string s.name, .int .i64 s.ak, .int .i64 s.an, .string s.aname]] W fun e w' => e = .returned (.int .i64 (stE x.links p.p.name (fstP (vNames p.p)) s)) ∧ Below W.heap.size W w') := Lib.hid (fun W hW => rstep_any (HM.out.on (HT.out.on hW).low) (HP.out.on (HT.out.on hW).low) s)
                    have hlB := HT.out.ab
                    have hlA : w.heap.size < wr.heap.size := by omega
                    have hlR : p.sb < wr.heap.size := by
                      have := (HP.out.steps.on HT.out.low).below
                      omega
                    have da0 : ∀ W, Below wr.heap.size wr W → W.cell? ⟨w.heap.size, 0, none⟩ = some (.int .i64 x.ver) := fun W hW => by rw [hW.cell (by first | exact hlA | exact hlB | exact hlR)]; assumption
                    have da1 : ∀ W, Below wr.heap.size wr W → W.cell? ⟨w.heap.size, 1, none⟩ = some (.slice x.pa x.procs.length x.pc) := fun W hW => by rw [hW.cell (by first | exact hlA | exact hlB | exact hlR)]; assumption
                    have da2 : ∀ W, Below wr.heap.size wr W → W.cell? ⟨w.heap.size, 2, none⟩ = some (.slice x.la x.links.length x.lc) := fun W hW => by rw [hW.cell (by first | exact hlA | exact hlB | exact hlR)]; assumption
                    have da3 : ∀ W, Below wr.heap.size wr W → W.cell? ⟨w.heap.size, 3, none⟩ = some (.slice x.ea x.events.length x.ec) := fun W hW => by rw [hW.cell (by first | exact hlA | exact hlB | exact hlR)]; assumption
                    have db0 : ∀ W, Below wr.heap.size wr W → W.cell? ⟨w.heap.size + 1, 0, none⟩ = some (.string p.p.name) := fun W hW => by rw [hW.cell (by first | exact hlA | exact hlB | exact hlR)]; assumption
                    have db1 : ∀ W, Below wr.heap.size wr W → W.cell? ⟨w.heap.size + 1, 1, none⟩ = some (.int .i64 p.p.weight) := fun W hW => by rw [hW.cell (by first | exact hlA | exact hlB | exact hlR)]; assumption
                    have db2 : ∀ W, Below wr.heap.size wr W → W.cell? ⟨w.heap.size + 1, 2, none⟩ = some (.slice p.va p.p.vars.length p.vc) := fun W hW => by rw [hW.cell (by first | exact hlA | exact hlB | exact hlR)]; assumption
                    have db3 : ∀ W, Below wr.heap.size wr W → W.cell? ⟨w.heap.size + 1, 3, none⟩ = some (.slice p.sa p.p.steps.length p.sc) := fun W hW => by rw [hW.cell (by first | exact hlA | exact hlB | exact hlR)]; assumption
                    have dr0 : ∀ W, Below wr.heap.size wr W → W.cell? ⟨p.sb, p.so + k * 5, none⟩ = some (.int .i64 s.kind) := fun W hW => by rw [hW.cell (by first | exact hlA | exact hlB | exact hlR)]; assumption
                    have dr1 : ∀ W, Below wr.heap.size wr W → W.cell? ⟨p.sb, p.so + k * 5 + 1, none⟩ = some (.string s.name) := fun W hW => by rw [hW.cell (by first | exact hlA | exact hlB | exact hlR)]; assumption
                    have dr2 : ∀ W, Below wr.heap.size wr W → W.cell? ⟨p.sb, p.so + k * 5 + 2, none⟩ = some (.int .i64 s.ak) := fun W hW => by rw [hW.cell (by first | exact hlA | exact hlB | exact hlR)]; assumption
                    have dr3 : ∀ W, Below wr.heap.size wr W → W.cell? ⟨p.sb, p.so + k * 5 + 3, none⟩ = some (.int .i64 s.an) := fun W hW => by rw [hW.cell (by first | exact hlA | exact hlB | exact hlR)]; assumption
                    have dr4 : ∀ W, Below wr.heap.size wr W → W.cell? ⟨p.sb, p.so + k * 5 + 4, none⟩ = some (.string s.aname) := fun W hW => by rw [hW.cell (by first | exact hlA | exact hlB | exact hlR)]; assumption
                    clear a0 a1 a2 a3 b0 b1 b2 b3 r0 r1 r2 r3 r4
                    rw [ha] at db3 HSt
                    clear ha
                    go_region_held3 (fun W => Below wr.heap.size wr W) (first | assumption | exact Below.refl _ _ | exact (Below.refl _ _).drew | exact Below.drew (by assumption)) (
                      (go_at_call 64; refine (HSt.out _ (by assumption)).mono ?_; rintro e w5 ⟨rfl, hb⟩; have hS5 : Below wr.heap.size wr w5 := Below.trans (show Below wr.heap.size wr _ by assumption) (hb.mono (show Below wr.heap.size wr _ by assumption).size); clear hb))
                    clear da0 da1 da2 da3 db0 db1 db2 db3 dr0 dr1 dr2 dr3 dr4
                    replace HT := Lib.hid (HT.out.on hS5)
                    obtain ⟨se, hse⟩ : ∃ se, stE x.links p.p.name (fstP (vNames p.p)) s = se := ⟨_, rfl⟩
                    rw [hse] at HE HZ2 ⊢
                    by_cases h0 : se = 0
                    · have HZ3 := Lib.hid (HZ2.out h0)
                      subst h0
                      clear hse
                      go_wp2
                      refine ⟨⟨k + 1, by simp, by omega, HT, HZ3⟩, ?_⟩
                      unfold intOf
                      simp
                      omega
                    · have h0b : (se != 0) = true := by simpa using h0
                      have HR := Lib.hid (HE.out h0)
                      clear hse
                      go_wp2
                      go_ret
                      exact ⟨by rw [HR.out]; rfl, HT.out.low⟩
                  · obtain rfl : k = p.p.steps.length := by omega
                    have HR : Hid (r = 0) := Lib.hid (by rw [HIs.out]; exact (fErr_zero _ _ _).2 fun j u hu => HZ.out j u (List.getElem?_eq_some_iff.1 hu).1 hu)
                    go_wp2
                    go_ret
                    exact ⟨by rw [HR.out]; rfl, HT.out.low⟩
  · have hcb : (Ic.chkE p.p.name != 0) = true := by simpa using hc
    have HR : Hid (r = 40) := Lib.hid (by rw [HA.out, HNm.out, if_pos hc, if_pos hc]; exact (chk_two p.p.name).resolve_left hc)
    have h40 : Ic.chkE p.p.name = 40 := (chk_two p.p.name).resolve_left hc
    rw [h40]
    go_wp2
    go_ret
    exact ⟨by rw [HR.out]; rfl, HT.out.low⟩
end Go.Proofs.Ytenjhbibhkjdaaa.Md
