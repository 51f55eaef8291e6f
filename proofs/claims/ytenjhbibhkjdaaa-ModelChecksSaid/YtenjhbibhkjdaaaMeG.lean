/- Contracts: the document's step. -/
import Derived.Test.YtenjhbibhkjdaaaMeF
import Derived.Test.YtenjhbibhkjdaaaMdE
set_option linter.unusedVariables false
set_option linter.unusedSectionVars false
set_option linter.unusedSimpArgs false
namespace Go.Proofs.Ytenjhbibhkjdaaa.Md
open Go.RowKit Go.Shelf

theorem below_drewN (B : Nat) (w : World) (n : Nat) : Below B w (w.drewN n) := ⟨rfl, rfl, rfl, Nat.le_refl _, fun _ _ => rfl⟩
theorem plc_no {l : List ByteArray} {y : ByteArray} (h : fstP l y = none) : plcI l y = -1 := by unfold plcI; rw [h]
theorem plc_yes {l : List ByteArray} {y : ByteArray} {i : Nat} (h : fstP l y = some i) : plcI l y = (i : Int) := by unfold plcI; rw [h]
/-- The boxes of a step's check. -/
structure Sb (x : ModelV) (p : ProcV) (s : StepM) (w W : World) : Prop where
  a : W.heap[w.heap.size]? = some (.cells #[.int .i64 x.ver, .slice x.pa x.procs.length x.pc, .slice x.la x.links.length x.lc, .slice x.ea x.events.length x.ec] 26 (0, 0))
  b : W.heap[w.heap.size + 1]? = some (.cells #[.string p.p.name, .int .i64 p.p.weight, .slice p.va p.p.vars.length p.vc, .slice p.sa p.p.steps.length p.sc] 39 (0, 0))
  c : W.heap[w.heap.size + 1 + 1]? = some (.cells #[.int .i64 s.kind, .string s.name, .int .i64 s.ak, .int .i64 s.an, .string s.aname] 100 (0, 0))
  low : Below w.heap.size w W
theorem Sb.on {x : ModelV} {p : ProcV} {s : StepM} {w W W' : World} (h : Sb x p s w W) (hb : Below W.heap.size W W') : Sb x p s w W' :=
  ⟨heap_below h.a hb (heap_lt h.a), heap_below h.b hb (heap_lt h.b), heap_below h.c hb (heap_lt h.c), h.low.trans (hb.mono h.low.size)⟩
set_option maxRecDepth 100000 in
set_option maxHeartbeats 4000000 in
theorem rstep_any {w : World} {x : ModelV} {p : ProcV} (hx : ModelAt w.heap.size w x) (hp : ProcIn w.heap.size w p) (s : StepM) : Calls Try.prog 64 #[.agg #[.int .i64 x.ver, .slice x.pa x.procs.length x.pc, .slice x.la x.links.length x.lc, .slice x.ea x.events.length x.ec], .agg #[.string p.p.name, .int .i64 p.p.weight, .slice p.va p.p.vars.length p.vc, .slice p.sa p.p.steps.length p.sc], .agg #[.int .i64 s.kind, .string s.name, .int .i64 s.ak, .int .i64 s.an, .string s.aname]] w fun e w' => e = .returned (.int .i64 (stE x.links p.p.name (fstP (vNames p.p)) s)) ∧ Below w.heap.size w w' := by
  have HM := Lib.hid hx
  have HP := Lib.hid hp
  have HT : Hid (Sb x p s w (((w.alloc (.cells #[.int .i64 x.ver, .slice x.pa x.procs.length x.pc, .slice x.la x.links.length x.lc, .slice x.ea x.events.length x.ec] 26)).alloc (.cells #[.string p.p.name, .int .i64 p.p.weight, .slice p.va p.p.vars.length p.vc, .slice p.sa p.p.steps.length p.sc] 39)).alloc (.cells #[.int .i64 s.kind, .string s.name, .int .i64 s.ak, .int .i64 s.an, .string s.aname] 100))) := Lib.hid ⟨heap_alloc (heap_alloc (heap_new _ rfl) _) _, heap_alloc (heap_new _ (by simp)) _, heap_new _ (by simp), (((Below.refl _ _).alloc (Nat.le_refl _) _).alloc (by simp) _).alloc (by simp; omega) _⟩
  clear hx hp
  go_enter Try.func64, Try.ntmps64
  go_upto_region 1 with fail
  generalize (((w.alloc (.cells #[.int .i64 x.ver, .slice x.pa x.procs.length x.pc, .slice x.la x.links.length x.lc, .slice x.ea x.events.length x.ec] 26)).alloc (.cells #[.string p.p.name, .int .i64 p.p.weight, .slice p.va p.p.vars.length p.vc, .slice p.sa p.p.steps.length p.sc] 39)).alloc (.cells #[.int .i64 s.kind, .string s.name, .int .i64 s.ak, .int .i64 s.an, .string s.aname] 100)) = w0 at *
  have a0 : w0.cell? ⟨w.heap.size, 0, none⟩ = some (.int .i64 x.ver) := heap_cell HT.out.a rfl
  have a1 : w0.cell? ⟨w.heap.size, 1, none⟩ = some (.slice x.pa x.procs.length x.pc) := heap_cell HT.out.a rfl
  have a2 : w0.cell? ⟨w.heap.size, 2, none⟩ = some (.slice x.la x.links.length x.lc) := heap_cell HT.out.a rfl
  have a3 : w0.cell? ⟨w.heap.size, 3, none⟩ = some (.slice x.ea x.events.length x.ec) := heap_cell HT.out.a rfl
  have b0 : w0.cell? ⟨w.heap.size + 1, 0, none⟩ = some (.string p.p.name) := heap_cell HT.out.b rfl
  have b1 : w0.cell? ⟨w.heap.size + 1, 1, none⟩ = some (.int .i64 p.p.weight) := heap_cell HT.out.b rfl
  have b2 : w0.cell? ⟨w.heap.size + 1, 2, none⟩ = some (.slice p.va p.p.vars.length p.vc) := heap_cell HT.out.b rfl
  have b3 : w0.cell? ⟨w.heap.size + 1, 3, none⟩ = some (.slice p.sa p.p.steps.length p.sc) := heap_cell HT.out.b rfl
  have c0 : w0.cell? ⟨w.heap.size + 1 + 1, 0, none⟩ = some (.int .i64 s.kind) := heap_cell HT.out.c rfl
  have c1 : w0.cell? ⟨w.heap.size + 1 + 1, 1, none⟩ = some (.string s.name) := heap_cell HT.out.c rfl
  have c2 : w0.cell? ⟨w.heap.size + 1 + 1, 2, none⟩ = some (.int .i64 s.ak) := heap_cell HT.out.c rfl
  have c3 : w0.cell? ⟨w.heap.size + 1 + 1, 3, none⟩ = some (.int .i64 s.an) := heap_cell HT.out.c rfl
  have c4 : w0.cell? ⟨w.heap.size + 1 + 1, 4, none⟩ = some (.string s.aname) := heap_cell HT.out.c rfl
  by_cases hk : 1 ≤ s.kind ∧ s.kind ≤ 4 ∧ 0 ≤ s.ak ∧ s.ak ≤ 2
  · obtain ⟨hk1, hk2, hk3, hk4⟩ := hk
    have hst : stE x.links p.p.name (fstP (vNames p.p)) s = if tgtE x.links p.p.name (fstP (vNames p.p)) s = 0 then argE (fstP (vNames p.p)) s else tgtE x.links p.p.name (fstP (vNames p.p)) s := by
      unfold stE
      rw [if_neg (by simp; omega)]
    have HSt := Lib.hid hst
    clear hst
    by_cases h4 : s.kind = 4
    · have h4b : (s.kind == 4) = true := by simpa using h4
      have h4n : (s.kind != 4) = false := by simpa using h4
      go_wp2_with fail
      refine (rlink_any (HM.out.on HT.out.low) s.name).mono ?_
      clear a0 a1 a2 a3 b0 b1 b2 b3 c0 c1 c2 c3 c4
      rintro e w5 ⟨rfl, hb⟩
      replace HT := Lib.hid (HT.out.on hb)
      clear hb
      cases hf : fstP (nmsL x.m) s.name with
      | none =>
        have hr : stE x.links p.p.name (fstP (vNames p.p)) s = 4 := by
          have : tgtE x.links p.p.name (fstP (vNames p.p)) s = 4 := by
            unfold tgtE
            rw [h4n, show fstP (x.links.map (fun y => y.name)) s.name = none from hf]
            rfl
          rw [HSt.out, this, if_neg (by decide)]
        rw [plc_no hf]
        go_wp2
        go_ret
        exact ⟨by first | (rw [hr]; rfl) | rfl | rw [hr], HT.out.low⟩
      | some i =>
        have hi := fstP_lt hf
        have hil : i < x.links.length := by unfold nmsL ModelV.m at hi; rwa [List.length_map] at hi
        obtain ⟨l, hl⟩ : ∃ l, x.links[i]? = some l := ⟨_, List.getElem?_eq_getElem hil⟩
        rw [plc_yes hf]
        have hi0 : (0 : Int) ≤ (i : Int) := Int.natCast_nonneg i
        have hii : (i : Int) < (x.links.length : Int) := by omega
        have hin : ¬ ((i : Int) < 0) := by omega
        have hrow := (HM.out.on HT.out.low).links
        have ha := hrow.addr.resolve_left (by omega)
        have l1 : w5.cell? ⟨x.lb, x.lo + i * 5 + 1, none⟩ = some (.string l.frm) := hrow.cell i l hl 1 _ rfl
        have htg : tgtE x.links p.p.name (fstP (vNames p.p)) s = if l.frm.toList == p.p.name.toList then 0 else 47 := by
          unfold tgtE
          rw [h4n, show fstP (x.links.map (fun y => y.name)) s.name = some i from hf]
          dsimp only
          rw [hl]
          rfl
        have a0 : w5.cell? ⟨w.heap.size, 0, none⟩ = some (.int .i64 x.ver) := heap_cell HT.out.a rfl
        have a1 : w5.cell? ⟨w.heap.size, 1, none⟩ = some (.slice x.pa x.procs.length x.pc) := heap_cell HT.out.a rfl
        have a2 : w5.cell? ⟨w.heap.size, 2, none⟩ = some (.slice x.la x.links.length x.lc) := heap_cell HT.out.a rfl
        have a3 : w5.cell? ⟨w.heap.size, 3, none⟩ = some (.slice x.ea x.events.length x.ec) := heap_cell HT.out.a rfl
        have b0 : w5.cell? ⟨w.heap.size + 1, 0, none⟩ = some (.string p.p.name) := heap_cell HT.out.b rfl
        have b1 : w5.cell? ⟨w.heap.size + 1, 1, none⟩ = some (.int .i64 p.p.weight) := heap_cell HT.out.b rfl
        have b2 : w5.cell? ⟨w.heap.size + 1, 2, none⟩ = some (.slice p.va p.p.vars.length p.vc) := heap_cell HT.out.b rfl
        have b3 : w5.cell? ⟨w.heap.size + 1, 3, none⟩ = some (.slice p.sa p.p.steps.length p.sc) := heap_cell HT.out.b rfl
        have c0 : w5.cell? ⟨w.heap.size + 1 + 1, 0, none⟩ = some (.int .i64 s.kind) := heap_cell HT.out.c rfl
        have c1 : w5.cell? ⟨w.heap.size + 1 + 1, 1, none⟩ = some (.string s.name) := heap_cell HT.out.c rfl
        have c2 : w5.cell? ⟨w.heap.size + 1 + 1, 2, none⟩ = some (.int .i64 s.ak) := heap_cell HT.out.c rfl
        have c3 : w5.cell? ⟨w.heap.size + 1 + 1, 3, none⟩ = some (.int .i64 s.an) := heap_cell HT.out.c rfl
        have c4 : w5.cell? ⟨w.heap.size + 1 + 1, 4, none⟩ = some (.string s.aname) := heap_cell HT.out.c rfl
        rw [ha] at a2
        have HTg := Lib.hid htg
        clear htg hrow
        cases he : (l.frm.toList == p.p.name.toList) with
        | true =>
          have hne : (l.frm.toList != p.p.name.toList) = false := by simp only [bne, he]; rfl
          have hr : stE x.links p.p.name (fstP (vNames p.p)) s = argE (fstP (vNames p.p)) s := by rw [HSt.out, HTg.out, he, if_pos rfl, if_pos rfl]
          go_upto_region 7 with fail
          go_quiet (fail)
          clear a0 a1 a2 a3 b0 b1 b2 b3 c0 c1 c2 c3 c4 l1
          replace HT := Lib.hid (HT.out.on (below_drewN _ _ nq))
          generalize w5.drewN nq = w6 at *
          have a0 : w6.cell? ⟨w.heap.size, 0, none⟩ = some (.int .i64 x.ver) := heap_cell HT.out.a rfl
          have a1 : w6.cell? ⟨w.heap.size, 1, none⟩ = some (.slice x.pa x.procs.length x.pc) := heap_cell HT.out.a rfl
          have a2 : w6.cell? ⟨w.heap.size, 2, none⟩ = some (.slice x.la x.links.length x.lc) := heap_cell HT.out.a rfl
          have a3 : w6.cell? ⟨w.heap.size, 3, none⟩ = some (.slice x.ea x.events.length x.ec) := heap_cell HT.out.a rfl
          have b0 : w6.cell? ⟨w.heap.size + 1, 0, none⟩ = some (.string p.p.name) := heap_cell HT.out.b rfl
          have b1 : w6.cell? ⟨w.heap.size + 1, 1, none⟩ = some (.int .i64 p.p.weight) := heap_cell HT.out.b rfl
          have b2 : w6.cell? ⟨w.heap.size + 1, 2, none⟩ = some (.slice p.va p.p.vars.length p.vc) := heap_cell HT.out.b rfl
          have b3 : w6.cell? ⟨w.heap.size + 1, 3, none⟩ = some (.slice p.sa p.p.steps.length p.sc) := heap_cell HT.out.b rfl
          have c0 : w6.cell? ⟨w.heap.size + 1 + 1, 0, none⟩ = some (.int .i64 s.kind) := heap_cell HT.out.c rfl
          have c1 : w6.cell? ⟨w.heap.size + 1 + 1, 1, none⟩ = some (.string s.name) := heap_cell HT.out.c rfl
          have c2 : w6.cell? ⟨w.heap.size + 1 + 1, 2, none⟩ = some (.int .i64 s.ak) := heap_cell HT.out.c rfl
          have c3 : w6.cell? ⟨w.heap.size + 1 + 1, 3, none⟩ = some (.int .i64 s.an) := heap_cell HT.out.c rfl
          have c4 : w6.cell? ⟨w.heap.size + 1 + 1, 4, none⟩ = some (.string s.aname) := heap_cell HT.out.c rfl
          go_wp2_with fail
          refine (rarg_any (HP.out.on HT.out.low) s ⟨hk3, hk4⟩).mono ?_
          rintro e wz ⟨rfl, hbz⟩
          have HTz := Lib.hid (HT.out.low.trans (hbz.mono HT.out.low.size))
          clear hbz
          clear a0 a1 a2 a3 b0 b1 b2 b3 c0 c1 c2 c3 c4
          go_wp2
          go_ret
          exact ⟨by first | (rw [hr]; rfl) | rfl | rw [hr], HTz.out⟩
        | false =>
          have hne : (l.frm.toList != p.p.name.toList) = true := by simp only [bne, he]; rfl
          have hr : stE x.links p.p.name (fstP (vNames p.p)) s = 47 := by rw [HSt.out, HTg.out, he]; rfl
          go_upto_region 7 with fail
          go_quiet (fail)
          go_wp2
          go_ret
          exact ⟨by first | (rw [hr]; rfl) | rfl | rw [hr], HT.out.low.trans (below_drewN _ _ nq)⟩
    · have h4b : (s.kind == 4) = false := by simpa using h4
      have h4n : (s.kind != 4) = true := by simpa using h4
      have htg : tgtE x.links p.p.name (fstP (vNames p.p)) s = thereE (fstP (vNames p.p)) s.name := by
        unfold tgtE
        rw [h4n, if_pos rfl]
      go_wp2_with fail
      refine (rvar_any (HP.out.on HT.out.low) s.name).mono ?_
      clear a0 a1 a2 a3 b0 b1 b2 b3 c0 c1 c2 c3 c4
      rintro e w5 ⟨rfl, hb⟩
      replace HT := Lib.hid (HT.out.on hb)
      clear hb
      cases hf : fstP (vNames p.p) s.name with
      | none =>
        have hr : stE x.links p.p.name (fstP (vNames p.p)) s = 4 := by
          have : tgtE x.links p.p.name (fstP (vNames p.p)) s = 4 := by
            rw [htg]
            unfold thereE
            rw [hf]
            rfl
          rw [HSt.out, this, if_neg (by decide)]
        rw [plc_no hf]
        go_wp2
        go_ret
        exact ⟨by first | (rw [hr]; rfl) | rfl | rw [hr], HT.out.low⟩
      | some i =>
        have hr : stE x.links p.p.name (fstP (vNames p.p)) s = argE (fstP (vNames p.p)) s := by
          have : tgtE x.links p.p.name (fstP (vNames p.p)) s = 0 := by
            rw [htg]
            unfold thereE
            rw [hf]
            rfl
          rw [HSt.out, this, if_pos rfl]
        rw [plc_yes hf]
        have hi0 : (0 : Int) ≤ (i : Int) := Int.natCast_nonneg i
        have hin : ¬ ((i : Int) < 0) := by omega
        have a0 : w5.cell? ⟨w.heap.size, 0, none⟩ = some (.int .i64 x.ver) := heap_cell HT.out.a rfl
        have a1 : w5.cell? ⟨w.heap.size, 1, none⟩ = some (.slice x.pa x.procs.length x.pc) := heap_cell HT.out.a rfl
        have a2 : w5.cell? ⟨w.heap.size, 2, none⟩ = some (.slice x.la x.links.length x.lc) := heap_cell HT.out.a rfl
        have a3 : w5.cell? ⟨w.heap.size, 3, none⟩ = some (.slice x.ea x.events.length x.ec) := heap_cell HT.out.a rfl
        have b0 : w5.cell? ⟨w.heap.size + 1, 0, none⟩ = some (.string p.p.name) := heap_cell HT.out.b rfl
        have b1 : w5.cell? ⟨w.heap.size + 1, 1, none⟩ = some (.int .i64 p.p.weight) := heap_cell HT.out.b rfl
        have b2 : w5.cell? ⟨w.heap.size + 1, 2, none⟩ = some (.slice p.va p.p.vars.length p.vc) := heap_cell HT.out.b rfl
        have b3 : w5.cell? ⟨w.heap.size + 1, 3, none⟩ = some (.slice p.sa p.p.steps.length p.sc) := heap_cell HT.out.b rfl
        have c0 : w5.cell? ⟨w.heap.size + 1 + 1, 0, none⟩ = some (.int .i64 s.kind) := heap_cell HT.out.c rfl
        have c1 : w5.cell? ⟨w.heap.size + 1 + 1, 1, none⟩ = some (.string s.name) := heap_cell HT.out.c rfl
        have c2 : w5.cell? ⟨w.heap.size + 1 + 1, 2, none⟩ = some (.int .i64 s.ak) := heap_cell HT.out.c rfl
        have c3 : w5.cell? ⟨w.heap.size + 1 + 1, 3, none⟩ = some (.int .i64 s.an) := heap_cell HT.out.c rfl
        have c4 : w5.cell? ⟨w.heap.size + 1 + 1, 4, none⟩ = some (.string s.aname) := heap_cell HT.out.c rfl
        go_wp2_with fail
        refine (rarg_any (HP.out.on HT.out.low) s ⟨hk3, hk4⟩).mono ?_
        rintro e wz ⟨rfl, hbz⟩
        have HTz := Lib.hid (HT.out.low.trans (hbz.mono HT.out.low.size))
        clear hbz
        clear a0 a1 a2 a3 b0 b1 b2 b3 c0 c1 c2 c3 c4
        go_wp2
        go_ret
        exact ⟨by first | (rw [hr]; rfl) | rfl | rw [hr], HTz.out⟩
  · have hr : stE x.links p.p.name (fstP (vNames p.p)) s = 21 := by
      unfold stE
      rw [if_pos (by simp; omega)]
    by_cases g1 : s.kind < 1
    · go_wp2
      go_ret
      exact ⟨by first | (rw [hr]; rfl) | rfl | rw [hr], HT.out.low⟩
    · by_cases g2 : 4 < s.kind
      · go_wp2
        go_ret
        exact ⟨by first | (rw [hr]; rfl) | rfl | rw [hr], HT.out.low⟩
      · by_cases g3 : s.ak < 0
        · go_wp2
          go_ret
          exact ⟨by first | (rw [hr]; rfl) | rfl | rw [hr], HT.out.low⟩
        · have g4 : 2 < s.ak := by omega
          go_wp2
          go_ret
          exact ⟨by first | (rw [hr]; rfl) | rfl | rw [hr], HT.out.low⟩
end Go.Proofs.Ytenjhbibhkjdaaa.Md
