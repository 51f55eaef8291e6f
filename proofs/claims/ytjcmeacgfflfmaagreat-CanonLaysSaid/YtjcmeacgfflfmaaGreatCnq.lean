/- canon: walk of CanonLays. -/
import Derived.Test.YtjcmeacgfflfmaaGreatCni
import Derived.Test.YtjcmeacgfflfmaaGreatCnh
import Derived.Test.YtjcmeacgfflfmaaGreatRcn
import Derived.Test.YtjcmeacgfflfmaaGreatUx
import Derived.Test.YtjcmeacgfflfmaaGreatUm
import Derived.Deep.RegionHeld3
set_option linter.unusedVariables false
set_option linter.unusedSectionVars false
set_option linter.unusedSimpArgs false
namespace Go.Proofs.YtjcmeacgfflfmaaGreat.Hk
open Go.RowKit Go.Shelf Go.Proofs.YtjcmeacgfflfmaaGreat.Md

theorem rtold {w : World} {x y : ModelV} {t : Bool} (hx : ModelAt w.heap.size w x) (hy : ModelAt w.heap.size w y) (h : t = true ↔ x.m = y.m) : Calls Tryz.prog 14 #[.agg #[.int .i64 x.ver, .slice x.pa x.procs.length x.pc, .slice x.la x.links.length x.lc, .slice x.ea x.events.length x.ec], .agg #[.int .i64 y.ver, .slice y.pa y.procs.length y.pc, .slice y.la y.links.length y.lc, .slice y.ea y.events.length y.ec]] w fun e w' => e = .returned (.bool t) ∧ Below w.heap.size w w' :=
  (rsame_any hx hy).mono (fun e w' ⟨h1, b, h2, h3⟩ => ⟨by rw [h2, show b = t by rw [Bool.eq_iff_iff, h3, h]], h1⟩)
/-- A number's cell, in a block of a type. -/
def IntC (Bc : Nat) (W : World) (t : TypeId) (b i : Nat) : Prop := Bc ≤ b ∧ ∃ (cur : Array Value) (n : Int), W.heap[b]? = some (.cells cur t (0, 0)) ∧ cur[i]? = some (.int .i64 n)
theorem IntC.set {Bc : Nat} {W : World} {t t' : TypeId} {b i b' i' : Nat} (h : IntC Bc W t b i) (h' : IntC Bc W t' b' i') (n : Int) : IntC Bc (W.setCell ⟨b', i', none⟩ (.int .i64 n)) t b i := by
  obtain ⟨h1, cur, m, h2, h3⟩ := h
  refine ⟨h1, ?_⟩
  by_cases e : b = b'
  · subst e
    have hi : i < cur.size := (Array.getElem?_eq_some_iff.1 h3).1
    by_cases e2 : i' = i
    · exact ⟨_, n, heap_set h2 i' _, by rw [e2, Array.getElem?_setIfInBounds_self_of_lt hi]⟩
    · exact ⟨_, m, heap_set h2 i' _, by rw [Array.getElem?_setIfInBounds_ne e2]; exact h3⟩
  · exact ⟨cur, m, heap_other h2 e i' _, h3⟩
theorem IntC.ty {Bc : Nat} {W : World} {t t' : TypeId} {b i c : Nat} {cs : Array Value} (h : IntC Bc W t b i) (hc : W.heap[c]? = some (.cells cs t' (0, 0))) (ht : t ≠ t') : c ≠ b := fun e => by
  obtain ⟨_, cur, m, h2, _⟩ := h
  rw [e, h2] at hc
  have h3 := Option.some.inj hc
  injection h3 with _ h4 _
  exact ht h4
theorem row_int {α : Type} {enc : α → List Value} {sz Bc : Nat} {W : World} {g : Nat} {t : TypeId} {L : List α} (h : RowC enc sz W g t L) (hb : Bc ≤ g) {k r : Nat} {x : α} {n : Int} (hk : L[k]? = some x) (hr : (enc x)[r]? = some (.int .i64 n)) : IntC Bc W t g (k * sz + r) := by
  obtain ⟨cur, h1, h2⟩ := h
  exact ⟨hb, cur, n, h1, by have := h2 k x hk r _ hr; exact this⟩
/-- What stands while numbers of what was laid down are turned. -/
structure Sh (Bc : Nat) (w9 : World) (D2 : Nat) (y : ModelV) (W : World) : Prop where
  low : Below Bc w9 W
  box : W.heap[D2]? = some (.cells #[.int .i64 y.ver, .slice y.pa y.procs.length y.pc, .slice y.la y.links.length y.lc, .slice y.ea y.events.length y.ec] 26 (0, 0))
  prow : y.procs = [] ∨ (y.pa = some ⟨y.pb, 0, none⟩ ∧ RowC Md.encP 4 W y.pb 34 y.procs)
  stp : ∀ p ∈ y.procs, p.p.steps = [] ∨ (p.sa = some ⟨p.sb, 0, none⟩ ∧ ∀ k, k < p.p.steps.length → IntC Bc W 38 p.sb (k * 5))
  vrs : ∀ p ∈ y.procs, p.p.vars = [] ∨ (p.va = some ⟨p.vb, 0, none⟩ ∧ ∀ k, k < p.p.vars.length → IntC Bc W 40 p.vb (k * 2 + 1))
  lks : y.links = [] ∨ (y.la = some ⟨y.lb, 0, none⟩ ∧ ∀ k, k < y.links.length → IntC Bc W 42 y.lb (k * 5 + 3))
theorem Sh.set {Bc : Nat} {w9 : World} {D2 : Nat} {y : ModelV} {W : World} {t : TypeId} {b i : Nat} (h : Sh Bc w9 D2 y W) (hc : IntC Bc W t b i) (h1 : t ≠ 26) (h2 : t ≠ 34) (n : Int) : Sh Bc w9 D2 y (W.setCell ⟨b, i, none⟩ (.int .i64 n)) := by
  refine ⟨h.low.setCell (p := ⟨b, i, none⟩) hc.1 _, heap_other h.box (hc.ty h.box h1) i _, h.prow.imp id (fun g => ⟨g.1, ?_⟩), fun p hp => (h.stp p hp).imp id (fun g => ⟨g.1, fun k hk => (g.2 k hk).set hc n⟩), fun p hp => (h.vrs p hp).imp id (fun g => ⟨g.1, fun k hk => (g.2 k hk).set hc n⟩), h.lks.imp id (fun g => ⟨g.1, fun k hk => (g.2 k hk).set hc n⟩)⟩
  obtain ⟨cur, g1, g2⟩ := g.2
  exact RowC.other ⟨cur, g1, g2⟩ (hc.ty g1 h2) i _
theorem Sh.on {Bc : Nat} {w9 : World} {D2 : Nat} {y : ModelV} {W W' : World} (h : Sh Bc w9 D2 y W) (hB : Bc ≤ W.heap.size) (hb : Below W.heap.size W W') : Sh Bc w9 D2 y W' := by
  have hI : ∀ {t : TypeId} {b i : Nat}, IntC Bc W t b i → IntC Bc W' t b i := fun ⟨a, cur, n, h1, h2⟩ => ⟨a, cur, n, heap_on h1 hb, h2⟩
  exact ⟨h.low.trans (hb.mono hB), heap_on h.box hb, h.prow.imp id (fun g => ⟨g.1, g.2.on hb⟩), fun p hp => (h.stp p hp).imp id (fun g => ⟨g.1, fun k hk => hI (g.2 k hk)⟩), fun p hp => (h.vrs p hp).imp id (fun g => ⟨g.1, fun k hk => hI (g.2 k hk)⟩), h.lks.imp id (fun g => ⟨g.1, fun k hk => hI (g.2 k hk)⟩)⟩
theorem sh_start {Bc : Nat} {w9 : World} {D2 : Nat} {y : ModelV} (h : OwnM Bc w9 y) (hb : w9.heap[D2]? = some (.cells #[.int .i64 y.ver, .slice y.pa y.procs.length y.pc, .slice y.la y.links.length y.lc, .slice y.ea y.events.length y.ec] 26 (0, 0))) : Sh Bc w9 D2 y w9 := by
  refine ⟨Below.refl _ _, hb, h.procs.own.imp id (fun g => ⟨g.1, g.2.2⟩), fun p hp => (h.inner p hp).steps.own.imp id (fun g => ⟨g.1, fun k hk => ?_⟩), fun p hp => (h.inner p hp).vars.own.imp id (fun g => ⟨g.1, fun k hk => ?_⟩), h.links.own.imp id (fun g => ⟨g.1, fun k hk => ?_⟩)⟩
  · exact row_int (r := 0) g.2.2 g.2.1 (List.getElem?_eq_getElem hk) rfl
  · exact row_int (r := 1) g.2.2 g.2.1 (List.getElem?_eq_getElem hk) rfl
  · exact row_int (r := 3) g.2.2 g.2.1 (List.getElem?_eq_getElem hk) rfl
set_option maxRecDepth 100000 in
set_option maxHeartbeats 40000000 in
theorem walk_CanonLays (x : ModelV) (n : ModelV) (w : World) (h : ModelAt w.heap.size w x) (hw : (Lit.int .i64 x.ver).wf = true) (k : ModelAt w.heap.size w n) (kw : (Lit.int .i64 n.ver).wf = true) : Calls Tryz.prog 3 #[.agg #[.int .i64 x.ver, .slice x.pa x.procs.length x.pc, .slice x.la x.links.length x.lc, .slice x.ea x.events.length x.ec], .agg #[.int .i64 n.ver, .slice n.pa n.procs.length n.pc, .slice n.la n.links.length n.lc, .slice n.ea n.events.length n.ec]] w fun e w' => e = .returned (.bool true) ∧ Below w.heap.size w w' := by
  have HS := Lib.hid (S2.mk' h k)
  clear h k hw kw
  go_enter Tryz.func3, Tryz.ntmps3
  go_wp2_with fail
  generalize ((w.alloc (.cells #[.int .i64 x.ver, .slice x.pa x.procs.length x.pc, .slice x.la x.links.length x.lc, .slice x.ea x.events.length x.ec] 26)).alloc (.cells #[.int .i64 n.ver, .slice n.pa n.procs.length n.pc, .slice n.la n.links.length n.lc, .slice n.ea n.events.length n.ec] 26)) = w1 at *
  refine (alive_any w1).mono ?_
  rintro e w2 ⟨rfl, hb⟩
  have HB := Lib.hid hb
  clear hb
  have a0 : w2.cell? ⟨w.heap.size, 0, none⟩ = some (.int .i64 x.ver) := heap_cell (HS.out.xb HB.out) rfl
  have a1 : w2.cell? ⟨w.heap.size, 1, none⟩ = some (.slice x.pa x.procs.length x.pc) := heap_cell (HS.out.xb HB.out) rfl
  have a2 : w2.cell? ⟨w.heap.size, 2, none⟩ = some (.slice x.la x.links.length x.lc) := heap_cell (HS.out.xb HB.out) rfl
  have a3 : w2.cell? ⟨w.heap.size, 3, none⟩ = some (.slice x.ea x.events.length x.ec) := heap_cell (HS.out.xb HB.out) rfl
  go_wp2_with fail
  refine (few_any (HS.out.xa HB.out)).mono ?_
  rintro e w3 ⟨rfl, hb⟩
  replace HB := Lib.hid (further HB.out hb)
  clear hb a0 a1 a2 a3
  cases hf : fewB x.m with
  | false =>
    clear hf
    go_wp2
    go_ret
    exact ⟨rfl, HS.out.fin HB.out⟩
  | true =>
  have HSz := Lib.hid (few_sized hf)
  clear hf
  have b0 : w3.cell? ⟨w.heap.size + 1, 0, none⟩ = some (.int .i64 n.ver) := heap_cell (HS.out.nb HB.out) rfl
  have b1 : w3.cell? ⟨w.heap.size + 1, 1, none⟩ = some (.slice n.pa n.procs.length n.pc) := heap_cell (HS.out.nb HB.out) rfl
  have b2 : w3.cell? ⟨w.heap.size + 1, 2, none⟩ = some (.slice n.la n.links.length n.lc) := heap_cell (HS.out.nb HB.out) rfl
  have b3 : w3.cell? ⟨w.heap.size + 1, 3, none⟩ = some (.slice n.ea n.events.length n.ec) := heap_cell (HS.out.nb HB.out) rfl
  go_wp2_with fail
  refine (few_any (HS.out.na HB.out)).mono ?_
  rintro e w4 ⟨rfl, hb⟩
  replace HB := Lib.hid (further HB.out hb)
  clear hb b0 b1 b2 b3
  cases hf : fewB n.m with
  | false =>
    clear hf
    go_wp2
    go_ret
    exact ⟨rfl, HS.out.fin HB.out⟩
  | true =>
  clear hf
  have a0 : w4.cell? ⟨w.heap.size, 0, none⟩ = some (.int .i64 x.ver) := heap_cell (HS.out.xb HB.out) rfl
  have a1 : w4.cell? ⟨w.heap.size, 1, none⟩ = some (.slice x.pa x.procs.length x.pc) := heap_cell (HS.out.xb HB.out) rfl
  have a2 : w4.cell? ⟨w.heap.size, 2, none⟩ = some (.slice x.la x.links.length x.lc) := heap_cell (HS.out.xb HB.out) rfl
  have a3 : w4.cell? ⟨w.heap.size, 3, none⟩ = some (.slice x.ea x.events.length x.ec) := heap_cell (HS.out.xb HB.out) rfl
  go_wp2_with fail
  clear a0 a1 a2 a3
  refine (rcopy_any (HS.out.xa HB.out) HSz.out).mono ?_
  rintro e w5 ⟨u, rfl, hum, huo, hb⟩
  have HUm := Lib.hid hum
  have HV : Hid (Below w1.heap.size w1 (w5.alloc (.cells #[.int .i64 u.ver, .slice u.pa u.procs.length u.pc, .slice u.la u.links.length u.lc, .slice u.ea u.events.length u.ec] 26)) ∧ ModelAt (w5.alloc (.cells #[.int .i64 u.ver, .slice u.pa u.procs.length u.pc, .slice u.la u.links.length u.lc, .slice u.ea u.events.length u.ec] 26)).heap.size (w5.alloc (.cells #[.int .i64 u.ver, .slice u.pa u.procs.length u.pc, .slice u.la u.links.length u.lc, .slice u.ea u.events.length u.ec] 26)) u ∧ (w5.alloc (.cells #[.int .i64 u.ver, .slice u.pa u.procs.length u.pc, .slice u.la u.links.length u.lc, .slice u.ea u.events.length u.ec] 26)).heap[w5.heap.size]? = some (.cells #[.int .i64 u.ver, .slice u.pa u.procs.length u.pc, .slice u.la u.links.length u.lc, .slice u.ea u.events.length u.ec] 26 (0, 0))) := Lib.hid ⟨further (further HB.out hb) (below_one _ _), huo.at_.on (below_one _ _), heap_new _ rfl⟩
  clear hb hum huo HB
  go_upto_region 6 with fail
  generalize w5.alloc (.cells #[.int .i64 u.ver, .slice u.pa u.procs.length u.pc, .slice u.la u.links.length u.lc, .slice u.ea u.events.length u.ec] 26) = w6 at *
  generalize w5.heap.size = D1 at *
  have HB := Lib.hid HV.out.1
  have HUa := Lib.hid HV.out.2.1
  have HUb := Lib.hid HV.out.2.2
  clear HV
  have a0 : w6.cell? ⟨w.heap.size, 0, none⟩ = some (.int .i64 x.ver) := heap_cell (HS.out.xb HB.out) rfl
  have a1 : w6.cell? ⟨w.heap.size, 1, none⟩ = some (.slice x.pa x.procs.length x.pc) := heap_cell (HS.out.xb HB.out) rfl
  have a2 : w6.cell? ⟨w.heap.size, 2, none⟩ = some (.slice x.la x.links.length x.lc) := heap_cell (HS.out.xb HB.out) rfl
  have a3 : w6.cell? ⟨w.heap.size, 3, none⟩ = some (.slice x.ea x.events.length x.ec) := heap_cell (HS.out.xb HB.out) rfl
  go_wp2_with fail
  clear a0 a1 a2 a3
  refine (canon_any (HS.out.xa HB.out) HSz.out).mono ?_
  rintro e w7 ⟨y, rfl, hym, hyo, hb⟩
  have HYm := Lib.hid hym
  have HV : Hid (Below w6.heap.size w6 (w7.alloc (.cells #[.int .i64 y.ver, .slice y.pa y.procs.length y.pc, .slice y.la y.links.length y.lc, .slice y.ea y.events.length y.ec] 26)) ∧ OwnM w6.heap.size (w7.alloc (.cells #[.int .i64 y.ver, .slice y.pa y.procs.length y.pc, .slice y.la y.links.length y.lc, .slice y.ea y.events.length y.ec] 26)) y ∧ (w7.alloc (.cells #[.int .i64 y.ver, .slice y.pa y.procs.length y.pc, .slice y.la y.links.length y.lc, .slice y.ea y.events.length y.ec] 26)).heap[w7.heap.size]? = some (.cells #[.int .i64 y.ver, .slice y.pa y.procs.length y.pc, .slice y.la y.links.length y.lc, .slice y.ea y.events.length y.ec] 26 (0, 0))) := Lib.hid ⟨hb.alloc hb.size _, hyo.on (below_one _ _), heap_new _ rfl⟩
  clear hb hym hyo
  go_upto_region 7 with fail
  generalize w7.alloc (.cells #[.int .i64 y.ver, .slice y.pa y.procs.length y.pc, .slice y.la y.links.length y.lc, .slice y.ea y.events.length y.ec] 26) = w8 at *
  generalize w7.heap.size = D2 at *
  have HB68 := Lib.hid HV.out.1
  have HYo := Lib.hid HV.out.2.1
  have HYb := Lib.hid HV.out.2.2
  have HUx : Hid (ModelAt w6.heap.size w8 u ∧ D1 < w6.heap.size ∧ w8.heap[D1]? = some (.cells #[.int .i64 u.ver, .slice u.pa u.procs.length u.pc, .slice u.la u.links.length u.lc, .slice u.ea u.events.length u.ec] 26 (0, 0))) := Lib.hid ⟨HUa.out.kept HB68.out (Nat.le_refl _), heap_lt HUb.out, heap_below HUb.out HB68.out (heap_lt HUb.out)⟩
  have HB16 := HB
  replace HB := Lib.hid (further HB.out HB68.out)
  clear HV HUa HUb
  have a0 : w8.cell? ⟨w.heap.size, 0, none⟩ = some (.int .i64 x.ver) := heap_cell (HS.out.xb HB.out) rfl
  have a1 : w8.cell? ⟨w.heap.size, 1, none⟩ = some (.slice x.pa x.procs.length x.pc) := heap_cell (HS.out.xb HB.out) rfl
  have a2 : w8.cell? ⟨w.heap.size, 2, none⟩ = some (.slice x.la x.links.length x.lc) := heap_cell (HS.out.xb HB.out) rfl
  have a3 : w8.cell? ⟨w.heap.size, 3, none⟩ = some (.slice x.ea x.events.length x.ec) := heap_cell (HS.out.xb HB.out) rfl
  go_wp2_with fail
  clear a0 a1 a2 a3
  refine (rcanon_any (HS.out.xa HB.out) HSz.out).mono ?_
  rintro e wz ⟨z, rfl, hzm, hza, hb⟩
  have HZm := Lib.hid hzm
  have hbz := hb.alloc hb.size (.cells #[.int .i64 z.ver, .slice z.pa z.procs.length z.pc, .slice z.la z.links.length z.lc, .slice z.ea z.events.length z.ec] 26)
  have HV : Hid (Below w8.heap.size w8 (wz.alloc (.cells #[.int .i64 z.ver, .slice z.pa z.procs.length z.pc, .slice z.la z.links.length z.lc, .slice z.ea z.events.length z.ec] 26)) ∧ ModelAt (wz.alloc (.cells #[.int .i64 z.ver, .slice z.pa z.procs.length z.pc, .slice z.la z.links.length z.lc, .slice z.ea z.events.length z.ec] 26)).heap.size (wz.alloc (.cells #[.int .i64 z.ver, .slice z.pa z.procs.length z.pc, .slice z.la z.links.length z.lc, .slice z.ea z.events.length z.ec] 26)) z ∧ (wz.alloc (.cells #[.int .i64 z.ver, .slice z.pa z.procs.length z.pc, .slice z.la z.links.length z.lc, .slice z.ea z.events.length z.ec] 26)).heap[wz.heap.size]? = some (.cells #[.int .i64 z.ver, .slice z.pa z.procs.length z.pc, .slice z.la z.links.length z.lc, .slice z.ea z.events.length z.ec] 26 (0, 0))) := Lib.hid ⟨hbz, hza.on (below_one _ _), heap_new _ rfl⟩
  clear hb hbz hzm hza
  go_upto_region 8 with fail
  generalize wz.alloc (.cells #[.int .i64 z.ver, .slice z.pa z.procs.length z.pc, .slice z.la z.links.length z.lc, .slice z.ea z.events.length z.ec] 26) = w9 at *
  generalize wz.heap.size = D3 at *
  have HB89 := Lib.hid HV.out.1
  have HZa := Lib.hid HV.out.2.1
  have HZb := Lib.hid HV.out.2.2
  clear HV
  have HYo9 := Lib.hid (HYo.out.on HB89.out)
  have HYa : Hid (ModelAt w9.heap.size w9 y) := Lib.hid HYo9.out.at_
  replace HYb := Lib.hid (heap_on HYb.out HB89.out)
  have HB69 := Lib.hid (further HB68.out HB89.out)
  have HUl : Hid (ModelAt w6.heap.size w9 u) := Lib.hid (HUx.out.1.kept HB89.out HB68.out.size)
  have HUb : Hid (w9.heap[D1]? = some (.cells #[.int .i64 u.ver, .slice u.pa u.procs.length u.pc, .slice u.la u.links.length u.lc, .slice u.ea u.events.length u.ec] 26 (0, 0))) := Lib.hid (heap_on HUx.out.2.2 HB89.out)
  have HDl : Hid (D1 < w6.heap.size) := Lib.hid HUx.out.2.1
  have HUa : Hid (ModelAt w9.heap.size w9 u) := Lib.hid (HUl.out.mono HB69.out.size)
  replace HB := Lib.hid (further HB.out HB89.out)
  clear HUx HYo HB68 HB89
  obtain ⟨bi, hbi⟩ := tells (x.m = canM x.m)
  obtain ⟨bs, hbs⟩ := tells (x.m = n.m)
  have K1 : Hid (∀ W, Below w9.heap.size w9 W → Calls Tryz.prog 14 #[.agg #[.int .i64 y.ver, .slice y.pa y.procs.length y.pc, .slice y.la y.links.length y.lc, .slice y.ea y.events.length y.ec], .agg #[.int .i64 z.ver, .slice z.pa z.procs.length z.pc, .slice z.la z.links.length z.lc, .slice z.ea z.events.length z.ec]] W fun e w' => e = .returned (.bool true) ∧ Below W.heap.size W w') := Lib.hid (fun W hW => rtold (t := true) (x := y) (y := z) (HYa.out.on hW) ((HZa.out.on hW)) (by simp [HYm.out, HZm.out]))
  have K2 : Hid (∀ W, Below w9.heap.size w9 W → Calls Tryz.prog 14 #[.agg #[.int .i64 u.ver, .slice u.pa u.procs.length u.pc, .slice u.la u.links.length u.lc, .slice u.ea u.events.length u.ec], .agg #[.int .i64 x.ver, .slice x.pa x.procs.length x.pc, .slice x.la x.links.length x.lc, .slice x.ea x.events.length x.ec]] W fun e w' => e = .returned (.bool true) ∧ Below W.heap.size W w') := Lib.hid (fun W hW => rtold (t := true) (x := u) (y := x) (HUa.out.on hW) ((HS.out.xa (further HB.out hW))) (by simp [HUm.out]))
  have K4 : Hid (∀ W, Below w9.heap.size w9 W → Calls Tryz.prog 14 #[.agg #[.int .i64 x.ver, .slice x.pa x.procs.length x.pc, .slice x.la x.links.length x.lc, .slice x.ea x.events.length x.ec], .agg #[.int .i64 z.ver, .slice z.pa z.procs.length z.pc, .slice z.la z.links.length z.lc, .slice z.ea z.events.length z.ec]] W fun e w' => e = .returned (.bool bi) ∧ Below W.heap.size W w') := Lib.hid (fun W hW => rtold (t := bi) (x := x) (y := z) (HS.out.xa (further HB.out hW)) ((HZa.out.on hW)) (by rw [HZm.out]; exact hbi))
  have K6 : Hid (∀ W, Below w9.heap.size w9 W → Calls Tryz.prog 14 #[.agg #[.int .i64 x.ver, .slice x.pa x.procs.length x.pc, .slice x.la x.links.length x.lc, .slice x.ea x.events.length x.ec], .agg #[.int .i64 n.ver, .slice n.pa n.procs.length n.pc, .slice n.la n.links.length n.lc, .slice n.ea n.events.length n.ec]] W fun e w' => e = .returned (.bool bs) ∧ Below W.heap.size W w') := Lib.hid (fun W hW => rtold (t := bs) (x := x) (y := n) (HS.out.xa (further HB.out hW)) ((HS.out.na (further HB.out hW))) (hbs))
  have K3 : Hid (∀ W, Below w9.heap.size w9 W → Calls Tryz.prog 15 #[.agg #[.int .i64 x.ver, .slice x.pa x.procs.length x.pc, .slice x.la x.links.length x.lc, .slice x.ea x.events.length x.ec]] W fun e w' => e = .returned (.bool bi) ∧ Below W.heap.size W w') := Lib.hid (fun W hW => told (t := bi) hbi (cis_any (x := x) (HS.out.xa (further HB.out hW)) HSz.out))
  have K5 : Hid (∀ W, Below w9.heap.size w9 W → Calls Tryz.prog 16 #[.agg #[.int .i64 x.ver, .slice x.pa x.procs.length x.pc, .slice x.la x.links.length x.lc, .slice x.ea x.events.length x.ec], .agg #[.int .i64 n.ver, .slice n.pa n.procs.length n.pc, .slice n.la n.links.length n.lc, .slice n.ea n.events.length n.ec]] W fun e w' => e = .returned (.bool bs) ∧ Below W.heap.size W w') := Lib.hid (fun W hW => told (t := bs) hbs (csame_any (x := x) (y := n) (HS.out.xa (further HB.out hW)) (HS.out.na (further HB.out hW))))
  have hq1 : (bi != bi) = false := by simp
  have hq2 : (bs != bs) = false := by simp
  clear hbi hbs
  have fx0 : ∀ W, Below w9.heap.size w9 W → W.cell? ⟨w.heap.size, 0, none⟩ = some (.int .i64 x.ver) := fun W hW => heap_cell (HS.out.xb (further HB.out hW)) rfl
  have fx1 : ∀ W, Below w9.heap.size w9 W → W.cell? ⟨w.heap.size, 1, none⟩ = some (.slice x.pa x.procs.length x.pc) := fun W hW => heap_cell (HS.out.xb (further HB.out hW)) rfl
  have fx2 : ∀ W, Below w9.heap.size w9 W → W.cell? ⟨w.heap.size, 2, none⟩ = some (.slice x.la x.links.length x.lc) := fun W hW => heap_cell (HS.out.xb (further HB.out hW)) rfl
  have fx3 : ∀ W, Below w9.heap.size w9 W → W.cell? ⟨w.heap.size, 3, none⟩ = some (.slice x.ea x.events.length x.ec) := fun W hW => heap_cell (HS.out.xb (further HB.out hW)) rfl
  have fn0 : ∀ W, Below w9.heap.size w9 W → W.cell? ⟨w.heap.size + 1, 0, none⟩ = some (.int .i64 n.ver) := fun W hW => heap_cell (HS.out.nb (further HB.out hW)) rfl
  have fn1 : ∀ W, Below w9.heap.size w9 W → W.cell? ⟨w.heap.size + 1, 1, none⟩ = some (.slice n.pa n.procs.length n.pc) := fun W hW => heap_cell (HS.out.nb (further HB.out hW)) rfl
  have fn2 : ∀ W, Below w9.heap.size w9 W → W.cell? ⟨w.heap.size + 1, 2, none⟩ = some (.slice n.la n.links.length n.lc) := fun W hW => heap_cell (HS.out.nb (further HB.out hW)) rfl
  have fn3 : ∀ W, Below w9.heap.size w9 W → W.cell? ⟨w.heap.size + 1, 3, none⟩ = some (.slice n.ea n.events.length n.ec) := fun W hW => heap_cell (HS.out.nb (further HB.out hW)) rfl
  have fu0 : ∀ W, Below w9.heap.size w9 W → W.cell? ⟨D1, 0, none⟩ = some (.int .i64 u.ver) := fun W hW => heap_cell (heap_below HUb.out hW (heap_lt HUb.out)) rfl
  have fu1 : ∀ W, Below w9.heap.size w9 W → W.cell? ⟨D1, 1, none⟩ = some (.slice u.pa u.procs.length u.pc) := fun W hW => heap_cell (heap_below HUb.out hW (heap_lt HUb.out)) rfl
  have fu2 : ∀ W, Below w9.heap.size w9 W → W.cell? ⟨D1, 2, none⟩ = some (.slice u.la u.links.length u.lc) := fun W hW => heap_cell (heap_below HUb.out hW (heap_lt HUb.out)) rfl
  have fu3 : ∀ W, Below w9.heap.size w9 W → W.cell? ⟨D1, 3, none⟩ = some (.slice u.ea u.events.length u.ec) := fun W hW => heap_cell (heap_below HUb.out hW (heap_lt HUb.out)) rfl
  have fy0 : ∀ W, Below w9.heap.size w9 W → W.cell? ⟨D2, 0, none⟩ = some (.int .i64 y.ver) := fun W hW => heap_cell (heap_below HYb.out hW (heap_lt HYb.out)) rfl
  have fy1 : ∀ W, Below w9.heap.size w9 W → W.cell? ⟨D2, 1, none⟩ = some (.slice y.pa y.procs.length y.pc) := fun W hW => heap_cell (heap_below HYb.out hW (heap_lt HYb.out)) rfl
  have fy2 : ∀ W, Below w9.heap.size w9 W → W.cell? ⟨D2, 2, none⟩ = some (.slice y.la y.links.length y.lc) := fun W hW => heap_cell (heap_below HYb.out hW (heap_lt HYb.out)) rfl
  have fy3 : ∀ W, Below w9.heap.size w9 W → W.cell? ⟨D2, 3, none⟩ = some (.slice y.ea y.events.length y.ec) := fun W hW => heap_cell (heap_below HYb.out hW (heap_lt HYb.out)) rfl
  have fz0 : ∀ W, Below w9.heap.size w9 W → W.cell? ⟨D3, 0, none⟩ = some (.int .i64 z.ver) := fun W hW => heap_cell (heap_below HZb.out hW (heap_lt HZb.out)) rfl
  have fz1 : ∀ W, Below w9.heap.size w9 W → W.cell? ⟨D3, 1, none⟩ = some (.slice z.pa z.procs.length z.pc) := fun W hW => heap_cell (heap_below HZb.out hW (heap_lt HZb.out)) rfl
  have fz2 : ∀ W, Below w9.heap.size w9 W → W.cell? ⟨D3, 2, none⟩ = some (.slice z.la z.links.length z.lc) := fun W hW => heap_cell (heap_below HZb.out hW (heap_lt HZb.out)) rfl
  have fz3 : ∀ W, Below w9.heap.size w9 W → W.cell? ⟨D3, 3, none⟩ = some (.slice z.ea z.events.length z.ec) := fun W hW => heap_cell (heap_below HZb.out hW (heap_lt HZb.out)) rfl
  have hS9 := Below.refl w9.heap.size w9
  go_cut [54] from 28 to 54 (fun c wx => c = .bool false ∧ Hid (Below w9.heap.size w9 wx))
  case first =>
    go_region_held3 (fun W => Below w9.heap.size w9 W) (first | assumption | exact Below.drew (by assumption)) (first
      | (go_at_call 14; with_reducible refine (K1.out _ (by assumption)).mono ?_; rintro e v1 ⟨rfl, hb⟩; have hSv1 : Below w9.heap.size w9 v1 := further (show Below w9.heap.size w9 _ by assumption) hb; clear hb)
      | (go_at_call 14; with_reducible refine (K2.out _ (by assumption)).mono ?_; rintro e v2 ⟨rfl, hb⟩; have hSv2 : Below w9.heap.size w9 v2 := further (show Below w9.heap.size w9 _ by assumption) hb; clear hb)
      | (go_at_call 15; with_reducible refine (K3.out _ (by assumption)).mono ?_; rintro e v3 ⟨rfl, hb⟩; have hSv3 : Below w9.heap.size w9 v3 := further (show Below w9.heap.size w9 _ by assumption) hb; clear hb)
      | (go_at_call 14; with_reducible refine (K4.out _ (by assumption)).mono ?_; rintro e v4 ⟨rfl, hb⟩; have hSv4 : Below w9.heap.size w9 v4 := further (show Below w9.heap.size w9 _ by assumption) hb; clear hb)
      | (go_at_call 16; with_reducible refine (K5.out _ (by assumption)).mono ?_; rintro e v5 ⟨rfl, hb⟩; have hSv5 : Below w9.heap.size w9 v5 := further (show Below w9.heap.size w9 _ by assumption) hb; clear hb)
      | (go_at_call 14; with_reducible refine (K6.out _ (by assumption)).mono ?_; rintro e v6 ⟨rfl, hb⟩; have hSv6 : Below w9.heap.size w9 v6 := further (show Below w9.heap.size w9 _ by assumption) hb; clear hb))
    all_goals
      go_wp2_with fail
      go_meet
      exact ⟨rfl, Lib.hid hSv6⟩
  case rest =>
  obtain ⟨rfl, HB10⟩ := hcut
  generalize wc = w10 at *
  clear hS9 hq1 hq2 K1 K2 K3 K4 K5 K6
  clear fx0 fx1 fx2 fx3 fn0 fn1 fn2 fn3 fu0 fu1 fu2 fu3 fy0 fy1 fy2 fy3 fz0 fz1 fz2 fz3
  have HSh : Hid (Sh w6.heap.size w9 D2 y w10) := Lib.hid ((sh_start HYo9.out HYb.out).on HB69.out.size HB10.out)
  have hnp : y.procs.length ≤ maxLen := HYo9.out.procs.small
  have hnl : y.links.length ≤ maxLen := HYo9.out.links.small
  unfold maxLen at hnp hnl
  have c1 : w10.cell? ⟨D2, 1, none⟩ = some (.slice y.pa y.procs.length y.pc) := heap_cell HSh.out.box rfl
  go_wp2_with fail
  clear c1 HB10
  go_loopw [58] (fun i wr => ∃ j : Nat, i = .int .i64 (j : Int) ∧ j ≤ y.procs.length ∧ Hid (Sh w6.heap.size w9 D2 y wr)) (fun i _ => y.procs.length - (intOf i).toNat)
  case atStart => exact ⟨0, rfl, Nat.zero_le _, HSh⟩
  case round =>
    clear HSh
    obtain ⟨j, rfl, hj, HSh⟩ := hrel
    have hj0 : (0 : Int) ≤ (j : Int) := Int.natCast_nonneg j
    by_cases hlt : j < y.procs.length
    · have hji : (j : Int) < (y.procs.length : Int) := by omega
      obtain ⟨p, hp⟩ : ∃ p, y.procs[j]? = some p := ⟨_, List.getElem?_eq_getElem hlt⟩
      have hmem := List.mem_of_getElem? hp
      have hst : p.p.steps.length ≤ maxLen := (HYo9.out.inner p hmem).steps.small
      have hvs : p.p.vars.length ≤ maxLen := (HYo9.out.inner p hmem).vars.small
      unfold maxLen at hst hvs
      have HP : Hid (∀ W, Sh w6.heap.size w9 D2 y W → W.cell? ⟨D2, 1, none⟩ = some (.slice (some ⟨y.pb, 0, none⟩) y.procs.length y.pc) ∧ W.cell? ⟨y.pb, j * 4 + 2, none⟩ = some (.slice p.va p.p.vars.length p.vc) ∧ W.cell? ⟨y.pb, j * 4 + 3, none⟩ = some (.slice p.sa p.p.steps.length p.sc)) := Lib.hid (fun W hW => by
        obtain ⟨h1, h2⟩ := hW.prow.resolve_left (fun e => by rw [e] at hp; simp at hp)
        exact ⟨by rw [← h1]; exact heap_cell hW.box rfl, h2.cell hp (r := 2) rfl, h2.cell hp (r := 3) rfl⟩)
      have HMem := Lib.hid hmem
      clear hp hmem
      obtain ⟨d1, e2, e3⟩ := HP.out _ HSh.out
      go_wp2_with fail
      clear d1 e2 e3
      go_loopw [68] (fun i wr => ∃ k : Nat, i = .int .i64 (k : Int) ∧ k ≤ p.p.steps.length ∧ Hid (Sh w6.heap.size w9 D2 y wr)) (fun i _ => p.p.steps.length - (intOf i).toNat)
      case atStart => exact ⟨0, rfl, Nat.zero_le _, HSh⟩
      case round =>
        clear HSh
        obtain ⟨k, rfl, hk, HSh⟩ := hrel
        have hk0 : (0 : Int) ≤ (k : Int) := Int.natCast_nonneg k
        obtain ⟨d1, e2, e3⟩ := HP.out _ HSh.out
        by_cases hkt : k < p.p.steps.length
        · have hki : (k : Int) < (p.p.steps.length : Int) := by omega
          obtain ⟨h1, h2⟩ := (HSh.out.stp p HMem.out).resolve_left (fun e => by rw [e] at hkt; simp at hkt)
          have HInt := Lib.hid (h2 k hkt)
          obtain ⟨hbb, cur, nn, hc1, hc2⟩ := h2 k hkt
          have s0 : wr.cell? ⟨p.sb, k * 5, none⟩ = some (.int .i64 nn) := heap_cell hc1 hc2
          have f0 : wr.frozen? ⟨p.sb, k * 5, none⟩ = false := heap_frozen hc1 _
          rw [h1] at e3
          clear h1 h2 hbb hc1 hc2
          go_wp2
          go_roundw
          case rel => exact ⟨k + 1, by go_num, by omega, Lib.hid (HSh.out.set HInt.out (by decide) (by decide) _)⟩
          case measure => simp [intOf] <;> omega
        · obtain rfl : k = p.p.steps.length := by omega
          have hkn : ¬ ((p.p.steps.length : Int) < (p.p.steps.length : Int)) := by omega
          go_wp2_with fail
          clear d1 e2 e3 hkn hk0 hkt hk
          go_loopw [92] (fun i wr => ∃ k : Nat, i = .int .i64 (k : Int) ∧ k ≤ p.p.vars.length ∧ Hid (Sh w6.heap.size w9 D2 y wr)) (fun i _ => p.p.vars.length - (intOf i).toNat)
          case atStart => exact ⟨0, rfl, Nat.zero_le _, HSh⟩
          case round =>
            clear HSh
            obtain ⟨k, rfl, hk, HSh⟩ := hrel
            have hk0 : (0 : Int) ≤ (k : Int) := Int.natCast_nonneg k
            obtain ⟨d1, e2, e3⟩ := HP.out _ HSh.out
            by_cases hkt : k < p.p.vars.length
            · have hki : (k : Int) < (p.p.vars.length : Int) := by omega
              obtain ⟨h1, h2⟩ := (HSh.out.vrs p HMem.out).resolve_left (fun e => by rw [e] at hkt; simp at hkt)
              have HInt := Lib.hid (h2 k hkt)
              obtain ⟨hbb, cur, nn, hc1, hc2⟩ := h2 k hkt
              have s0 : wr.cell? ⟨p.vb, k * 2 + 1, none⟩ = some (.int .i64 nn) := heap_cell hc1 hc2
              have f0 : wr.frozen? ⟨p.vb, k * 2 + 1, none⟩ = false := heap_frozen hc1 _
              rw [h1] at e2
              clear h1 h2 hbb hc1 hc2
              go_wp2
              go_roundw
              case rel => exact ⟨k + 1, by go_num, by omega, Lib.hid (HSh.out.set HInt.out (by decide) (by decide) _)⟩
              case measure => simp [intOf] <;> omega
            · obtain rfl : k = p.p.vars.length := by omega
              have hkn : ¬ ((p.p.vars.length : Int) < (p.p.vars.length : Int)) := by omega
              clear d1 e2 e3
              go_wp2
              go_roundw
              case rel => exact ⟨j + 1, by go_num, by omega, HSh⟩
              case measure => simp [intOf] <;> omega
    · obtain rfl : j = y.procs.length := by omega
      have hjn : ¬ ((y.procs.length : Int) < (y.procs.length : Int)) := by omega
      have c2 : wr.cell? ⟨D2, 2, none⟩ = some (.slice y.la y.links.length y.lc) := heap_cell HSh.out.box rfl
      go_wp2_with fail
      clear c2 hjn hj0 hlt hj
      go_loopw [113] (fun i wr => ∃ k : Nat, i = .int .i64 (k : Int) ∧ k ≤ y.links.length ∧ Hid (Sh w6.heap.size w9 D2 y wr)) (fun i _ => y.links.length - (intOf i).toNat)
      case atStart => exact ⟨0, rfl, Nat.zero_le _, HSh⟩
      case round =>
        clear HSh
        obtain ⟨k, rfl, hk, HSh⟩ := hrel
        have hk0 : (0 : Int) ≤ (k : Int) := Int.natCast_nonneg k
        by_cases hkt : k < y.links.length
        · have hki : (k : Int) < (y.links.length : Int) := by omega
          obtain ⟨h1, h2⟩ := HSh.out.lks.resolve_left (fun e => by rw [e] at hkt; simp at hkt)
          have HInt := Lib.hid (h2 k hkt)
          obtain ⟨hbb, cur, nn, hc1, hc2⟩ := h2 k hkt
          have s0 : wr.cell? ⟨y.lb, k * 5 + 3, none⟩ = some (.int .i64 nn) := heap_cell hc1 hc2
          have f0 : wr.frozen? ⟨y.lb, k * 5 + 3, none⟩ = false := heap_frozen hc1 _
          have d2 : wr.cell? ⟨D2, 2, none⟩ = some (.slice (some ⟨y.lb, 0, none⟩) y.links.length y.lc) := by rw [← h1]; exact heap_cell HSh.out.box rfl
          clear h1 h2 hbb hc1 hc2
          go_wp2
          go_roundw
          case rel => exact ⟨k + 1, by go_num, by omega, Lib.hid (HSh.out.set HInt.out (by decide) (by decide) _)⟩
          case measure => simp [intOf] <;> omega
        · have hkn : ¬ ((k : Int) < (y.links.length : Int)) := by omega
          have hsz : w6.heap.size ≤ wr.heap.size := Nat.le_trans HB69.out.size HSh.out.low.size
          have HBw : Hid (Below w1.heap.size w1 wr) := Lib.hid (HB.out.trans (HSh.out.low.mono HB16.out.size))
          have HUw : Hid (ModelAt wr.heap.size wr u) := Lib.hid ((HUl.out.kept HSh.out.low (Nat.le_refl _)).mono hsz)
          have HUx : Hid (wr.heap[D1]? = some (.cells #[.int .i64 u.ver, .slice u.pa u.procs.length u.pc, .slice u.la u.links.length u.lc, .slice u.ea u.events.length u.ec] 26 (0, 0))) := Lib.hid ((HSh.out.low.block D1 HDl.out).trans HUb.out)
          have a0 : wr.cell? ⟨w.heap.size, 0, none⟩ = some (.int .i64 x.ver) := heap_cell (HS.out.xb HBw.out) rfl
          have a1 : wr.cell? ⟨w.heap.size, 1, none⟩ = some (.slice x.pa x.procs.length x.pc) := heap_cell (HS.out.xb HBw.out) rfl
          have a2 : wr.cell? ⟨w.heap.size, 2, none⟩ = some (.slice x.la x.links.length x.lc) := heap_cell (HS.out.xb HBw.out) rfl
          have a3 : wr.cell? ⟨w.heap.size, 3, none⟩ = some (.slice x.ea x.events.length x.ec) := heap_cell (HS.out.xb HBw.out) rfl
          have g0 : wr.cell? ⟨D1, 0, none⟩ = some (.int .i64 u.ver) := heap_cell (HUx.out) rfl
          have g1 : wr.cell? ⟨D1, 1, none⟩ = some (.slice u.pa u.procs.length u.pc) := heap_cell (HUx.out) rfl
          have g2 : wr.cell? ⟨D1, 2, none⟩ = some (.slice u.la u.links.length u.lc) := heap_cell (HUx.out) rfl
          have g3 : wr.cell? ⟨D1, 3, none⟩ = some (.slice u.ea u.events.length u.ec) := heap_cell (HUx.out) rfl
          have KR := Lib.hid (rtold (t := true) HUw.out (HS.out.xa HBw.out) (by simp [HUm.out]))
          go_wp2_with fail
          refine KR.out.mono ?_
          rintro e we ⟨rfl, hb⟩
          go_wp2
          go_ret
          exact ⟨rfl, HS.out.fin (further HBw.out hb)⟩

end Go.Proofs.YtjcmeacgfflfmaaGreat.Hk
