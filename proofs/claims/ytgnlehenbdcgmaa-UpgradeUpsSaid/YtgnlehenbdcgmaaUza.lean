/- Contracts: the reference's layer 20: one, Up, Latest. Upgrade: the reference's newest version. Upgrade: walk of UpgradeUps. -/
import Derived.Test.YtgnlehenbdcgmaaUt
import Derived.Test.YtgnlehenbdcgmaaUx
import Derived.Test.YtgnlehenbdcgmaaMeH
import Derived.StillTailTactics
import Derived.BigQuiet
set_option linter.unusedVariables false
set_option linter.unusedSectionVars false
set_option linter.unusedSimpArgs false
namespace Go.Proofs.Ytgnlehenbdcgmaa.Md
open Go.RowKit Go.Shelf

theorem one_any (n : Int) (w : World) : Calls Try.prog 54 #[.int .i64 n] w fun e w' => e = .returned (.int .i64 (orW n)) ∧ w = w' := by
  by_cases h : n = 0
  · subst h
    go_enter Try.func54, Try.ntmps54
    go_wp2
    go_ret
    exact ⟨rfl, rfl⟩
  · have hb : (n == 0) = false := by simpa using h
    have ho : orW n = n := if_neg h
    rw [ho]
    clear h ho
    go_enter Try.func54, Try.ntmps54
    go_wp2
    go_ret
    exact ⟨rfl, rfl⟩
def Up3Q (w : World) (r : ModelM × Int × Int) (e : Ending) (w' : World) : Prop := ∃ x : ModelV, e = .returned (.tuple #[.agg #[.int .i64 x.ver, .slice x.pa x.procs.length x.pc, .slice x.la x.links.length x.lc, .slice x.ea x.events.length x.ec], .int .i64 r.2.1, .int .i64 r.2.2]) ∧ x.m = r.1 ∧ OwnM w.heap.size w' x ∧ Below w.heap.size w w'
theorem up3_ret {fn : Func} {p q r : Tmp} (h : fn.results = #[.cell p 26, .tmp q, .tmp r]) {W : World} {B : Nat} {a b c d u v : Value} {tmps : Array Value} (hx : W.heap[B]? = some (.cells #[a, b, c, d] 26 (0, 0)))
    (h2 : tmps.getD p undef = .pointer (some ⟨B, 0, none⟩)) (h3 : tmps.getD q undef = u) (h4 : tmps.getD r undef = v) : (results fn tmps).run Try.prog W = .ok (.tuple #[.agg #[a, b, c, d], u, v]) W := by
  have h2' : tmps[p]?.getD undef = .pointer (some ⟨B, 0, none⟩) := by simpa using h2
  have h3' : tmps[q]?.getD undef = u := by simpa using h3
  have h4' : tmps[r]?.getD undef = v := by simpa using h4
  simp [results, h, h2', h3', h4', asAddr, run_loadVar_row W B 26 26 _ (0, 0) _ hx Try.underlying26 rfl Try.infoMd]
/-- While the reference's model is turned. -/
structure Ru (w w6 : World) (x c : ModelV) (V : Int) (B : Nat) (fL : LinkM → LinkM) (fP : ProcV → ProcV) (i j : Nat) (W : World) : Prop where
  xbox : W.heap[w.heap.size]? = some (.cells #[.int .i64 x.ver, .slice x.pa x.procs.length x.pc, .slice x.la x.links.length x.lc, .slice x.ea x.events.length x.ec] 26 (0, 0))
  res : W.heap[w.heap.size + 1]? = some (.cells #[.int .i64 0, .slice none 0 0, .slice none 0 0, .slice none 0 0] 26 (0, 0))
  box : W.heap[B]? = some (.cells #[.int .i64 V, .slice c.pa c.procs.length c.pc, .slice c.la c.links.length c.lc, .slice c.ea c.events.length c.ec] 26 (0, 0))
  own : OwnM w6.heap.size W { c with ver := V, procs := upto fP j c.procs, links := upto fL i c.links }
  low : Below w.heap.size w W
theorem Ru.on {w w6 : World} {x c : ModelV} {V : Int} {B : Nat} {fL : LinkM → LinkM} {fP : ProcV → ProcV} {i j : Nat} {W W' : World} (h : Ru w w6 x c V B fL fP i j W) (hb : Below W.heap.size W W') : Ru w w6 x c V B fL fP i j W' :=
  ⟨heap_below h.xbox hb (heap_lt h.xbox), heap_below h.res hb (heap_lt h.res), heap_below h.box hb (heap_lt h.box), h.own.on hb, h.low.trans (hb.mono h.low.size)⟩
theorem Ru.setL {w w6 : World} {x c : ModelV} {V : Int} {B : Nat} {fL : LinkM → LinkM} {fP : ProcV → ProcV} {i j : Nat} {W : World} (h : Ru w w6 x c V B fL fP i j W) (h6 : w.heap.size + 1 < w6.heap.size) {l : LinkM} (hl : c.links[i]? = some l) {q : Nat} (hq : q < 5) {v : Value} (he : ∀ r u, (encL (fL l))[r]? = some u → (r = q ∧ u = v) ∨ (r ≠ q ∧ (encL l)[r]? = some u)) (hf : fitL (fL l)) :
    Ru w w6 x c V B fL fP (i + 1) j (W.setCell ⟨c.lb, i * 5 + q, none⟩ v) := by
  have hlt := (List.getElem?_eq_some_iff.1 hl).1
  have hl2 : (upto fL i c.links)[i]? = some l := by rw [upto_get hlt]; exact hl
  have hset := h.own.setL (k := i) (l := l) (l2 := fL l) hl2 hq he hf
  dsimp only at hset
  rw [upto_set hl] at hset
  have hT := Turned.one W c.lb (i * 5 + q) v
  obtain ⟨_, hbase, cur, hc, _⟩ := h.own.links.own.resolve_left (fun e => by dsimp only at e; rw [e] at hl2; simp at hl2)
  dsimp only at hbase hc
  have hne : ∀ {b : Nat} {cs : Array Value}, W.heap[b]? = some (.cells cs 26 (0, 0)) → ¬ b = c.lb := fun hb e => by
    rw [e, hc] at hb
    cases hb
  exact ⟨hT.old h.xbox (hne h.xbox), hT.old h.res (hne h.res), hT.old h.box (hne h.box), hset, low_one h.low hT (by omega)⟩
theorem Ru.setP {w w6 : World} {x c : ModelV} {V : Int} {B : Nat} {fL : LinkM → LinkM} {i j : Nat} {W : World} (h : Ru w w6 x c V B fL wghV i j W) (h6 : w.heap.size + 1 < w6.heap.size) {p : ProcV} (hp : c.procs[j]? = some p) {D : Int} (hD : orW p.p.weight = D) :
    Ru w w6 x c V B fL wghV i (j + 1) (W.setCell ⟨c.pb, j * 4 + 1, none⟩ (.int .i64 D)) := by
  have hlt := (List.getElem?_eq_some_iff.1 hp).1
  have hp2 : (upto wghV j c.procs)[j]? = some p := by rw [upto_get hlt]; exact hp
  have hset := h.own.setP (k := j) (p := p) hp2 D
  dsimp only at hset
  rw [show ({ p with p := { p.p with weight := D } } : ProcV) = wghV p by unfold wghV wghP; rw [hD], upto_set hp] at hset
  have hT := Turned.one W c.pb (j * 4 + 1) (.int .i64 D)
  obtain ⟨_, hbase, cur, hc, _⟩ := h.own.procs.own.resolve_left (fun e => by dsimp only at e; rw [e] at hp2; simp at hp2)
  dsimp only at hbase hc
  have hne : ∀ {b : Nat} {cs : Array Value}, W.heap[b]? = some (.cells cs 26 (0, 0)) → ¬ b = c.pb := fun hb e => by
    rw [e, hc] at hb
    cases hb
  exact ⟨hT.old h.xbox (hne h.xbox), hT.old h.res (hne h.res), hT.old h.box (hne h.box), hset, low_one h.low hT (by omega)⟩
theorem upto_id {α : Type} (j : Nat) (L : List α) : upto (fun x => x) j L = L := by unfold upto; simp
theorem Ru.idP {w w6 : World} {x c : ModelV} {V : Int} {B : Nat} {fL : LinkM → LinkM} {i j k : Nat} {W : World} (h : Ru w w6 x c V B fL (fun q => q) i j W) : Ru w w6 x c V B fL (fun q => q) i k W := by
  have ho := h.own
  rw [upto_id] at ho
  exact ⟨h.xbox, h.res, h.box, by rw [upto_id]; exact ho, h.low⟩

set_option maxRecDepth 100000 in
set_option maxHeartbeats 8000000 in
theorem rup_any {w : World} {x : ModelV} (h : ModelAt w.heap.size w x) (hs : Sized x.m) : Calls Try.prog 26 #[.agg #[.int .i64 x.ver, .slice x.pa x.procs.length x.pc, .slice x.la x.links.length x.lc, .slice x.ea x.events.length x.ec]] w (Up3Q w (UpR x.m)) := by
  have HM := Lib.hid h
  have HS := Lib.hid hs
  have hx1 := heap_alloc (heap_new (w := w) (.cells #[.int .i64 x.ver, .slice x.pa x.procs.length x.pc, .slice x.la x.links.length x.lc, .slice x.ea x.events.length x.ec] 26) rfl) (.cells #[.int .i64 0, .slice none 0 0, .slice none 0 0, .slice none 0 0] 26)
  have hr1 := heap_new (w := w.alloc (.cells #[.int .i64 x.ver, .slice x.pa x.procs.length x.pc, .slice x.la x.links.length x.lc, .slice x.ea x.events.length x.ec] 26)) (.cells #[.int .i64 0, .slice none 0 0, .slice none 0 0, .slice none 0 0] 26) rfl
  have hb1 := (below_one w (.cells #[.int .i64 x.ver, .slice x.pa x.procs.length x.pc, .slice x.la x.links.length x.lc, .slice x.ea x.events.length x.ec] 26)).alloc (by simp) (.cells #[.int .i64 0, .slice none 0 0, .slice none 0 0, .slice none 0 0] 26)
  rw [World.size_alloc] at hr1
  have HX := Lib.hid hx1
  have HRs := Lib.hid hr1
  have HB := Lib.hid hb1
  clear h hs hx1 hr1 hb1
  go_enter Try.func26, Try.ntmps26
  go_upto_region 1 with fail
  generalize (w.alloc (.cells #[.int .i64 x.ver, .slice x.pa x.procs.length x.pc, .slice x.la x.links.length x.lc, .slice x.ea x.events.length x.ec] 26)).alloc (.cells #[.int .i64 0, .slice none 0 0, .slice none 0 0, .slice none 0 0] 26) = w1 at *
  have a0 : w1.cell? ⟨w.heap.size, 0, none⟩ = some (.int .i64 x.ver) := heap_cell HX.out rfl
  have a1 : w1.cell? ⟨w.heap.size, 1, none⟩ = some (.slice x.pa x.procs.length x.pc) := heap_cell HX.out rfl
  have a2 : w1.cell? ⟨w.heap.size, 2, none⟩ = some (.slice x.la x.links.length x.lc) := heap_cell HX.out rfl
  have a3 : w1.cell? ⟨w.heap.size, 3, none⟩ = some (.slice x.ea x.events.length x.ec) := heap_cell HX.out rfl
  go_wp2_with fail
  clear a0 a1 a2 a3
  refine (rcheck_any (HM.out.on HB.out)).mono ?_
  rintro e w2 ⟨rfl, hb⟩
  replace HX := Lib.hid (heap_below HX.out hb (heap_lt HX.out))
  replace HRs := Lib.hid (heap_below HRs.out hb (heap_lt HRs.out))
  replace HB := Lib.hid (HB.out.trans (hb.mono HB.out.size))
  clear hb
  have HU : Hid (UpR x.m = UpR x.m) := Lib.hid rfl
  obtain ⟨e1, he1⟩ : ∃ e1, (mdE x.m).1 = e1 := ⟨_, rfl⟩
  obtain ⟨e2, he2⟩ : ∃ e2, (mdE x.m).2 = e2 := ⟨_, rfl⟩
  rw [he1, he2]
  have f0 := heap_frozen HRs.out 0
  have f1 := heap_frozen HRs.out 1
  have f2 := heap_frozen HRs.out 2
  have f3 := heap_frozen HRs.out 3
  have d0 : w2.cell? ⟨w.heap.size + 1, 0, none⟩ = some (.int .i64 0) := heap_cell HRs.out rfl
  have d1 : w2.cell? ⟨w.heap.size + 1, 1, none⟩ = some (.slice none 0 0) := heap_cell HRs.out rfl
  have d2 : w2.cell? ⟨w.heap.size + 1, 2, none⟩ = some (.slice none 0 0) := heap_cell HRs.out rfl
  have d3 : w2.cell? ⟨w.heap.size + 1, 3, none⟩ = some (.slice none 0 0) := heap_cell HRs.out rfl
  by_cases h0 : e1 = 0
  case neg =>
    have h0b : (e1 != 0) = true := by simpa using h0
    have HUq : Hid (UpR x.m = (zeroM, e1, e2)) := Lib.hid (by unfold UpR; rw [he1, he2, if_neg h0])
    clear he1 he2 h0
    go_wp2
    have h4 := set4 HRs.out (.int .i64 0) (.slice none 0 0) (.slice none 0 0) (.slice none 0 0)
    refine bodyPost_ret (up3_ret rfl h4.1 rfl rfl rfl) rfl ?_
    rw [HUq.out]
    exact ⟨noneV, rfl, rfl, own_none _ _, low_one HB.out h4.2 (by omega)⟩
  subst h0
  have hr := right_of he1
  have HUq : Hid (UpR x.m = upR x.m) := Lib.hid (by unfold UpR; rw [he1, if_pos rfl])
  have HRi := Lib.hid hr
  clear he1 he2 hr HU
  clear f0 f1 f2 f3 d0 d1 d2 d3
  have a0 : w2.cell? ⟨w.heap.size, 0, none⟩ = some (.int .i64 x.ver) := heap_cell HX.out rfl
  have a1 : w2.cell? ⟨w.heap.size, 1, none⟩ = some (.slice x.pa x.procs.length x.pc) := heap_cell HX.out rfl
  have a2 : w2.cell? ⟨w.heap.size, 2, none⟩ = some (.slice x.la x.links.length x.lc) := heap_cell HX.out rfl
  have a3 : w2.cell? ⟨w.heap.size, 3, none⟩ = some (.slice x.ea x.events.length x.ec) := heap_cell HX.out rfl
  go_wp2_with fail
  clear a0 a1 a2 a3
  refine (rcopy_any (HM.out.on HB.out) HS.out).mono ?_
  rintro e w3 ⟨c, rfl, hc, hoc, hb⟩
  have hz2 : w.heap.size + 1 < w2.heap.size := heap_lt HRs.out
  go_upto_region 5 with fail
  have hcx : (w3.alloc (.cells #[.int .i64 c.ver, .slice c.pa c.procs.length c.pc, .slice c.la c.links.length c.lc, .slice c.ea c.events.length c.ec] 26)).heap[w.heap.size]? = some (.cells #[.int .i64 x.ver, .slice x.pa x.procs.length x.pc, .slice x.la x.links.length x.lc, .slice x.ea x.events.length x.ec] 26 (0, 0)) := heap_alloc (heap_below HX.out hb (heap_lt HX.out)) _
  have hcr : (w3.alloc (.cells #[.int .i64 c.ver, .slice c.pa c.procs.length c.pc, .slice c.la c.links.length c.lc, .slice c.ea c.events.length c.ec] 26)).heap[w.heap.size + 1]? = some (.cells #[.int .i64 0, .slice none 0 0, .slice none 0 0, .slice none 0 0] 26 (0, 0)) := heap_alloc (heap_below HRs.out hb (heap_lt HRs.out)) _
  have hcb : (w3.alloc (.cells #[.int .i64 c.ver, .slice c.pa c.procs.length c.pc, .slice c.la c.links.length c.lc, .slice c.ea c.events.length c.ec] 26)).heap[w3.heap.size]? = some (.cells #[.int .i64 c.ver, .slice c.pa c.procs.length c.pc, .slice c.la c.links.length c.lc, .slice c.ea c.events.length c.ec] 26 (0, 0)) := heap_new _ rfl
  have hco := hoc.on (below_one w3 (.cells #[.int .i64 c.ver, .slice c.pa c.procs.length c.pc, .slice c.la c.links.length c.lc, .slice c.ea c.events.length c.ec] 26))
  have hcl : Below w.heap.size w (w3.alloc (.cells #[.int .i64 c.ver, .slice c.pa c.procs.length c.pc, .slice c.la c.links.length c.lc, .slice c.ea c.events.length c.ec] 26)) := (HB.out.trans (hb.mono HB.out.size)).trans ((below_one w3 _).mono (HB.out.trans (hb.mono HB.out.size)).size)
  have hBz : w2.heap.size ≤ w3.heap.size := hb.size
  have HCm := Lib.hid hc
  clear hc hoc hb HX HRs HB
  generalize w3.alloc (.cells #[.int .i64 c.ver, .slice c.pa c.procs.length c.pc, .slice c.la c.links.length c.lc, .slice c.ea c.events.length c.ec] 26) = w4 at *
  generalize w3.heap.size = B at *
  have a0 : w4.cell? ⟨w.heap.size, 0, none⟩ = some (.int .i64 x.ver) := heap_cell hcx rfl
  have k0 : w4.cell? ⟨B, 0, none⟩ = some (.int .i64 c.ver) := heap_cell hcb rfl
  have g0 := heap_frozen hcb 0
  have hv1 : 1 ≤ x.ver ∧ x.ver ≤ 3 := HRi.out.ver
  have HB0 : Hid (∀ (f : LinkM → LinkM) (g : ProcV → ProcV), Ru w w2 x c (x.ver + 1) B f g 0 0 (w4.setCell ⟨B, 0, none⟩ (.int .i64 (x.ver + 1)))) := Lib.hid (fun f g => by
    have hT := Turned.one w4 B 0 (.int .i64 (x.ver + 1))
    have ho := hco.boxT hcb rfl hT
    exact ⟨hT.old hcx (by omega), hT.old hcr (by omega), heap_set hcb 0 _, ⟨ho.procs, ho.po, ho.inner, ho.links, ho.lo, ho.events, ho.eo⟩, low_one hcl hT (by omega)⟩)
  have HX4 := Lib.hid hcx
  have HB4 := Lib.hid hcb
  clear hcx hcr hcb hco hcl
  go_upto_region 6 with fail
  clear a0 k0 g0
  generalize w4.setCell ⟨B, 0, none⟩ (.int .i64 (x.ver + 1)) = w5 at *
  have a0 : w5.cell? ⟨w.heap.size, 0, none⟩ = some (.int .i64 x.ver) := heap_cell (HB0.out (fun l => l) (fun q => q)).xbox rfl
  clear HX4 HB4
  have hnl : c.links.length ≤ 20000 := by have h1 : c.links = x.links := congrArg ModelM.links HCm.out; rw [h1]; exact HS.out.links
  have hpl : c.procs.length = x.procs.length := by have := congrArg (fun m => m.procs.length) HCm.out; simpa [ModelV.m] using this
  have hnp : x.procs.length ≤ 20000 := by have := HS.out.procs; unfold ModelV.m at this; rwa [List.length_map] at this
  have hnli : (c.links.length : Int) ≤ 20000 := by omega
  have hnpi : (x.procs.length : Int) ≤ 20000 := by omega
  have hncp : (c.procs.length : Int) ≤ 20000 := by omega
  have hnp0 : (0 : Int) ≤ (x.procs.length : Int) := Int.natCast_nonneg _
  have HPl := Lib.hid hpl
  clear hpl
  obtain ⟨vv, hvv⟩ : ∃ vv, x.ver = vv := ⟨_, rfl⟩
  have hvr : vv = 1 ∨ vv = 2 ∨ vv = 3 := by omega
  rcases hvr with rfl | rfl | rfl
  case inr.inr =>
    have hq : (x.ver == 3) = true := by simpa using hvv
    have HU2 : Hid (UpR x.m = (zeroM, 43, 0)) := Lib.hid (by rw [HUq.out]; unfold upR; rw [if_neg (show ¬ x.m.ver = 1 by show ¬ x.ver = 1; omega), if_neg (show ¬ x.m.ver = 2 by show ¬ x.ver = 2; omega)])
    have HRu := Lib.hid (HB0.out (fun l => l) (fun q => q))
    clear hvv hv1 HB0
    have f0 := heap_frozen HRu.out.res 0
    have f1 := heap_frozen HRu.out.res 1
    have f2 := heap_frozen HRu.out.res 2
    have f3 := heap_frozen HRu.out.res 3
    have d0 : w5.cell? ⟨w.heap.size + 1, 0, none⟩ = some (.int .i64 0) := heap_cell HRu.out.res rfl
    have d1 : w5.cell? ⟨w.heap.size + 1, 1, none⟩ = some (.slice none 0 0) := heap_cell HRu.out.res rfl
    have d2 : w5.cell? ⟨w.heap.size + 1, 2, none⟩ = some (.slice none 0 0) := heap_cell HRu.out.res rfl
    have d3 : w5.cell? ⟨w.heap.size + 1, 3, none⟩ = some (.slice none 0 0) := heap_cell HRu.out.res rfl
    go_wp2
    have h4 := set4 HRu.out.res (.int .i64 0) (.slice none 0 0) (.slice none 0 0) (.slice none 0 0)
    refine bodyPost_ret (up3_ret rfl h4.1 rfl rfl rfl) rfl ?_
    rw [HU2.out]
    exact ⟨noneV, rfl, rfl, own_none _ _, low_one HRu.out.low h4.2 (by omega)⟩

  case inl =>
    have hq3 : (x.ver == 3) = false := by rw [hvv]; rfl
    have HRu := Lib.hid (HB0.out delL (fun q => q))
    have HVx := Lib.hid hvv
    have hVe : x.ver + 1 = 2 := by rw [hvv]; rfl
    rw [hVe] at HRu
    obtain ⟨V, hV⟩ : ∃ V : Int, 2 = V := ⟨_, rfl⟩
    have HVv := Lib.hid hV
    rw [hV] at HRu
    clear hvv hv1 HB0 hV hVe
    go_upto_region 8 with fail
    clear hq3 a0
    have HEb : Hid (∀ (j : Nat) (l : LinkM), (∀ (i : Nat) y, i < j → c.links[i]? = some y → y.delay * 1000 ≤ 1099511627776) → c.links[j]? = some l → 1099511627776 < l.delay * 1000 → UpR x.m = (zeroM, 30, (x.procs.length : Int) + (j : Int) + 1)) := Lib.hid (fun j l h0 hl hb => by
      have h1 := delE_bad h0 hl hb
      have hlk : c.links = x.links := congrArg ModelM.links HCm.out
      rw [hlk] at h1
      rw [HUq.out]
      unfold upR
      rw [if_pos (show x.m.ver = 1 from HVx.out)]
      unfold delR
      rw [show x.m.links = x.links from rfl, h1, if_neg (show ¬ (30 : Int) = 0 by decide), show x.m.procs.length = x.procs.length by unfold ModelV.m; simp]
      simp
      omega)
    have HEo : Hid ((∀ (i : Nat) y, c.links[i]? = some y → y.delay * 1000 ≤ 1099511627776) → UpR x.m = ({ x.m with ver := 2, links := x.links.map delL }, 0, 0)) := Lib.hid (fun h0 => by
      have h1 := delE_ok h0
      have hlk : c.links = x.links := congrArg ModelM.links HCm.out
      rw [hlk] at h1
      rw [HUq.out]
      unfold upR
      rw [if_pos (show x.m.ver = 1 from HVx.out)]
      unfold delR
      rw [show x.m.links = x.links from rfl, if_pos h1])
    go_wp2_with fail
    go_loopw [8] (fun v wr => ∃ i : Nat, v = .int .i64 (i : Int) ∧ i ≤ c.links.length ∧ Hid (Ru w w2 x c V B delL (fun q => q) i 0 wr) ∧ Hid (∀ (t : Nat) y, t < i → c.links[t]? = some y → y.delay * 1000 ≤ 1099511627776)) (fun v _ => c.links.length - (intOf v).toNat)
    case atStart => exact ⟨0, rfl, Nat.zero_le _, HRu, Lib.hid (fun i y hi => absurd hi (Nat.not_lt_zero _))⟩
    case round =>
    clear HRu
    obtain ⟨i, rfl, hi, HR, HI⟩ := hrel
    have hi0 : (0 : Int) ≤ (i : Int) := Int.natCast_nonneg i
    have a0 : wr.cell? ⟨w.heap.size, 0, none⟩ = some (.int .i64 1) := by rw [← HVx.out]; exact heap_cell HR.out.xbox rfl
    by_cases hlt : i < c.links.length
    · have hii : (i : Int) < (c.links.length : Int) := by omega
      obtain ⟨l, hl⟩ : ∃ l, c.links[i]? = some l := ⟨_, List.getElem?_eq_getElem hlt⟩
      have hl2 : (upto delL i c.links)[i]? = some l := by rw [upto_get hlt]; exact hl
      obtain ⟨ha, hbase, hrow⟩ := HR.out.own.links.own.resolve_left (fun e => by dsimp only at e; rw [e] at hl2; simp at hl2)
      dsimp only at ha hbase hrow
      have hll := HR.out.own.links.fits l (List.mem_of_getElem? hl2)
      have c2 : wr.cell? ⟨B, 2, none⟩ = some (.slice (some ⟨c.lb, 0, none⟩) c.links.length c.lc) := by rw [← ha]; exact heap_cell HR.out.box rfl
      have HL := Lib.hid hl
      have r3 : wr.cell? ⟨c.lb, i * 5 + 3, none⟩ = some (.int .i64 l.delay) := hrow.cell hl2 (r := 3) rfl
      have hdl : 1 ≤ l.delay ∧ l.delay ≤ 1099511627776 := ln_delays HRi.out l (by have hlk : c.links = x.links := congrArg ModelM.links HCm.out; show l ∈ x.links; rw [← hlk]; exact List.mem_of_getElem? hl)
      by_cases hd : 1099511627 < l.delay
      · have hdb : decide ((1099511627 : Int) < l.delay) = true := decide_eq_true hd
        have HU2 := Lib.hid (HEb.out i l HI.out hl (by omega))
        have hw1 : IntKind.i64.wrap ((x.procs.length : Int) + (i : Int)) = (x.procs.length : Int) + (i : Int) := by rw [IntKind.wrap_i64]; omega
        have hw2 : IntKind.i64.wrap ((x.procs.length : Int) + (i : Int) + 1) = (x.procs.length : Int) + (i : Int) + 1 := by rw [IntKind.wrap_i64]; omega
        have e1 : wr.cell? ⟨w.heap.size, 1, none⟩ = some (.slice x.pa x.procs.length x.pc) := heap_cell HR.out.xbox rfl
        have hres : wr.heap[w.heap.size + 1]? = some (.cells #[.int .i64 0, .slice none 0 0, .slice none 0 0, .slice none 0 0] 26 (0, 0)) := HR.out.res
        have hlow : Below w.heap.size w wr := HR.out.low
        have HRes := Lib.hid hres
        have HLow := Lib.hid hlow
        have f0 := heap_frozen hres 0
        have f1 := heap_frozen hres 1
        have f2 := heap_frozen hres 2
        have f3 := heap_frozen hres 3
        have d0 : wr.cell? ⟨w.heap.size + 1, 0, none⟩ = some (.int .i64 0) := heap_cell hres rfl
        have d1 : wr.cell? ⟨w.heap.size + 1, 1, none⟩ = some (.slice none 0 0) := heap_cell hres rfl
        have d2 : wr.cell? ⟨w.heap.size + 1, 2, none⟩ = some (.slice none 0 0) := heap_cell hres rfl
        have d3 : wr.cell? ⟨w.heap.size + 1, 3, none⟩ = some (.slice none 0 0) := heap_cell hres rfl
        clear hl hl2 ha hbase hrow hll hdl hd hres hlow
        go_upto_region 13 with fail
        clear c2 r3 a0
        go_region
        all_goals
        go_wp2
        have h4 := set4 HRes.out (.int .i64 0) (.slice none 0 0) (.slice none 0 0) (.slice none 0 0)
        refine bodyPost_ret (up3_ret rfl (show (World.drew _).heap[_]? = _ from h4.1) rfl rfl rfl) rfl ?_
        rw [HU2.out]
        exact ⟨noneV, rfl, rfl, own_none _ _, (low_one HLow.out h4.2 (by omega)).drew⟩
        done
      · have hdb : decide ((1099511627 : Int) < l.delay) = false := decide_eq_false hd
        have hwr : IntKind.i64.wrap (1000 * l.delay) = l.delay * 1000 := by rw [IntKind.wrap_i64]; omega
        have c2d : wr.drew.cell? ⟨B, 2, none⟩ = some (.slice (some ⟨c.lb, 0, none⟩) c.links.length c.lc) := c2
        have r3d : wr.drew.cell? ⟨c.lb, i * 5 + 3, none⟩ = some (.int .i64 l.delay) := r3
        have fzd : wr.drew.frozen? ⟨c.lb, i * 5 + 3, none⟩ = false := hrow.frozen _
        have HNx : Hid (Ru w w2 x c V B delL (fun q => q) (i + 1) 0 (wr.setCell ⟨c.lb, i * 5 + 3, none⟩ (.int .i64 (l.delay * 1000)))) := Lib.hid (HR.out.setL hz2 hl (q := 3) (by decide) (encL_del l _) hll)
        have HI2 : Hid (∀ (k : Nat) y, k < i + 1 → c.links[k]? = some y → y.delay * 1000 ≤ 1099511627776) := Lib.hid (fun k y hk hy => by
          by_cases e : k = i
          · subst e
            rw [HL.out] at hy
            cases hy
            omega
          · exact HI.out k y (by omega) hy)
        clear hl hl2 ha hbase hrow hll hdl HR HI
        go_upto_region 14 with fail
        clear c2 r3
        go_still_tail 12, (by kernel_rfl)
        change wpList _ _ _ _ _ wr.drew
        go_wp2
        go_roundw
        case rel => exact ⟨i + 1, by go_num, by omega, Lib.hid (HNx.out.on ((Below.refl _ _).drew)), HI2⟩
        case measure => simp [intOf]; omega
    · obtain rfl : i = c.links.length := by omega
      have HU2 := Lib.hid (HEo.out (fun i y hy => HI.out i y (List.getElem?_eq_some_iff.1 hy).1 hy))
      have c2 : wr.cell? ⟨B, 2, none⟩ = some (.slice c.la c.links.length c.lc) := heap_cell HR.out.box rfl
      clear HEo HEb HI
      go_wp2_with fail
      clear c2 a0
      go_loopw [9] (fun v wr => ∃ j : Nat, v = .int .i64 (j : Int) ∧ j ≤ c.procs.length ∧ Hid (Ru w w2 x c V B delL (fun q => q) c.links.length j wr)) (fun v _ => c.procs.length - (intOf v).toNat)
      case atStart => exact ⟨0, rfl, Nat.zero_le _, HR⟩
      case round =>
      clear HR
      obtain ⟨j, rfl, hj, HR⟩ := hrel
      have hj0 : (0 : Int) ≤ (j : Int) := Int.natCast_nonneg j
      have a0 : wr.cell? ⟨w.heap.size, 0, none⟩ = some (.int .i64 1) := by rw [← HVx.out]; exact heap_cell HR.out.xbox rfl
      have c1 : wr.cell? ⟨B, 1, none⟩ = some (.slice c.pa c.procs.length c.pc) := heap_cell HR.out.box rfl
      by_cases hlt2 : j < c.procs.length
      · have hji : (j : Int) < (c.procs.length : Int) := by omega
        go_wp2
        go_roundw
        case rel => exact ⟨j + 1, by go_num, by omega, Lib.hid HR.out.idP⟩
        case measure => simp [intOf]; omega
      · obtain rfl : j = c.procs.length := by omega
        clear c1 a0
        have c1 : wr.cell? ⟨B, 1, none⟩ = some (.slice c.pa c.procs.length c.pc) := heap_cell HR.out.box rfl
        have f0 := heap_frozen HR.out.res 0
        have f1 := heap_frozen HR.out.res 1
        have f2 := heap_frozen HR.out.res 2
        have f3 := heap_frozen HR.out.res 3
        have d0 : wr.cell? ⟨w.heap.size + 1, 0, none⟩ = some (.int .i64 0) := heap_cell HR.out.res rfl
        have d1 : wr.cell? ⟨w.heap.size + 1, 1, none⟩ = some (.slice none 0 0) := heap_cell HR.out.res rfl
        have d2 : wr.cell? ⟨w.heap.size + 1, 2, none⟩ = some (.slice none 0 0) := heap_cell HR.out.res rfl
        have d3 : wr.cell? ⟨w.heap.size + 1, 3, none⟩ = some (.slice none 0 0) := heap_cell HR.out.res rfl
        have k0 : wr.cell? ⟨B, 0, none⟩ = some (.int .i64 V) := heap_cell HR.out.box rfl
        have k1 : wr.cell? ⟨B, 1, none⟩ = some (.slice c.pa c.procs.length c.pc) := heap_cell HR.out.box rfl
        have k2 : wr.cell? ⟨B, 2, none⟩ = some (.slice c.la c.links.length c.lc) := heap_cell HR.out.box rfl
        have k3 : wr.cell? ⟨B, 3, none⟩ = some (.slice c.ea c.events.length c.ec) := heap_cell HR.out.box rfl
        go_wp2
        have h4 := set4 HR.out.res (.int .i64 V) (.slice c.pa c.procs.length c.pc) (.slice c.la c.links.length c.lc) (.slice c.ea c.events.length c.ec)
        have hlow := low_one HR.out.low h4.2 (by omega)
        have hown := (HR.out.own.boxT HR.out.res rfl h4.2).mono (show w.heap.size ≤ w2.heap.size by omega)
        refine bodyPost_ret (up3_ret rfl h4.1 rfl rfl rfl) rfl ?_
        refine ⟨{ c with ver := V, procs := upto (fun q => q) c.procs.length c.procs, links := upto delL c.links.length c.links }, ?_, ?_, hown, hlow⟩
        · dsimp only
          rw [HU2.out, upto_length (Nat.le_refl _), upto_length (Nat.le_refl _)]
          rfl
        · rw [HU2.out, ← HVv.out]
          unfold ModelV.m
          dsimp only
          have := HCm.out
          unfold ModelV.m at this
          injection this with _ h2 h3 h4
          rw [upto_id, upto_all, h2, h3, h4]

  case inr.inl =>
    have hq3 : (x.ver == 3) = false := by rw [hvv]; rfl
    have HRu := Lib.hid (HB0.out wghL wghV)
    have HVx := Lib.hid hvv
    have hVe : x.ver + 1 = 3 := by rw [hvv]; rfl
    rw [hVe] at HRu
    obtain ⟨V, hV⟩ : ∃ V : Int, 3 = V := ⟨_, rfl⟩
    have HVv := Lib.hid hV
    rw [hV] at HRu
    clear hvv hv1 HB0 hV hVe
    go_upto_region 8 with fail
    clear hq3 a0
    have HU2 : Hid (UpR x.m = (wghM x.m, 0, 0)) := Lib.hid (by rw [HUq.out]; unfold upR; rw [if_neg (show ¬ x.m.ver = 1 by show ¬ x.ver = 1; have := HVx.out; omega), if_pos (show x.m.ver = 2 from HVx.out)])
    go_wp2_with fail
    go_loopw [8] (fun v wr => ∃ i : Nat, v = .int .i64 (i : Int) ∧ i ≤ c.links.length ∧ Hid (Ru w w2 x c V B wghL wghV i 0 wr) ∧ Hid True) (fun v _ => c.links.length - (intOf v).toNat)
    case atStart => exact ⟨0, rfl, Nat.zero_le _, HRu, Lib.hid trivial⟩
    case round =>
    clear HRu
    obtain ⟨i, rfl, hi, HR, HI⟩ := hrel
    have hi0 : (0 : Int) ≤ (i : Int) := Int.natCast_nonneg i
    have a0 : wr.cell? ⟨w.heap.size, 0, none⟩ = some (.int .i64 2) := by rw [← HVx.out]; exact heap_cell HR.out.xbox rfl
    by_cases hlt : i < c.links.length
    · have hii : (i : Int) < (c.links.length : Int) := by omega
      obtain ⟨l, hl⟩ : ∃ l, c.links[i]? = some l := ⟨_, List.getElem?_eq_getElem hlt⟩
      have hl2 : (upto wghL i c.links)[i]? = some l := by rw [upto_get hlt]; exact hl
      obtain ⟨ha, hbase, hrow⟩ := HR.out.own.links.own.resolve_left (fun e => by dsimp only at e; rw [e] at hl2; simp at hl2)
      dsimp only at ha hbase hrow
      have hll := HR.out.own.links.fits l (List.mem_of_getElem? hl2)
      have c2 : wr.cell? ⟨B, 2, none⟩ = some (.slice (some ⟨c.lb, 0, none⟩) c.links.length c.lc) := by rw [← ha]; exact heap_cell HR.out.box rfl
      have HL := Lib.hid hl
      clear hl2 ha hbase hrow hll
      go_upto_region 15 with fail
      clear c2
      refine wp_region_still_tail 12 (by kernel_rfl) (by kernel_rfl) ?_
      simp only [List.take_succ_cons, List.take_zero, List.drop_succ_cons, List.drop_zero]
      obtain ⟨U, hU⟩ : ∃ U, wr.drew = U := ⟨_, rfl⟩
      have HRd : Ru w w2 x c V B wghL wghV i 0 U := by rw [← hU]; exact HR.out.on ((Below.refl _ _).drew)
      change wpStill _ _ wr.drew (fun a' => wpList _ _ _ _ a' wr.drew) _ _
      rw [hU]
      have hl2 : (upto wghL i c.links)[i]? = some l := by rw [upto_get hlt]; exact hl
      obtain ⟨ha, hbase, hrow⟩ := HRd.own.links.own.resolve_left (fun e => by dsimp only at e; rw [e] at hl2; simp at hl2)
      dsimp only at ha hbase hrow
      have hll := HRd.own.links.fits l (List.mem_of_getElem? hl2)
      have c2 : U.cell? ⟨B, 2, none⟩ = some (.slice (some ⟨c.lb, 0, none⟩) c.links.length c.lc) := by rw [← ha]; exact heap_cell HRd.box rfl
      have r4 : U.cell? ⟨c.lb, i * 5 + 4, none⟩ = some (.int .i64 l.weight) := hrow.cell hl2 (r := 4) rfl
      have fz : U.frozen? ⟨c.lb, i * 5 + 4, none⟩ = false := hrow.frozen _
      have HNx : Hid (Ru w w2 x c V B wghL wghV (i + 1) 0 (U.setCell ⟨c.lb, i * 5 + 4, none⟩ (.int .i64 (orW l.weight)))) := Lib.hid (HRd.setL hz2 hl (q := 4) (by decide) (encL_wgh l _) hll)
      have HOn : Hid (Calls Try.prog 54 #[.int .i64 l.weight] U fun e w' => e = .returned (.int .i64 (orW l.weight)) ∧ w' = U) := Lib.hid ((one_any l.weight U).mono (fun e w' h => ⟨h.1, h.2.symm⟩))
      generalize orW l.weight = D at *
      clear hl hl2 ha hbase hrow hll HR HI HRd hU a0
      repeat still_step
      still_call HOn.out
      repeat still_step
      refine wpStill_nil ?_
      go_wp2
      go_roundw
      case rel => exact ⟨i + 1, by go_num, by omega, HNx, Lib.hid trivial⟩
      case measure => simp [intOf]; omega
    · obtain rfl : i = c.links.length := by omega
      have c2 : wr.cell? ⟨B, 2, none⟩ = some (.slice c.la c.links.length c.lc) := heap_cell HR.out.box rfl
      clear HI
      go_wp2_with fail
      clear c2 a0
      go_loopw [9] (fun v wr => ∃ j : Nat, v = .int .i64 (j : Int) ∧ j ≤ c.procs.length ∧ Hid (Ru w w2 x c V B wghL wghV c.links.length j wr)) (fun v _ => c.procs.length - (intOf v).toNat)
      case atStart => exact ⟨0, rfl, Nat.zero_le _, HR⟩
      case round =>
      clear HR
      obtain ⟨j, rfl, hj, HR⟩ := hrel
      have hj0 : (0 : Int) ≤ (j : Int) := Int.natCast_nonneg j
      have a0 : wr.cell? ⟨w.heap.size, 0, none⟩ = some (.int .i64 2) := by rw [← HVx.out]; exact heap_cell HR.out.xbox rfl
      have c1 : wr.cell? ⟨B, 1, none⟩ = some (.slice c.pa c.procs.length c.pc) := heap_cell HR.out.box rfl
      by_cases hlt2 : j < c.procs.length
      · have hji : (j : Int) < (c.procs.length : Int) := by omega
        obtain ⟨q, hl⟩ : ∃ q, c.procs[j]? = some q := ⟨_, List.getElem?_eq_getElem hlt2⟩
        go_upto_region 20 with fail
        clear c1
        refine wp_region_still_tail 12 (by kernel_rfl) (by kernel_rfl) ?_
        simp only [List.take_succ_cons, List.take_zero, List.drop_succ_cons, List.drop_zero]
        obtain ⟨U, hU⟩ : ∃ U, wr.drew = U := ⟨_, rfl⟩
        have HRd : Ru w w2 x c V B wghL wghV c.links.length j U := by rw [← hU]; exact HR.out.on ((Below.refl _ _).drew)
        change wpStill _ _ wr.drew (fun a' => wpList _ _ _ _ a' wr.drew) _ _
        rw [hU]
        have hl2 : (upto wghV j c.procs)[j]? = some q := by rw [upto_get hlt2]; exact hl
        obtain ⟨ha, hbase, hrow⟩ := HRd.own.procs.own.resolve_left (fun e => by dsimp only at e; rw [e] at hl2; simp at hl2)
        dsimp only at ha hbase hrow
        have c1 : U.cell? ⟨B, 1, none⟩ = some (.slice (some ⟨c.pb, 0, none⟩) c.procs.length c.pc) := by rw [← ha]; exact heap_cell HRd.box rfl
        have r1 : U.cell? ⟨c.pb, j * 4 + 1, none⟩ = some (.int .i64 q.p.weight) := hrow.cell hl2 (r := 1) rfl
        have fz : U.frozen? ⟨c.pb, j * 4 + 1, none⟩ = false := hrow.frozen _
        obtain ⟨D, hD⟩ : ∃ D, orW q.p.weight = D := ⟨_, rfl⟩
        have HNx : Hid (Ru w w2 x c V B wghL wghV c.links.length (j + 1) (U.setCell ⟨c.pb, j * 4 + 1, none⟩ (.int .i64 D))) := Lib.hid (HRd.setP hz2 hl hD)
        have HOn : Hid (Calls Try.prog 54 #[.int .i64 q.p.weight] U fun e w' => e = .returned (.int .i64 D) ∧ w' = U) := Lib.hid ((one_any q.p.weight U).mono (fun e w' h => ⟨by rw [← hD]; exact h.1, h.2.symm⟩))
        clear hl hl2 ha hbase hrow HR HRd hU a0 hD
        repeat still_step
        still_call HOn.out
        repeat still_step
        refine wpStill_nil ?_
        go_wp2
        go_roundw
        case rel => exact ⟨j + 1, by go_num, by omega, HNx⟩
        case measure => simp [intOf]; omega
      · obtain rfl : j = c.procs.length := by omega
        clear a0
        have f0 := heap_frozen HR.out.res 0
        have f1 := heap_frozen HR.out.res 1
        have f2 := heap_frozen HR.out.res 2
        have f3 := heap_frozen HR.out.res 3
        have d0 : wr.cell? ⟨w.heap.size + 1, 0, none⟩ = some (.int .i64 0) := heap_cell HR.out.res rfl
        have d1 : wr.cell? ⟨w.heap.size + 1, 1, none⟩ = some (.slice none 0 0) := heap_cell HR.out.res rfl
        have d2 : wr.cell? ⟨w.heap.size + 1, 2, none⟩ = some (.slice none 0 0) := heap_cell HR.out.res rfl
        have d3 : wr.cell? ⟨w.heap.size + 1, 3, none⟩ = some (.slice none 0 0) := heap_cell HR.out.res rfl
        have k0 : wr.cell? ⟨B, 0, none⟩ = some (.int .i64 V) := heap_cell HR.out.box rfl
        have k1 : wr.cell? ⟨B, 1, none⟩ = some (.slice c.pa c.procs.length c.pc) := heap_cell HR.out.box rfl
        have k2 : wr.cell? ⟨B, 2, none⟩ = some (.slice c.la c.links.length c.lc) := heap_cell HR.out.box rfl
        have k3 : wr.cell? ⟨B, 3, none⟩ = some (.slice c.ea c.events.length c.ec) := heap_cell HR.out.box rfl
        go_wp2
        have h4 := set4 HR.out.res (.int .i64 V) (.slice c.pa c.procs.length c.pc) (.slice c.la c.links.length c.lc) (.slice c.ea c.events.length c.ec)
        have hlow := low_one HR.out.low h4.2 (by omega)
        have hown := (HR.out.own.boxT HR.out.res rfl h4.2).mono (show w.heap.size ≤ w2.heap.size by omega)
        refine bodyPost_ret (up3_ret rfl h4.1 rfl rfl rfl) rfl ?_
        refine ⟨{ c with ver := V, procs := upto wghV c.procs.length c.procs, links := upto wghL c.links.length c.links }, ?_, ?_, hown, hlow⟩
        · dsimp only
          rw [HU2.out, upto_length (Nat.le_refl _), upto_length (Nat.le_refl _)]
          rfl
        · rw [HU2.out, ← HVv.out]
          unfold ModelV.m
          dsimp only
          rw [upto_all, upto_all, List.map_map]
          have := HCm.out
          unfold ModelV.m at this
          injection this with _ h2 h3 h4
          unfold wghM
          rw [← h2, h3, h4, List.map_map]
          rfl

end Go.Proofs.Ytgnlehenbdcgmaa.Md

namespace Go.Proofs.Ytgnlehenbdcgmaa.Md
open Go.RowKit Go.Shelf

theorem lat_ind {m : ModelM} (h : Right m) {n : Nat} (hn : 3 ≤ m.ver + n) (z : ModelM) : latR (upsD n m (0, 0)) z = latR (upsD 3 m (0, 0)) zeroM := by
  have hv := h.ver
  by_cases h3 : m.ver = 3
  · rw [lat_3 h h3, lat_3 h h3]
  · by_cases h2 : m.ver = 2
    · obtain ⟨k, rfl⟩ : ∃ k, n = k + 1 := ⟨n - 1, by omega⟩
      rw [(lat_2 h h2 k z).1, (lat_2 h h2 2 zeroM).1]
    · have h1 : m.ver = 1 := by omega
      obtain ⟨k, rfl⟩ : ∃ k, n = k + 1 + 1 := ⟨n - 2, by omega⟩
      have e : upR m = delR m := by unfold upR; rw [if_pos h1]
      show latR (upsD (k + 1 + 1) m (0, 0)) z = latR (upsD (2 + 1) m (0, 0)) zeroM
      rw [upsD_go (n := k + 1) (m := m) (f := (0, 0)) ⟨rfl, by omega⟩, upsD_go (n := 2) (m := m) (f := (0, 0)) ⟨rfl, by omega⟩, e]
      by_cases h0 : (delE m.links).1 = 0
      · have hr := right_del h h1 h0
        have e2 : delR m = ({ m with ver := 2, links := m.links.map delL }, 0, 0) := by unfold delR; rw [if_pos h0]
        rw [e2]
        show latR (upsD (k + 1) _ (0, 0)) m = latR (upsD (1 + 1) _ (0, 0)) m
        rw [(lat_2 hr rfl k m).1, (lat_2 hr rfl 1 m).1]
      · have e2 : delR m = (zeroM, 30, ((m.procs.length + (delE m.links).2 : Nat) : Int)) := by unfold delR; rw [if_neg h0]
        rw [e2]
        show latR (upsD (k + 1) zeroM (30, _)) m = latR (upsD 2 zeroM (30, _)) m
        rw [upsD_stop (fun e => by have := e.1; simp at this), upsD_stop (fun e => by have := e.1; simp at this)]
theorem up_bad {m : ModelM} (h : (upR m).2.1 ≠ 0) : upR m = (zeroM, (upR m).2) := by
  unfold upR at h ⊢
  split
  · rename_i h1
    rw [if_pos h1] at h
    unfold delR at h ⊢
    split
    · rename_i h2
      rw [if_pos h2] at h
      exact absurd rfl h
    · rfl
  · rename_i h1
    rw [if_neg h1] at h
    split
    · rename_i h2
      rw [if_pos h2] at h
      exact absurd rfl h
    · rfl
theorem lat_step {m : ModelM} (h : Right m) (hv : m.ver < 3) : ((upR m).2.1 = 0 → LatR m = LatR (upR m).1) ∧ ((upR m).2.1 ≠ 0 → LatR m = (zeroM, (upR m).2)) := by
  have e : LatR m = latR (upsD 2 (upR m).1 (upR m).2) m := by
    unfold LatR
    rw [right_zero h, upsD_go ⟨rfl, hv⟩]
    rfl
  rw [e]
  refine ⟨fun h0 => ?_, fun h0 => ?_⟩
  · obtain ⟨h1, h2, h3⟩ := right_up h h0
    have := h.ver
    rw [h3, lat_ind h1 (by omega)]
    unfold LatR
    rw [right_zero h1]
  · rw [upsD_stop (fun e => h0 e.1)]
    obtain ⟨a, b⟩ : ∃ a, (upR m).2 = a := ⟨_, rfl⟩
    rw [b] at h0 ⊢
    obtain ⟨a1, a2⟩ := a
    simp only [latR]
    rw [if_neg h0]
/-- A model in a box, and where its lists lie. -/
structure Nw (w0 : World) (B : Nat) (y : ModelV) (W : World) : Prop where
  box : W.heap[B]? = some (.cells #[.int .i64 y.ver, .slice y.pa y.procs.length y.pc, .slice y.la y.links.length y.lc, .slice y.ea y.events.length y.ec] 26 (0, 0))
  own : ModelAt w0.heap.size w0 y ∨ OwnM w0.heap.size W y
  low : Below w0.heap.size w0 W
theorem Nw.on {w0 : World} {B : Nat} {y : ModelV} {W W' : World} (h : Nw w0 B y W) (hb : Below W.heap.size W W') : Nw w0 B y W' :=
  ⟨heap_below h.box hb (heap_lt h.box), h.own.imp id (fun o => o.on hb), h.low.trans (hb.mono h.low.size)⟩
theorem Nw.at_ {w0 : World} {B : Nat} {y : ModelV} {W : World} (h : Nw w0 B y W) : ModelAt W.heap.size W y := h.own.elim (fun o => o.on h.low) (fun o => o.at_)
/-- The box takes another one. -/
theorem Nw.next {w0 : World} {B : Nat} {y z : ModelV} {W W' W2 : World} (h : Nw w0 B y W) (hb : Below W.heap.size W W') (ho : OwnM W.heap.size W' z) (hT : Turned (fun k => k = B) W' W2) (hB : w0.heap.size ≤ B) (hx : W2.heap[B]? = some (.cells #[.int .i64 z.ver, .slice z.pa z.procs.length z.pc, .slice z.la z.links.length z.lc, .slice z.ea z.events.length z.ec] 26 (0, 0))) : Nw w0 B z W2 :=
  ⟨hx, .inr ((ho.boxT (heap_below h.box hb (heap_lt h.box)) rfl hT).mono h.low.size), (h.low.trans (hb.mono h.low.size)).trans (Turned.to_b hT (fun k hk e => by omega) (h.low.trans (hb.mono h.low.size)).size)⟩
def La3Q (w : World) (r : ModelM × Int × Int) (e : Ending) (w' : World) : Prop := ∃ x : ModelV, e = .returned (.tuple #[.agg #[.int .i64 x.ver, .slice x.pa x.procs.length x.pc, .slice x.la x.links.length x.lc, .slice x.ea x.events.length x.ec], .int .i64 r.2.1, .int .i64 r.2.2]) ∧ x.m = r.1 ∧ ModelAt w'.heap.size w' x ∧ Below w.heap.size w w'
set_option maxRecDepth 100000 in
set_option maxHeartbeats 8000000 in
theorem rlatest_any {w : World} {x : ModelV} (h : ModelAt w.heap.size w x) (hs : Sized x.m) : Calls Try.prog 28 #[.agg #[.int .i64 x.ver, .slice x.pa x.procs.length x.pc, .slice x.la x.links.length x.lc, .slice x.ea x.events.length x.ec]] w (La3Q w (LatR x.m)) := by
  have HM := Lib.hid h
  have HS := Lib.hid hs
  have hx1 := heap_alloc (heap_new (w := w) (.cells #[.int .i64 x.ver, .slice x.pa x.procs.length x.pc, .slice x.la x.links.length x.lc, .slice x.ea x.events.length x.ec] 26) rfl) (.cells #[.int .i64 0, .slice none 0 0, .slice none 0 0, .slice none 0 0] 26)
  have hr1 := heap_new (w := w.alloc (.cells #[.int .i64 x.ver, .slice x.pa x.procs.length x.pc, .slice x.la x.links.length x.lc, .slice x.ea x.events.length x.ec] 26)) (.cells #[.int .i64 0, .slice none 0 0, .slice none 0 0, .slice none 0 0] 26) rfl
  have hb1 := (below_one w (.cells #[.int .i64 x.ver, .slice x.pa x.procs.length x.pc, .slice x.la x.links.length x.lc, .slice x.ea x.events.length x.ec] 26)).alloc (by simp) (.cells #[.int .i64 0, .slice none 0 0, .slice none 0 0, .slice none 0 0] 26)
  rw [World.size_alloc] at hr1
  have HX := Lib.hid hx1
  have HRs := Lib.hid hr1
  have HB := Lib.hid hb1
  clear h hs hx1 hr1 hb1
  go_enter Try.func28, Try.ntmps28
  go_upto_region 1 with fail
  generalize (w.alloc (.cells #[.int .i64 x.ver, .slice x.pa x.procs.length x.pc, .slice x.la x.links.length x.lc, .slice x.ea x.events.length x.ec] 26)).alloc (.cells #[.int .i64 0, .slice none 0 0, .slice none 0 0, .slice none 0 0] 26) = w1 at *
  have a0 : w1.cell? ⟨w.heap.size, 0, none⟩ = some (.int .i64 x.ver) := heap_cell HX.out rfl
  have a1 : w1.cell? ⟨w.heap.size, 1, none⟩ = some (.slice x.pa x.procs.length x.pc) := heap_cell HX.out rfl
  have a2 : w1.cell? ⟨w.heap.size, 2, none⟩ = some (.slice x.la x.links.length x.lc) := heap_cell HX.out rfl
  have a3 : w1.cell? ⟨w.heap.size, 3, none⟩ = some (.slice x.ea x.events.length x.ec) := heap_cell HX.out rfl
  go_wp2_with fail
  clear a0 a1 a2 a3
  refine (rcheck_any (HM.out.on HB.out)).mono ?_
  rintro e w2 ⟨rfl, hb⟩
  replace HX := Lib.hid (heap_below HX.out hb (heap_lt HX.out))
  replace HRs := Lib.hid (heap_below HRs.out hb (heap_lt HRs.out))
  replace HB := Lib.hid (HB.out.trans (hb.mono HB.out.size))
  clear hb
  obtain ⟨e1, he1⟩ : ∃ e1, (mdE x.m).1 = e1 := ⟨_, rfl⟩
  obtain ⟨e2, he2⟩ : ∃ e2, (mdE x.m).2 = e2 := ⟨_, rfl⟩
  rw [he1, he2]
  have f0 := heap_frozen HRs.out 0
  have f1 := heap_frozen HRs.out 1
  have f2 := heap_frozen HRs.out 2
  have f3 := heap_frozen HRs.out 3
  have d0 : w2.cell? ⟨w.heap.size + 1, 0, none⟩ = some (.int .i64 0) := heap_cell HRs.out rfl
  have d1 : w2.cell? ⟨w.heap.size + 1, 1, none⟩ = some (.slice none 0 0) := heap_cell HRs.out rfl
  have d2 : w2.cell? ⟨w.heap.size + 1, 2, none⟩ = some (.slice none 0 0) := heap_cell HRs.out rfl
  have d3 : w2.cell? ⟨w.heap.size + 1, 3, none⟩ = some (.slice none 0 0) := heap_cell HRs.out rfl
  by_cases h0 : e1 = 0
  case neg =>
    have h0b : (e1 != 0) = true := by simpa using h0
    have HUq : Hid (LatR x.m = (zeroM, e1, e2)) := Lib.hid (by rw [lat_wrong (by rw [he1]; exact h0), ← he1, ← he2])
    clear he1 he2 h0
    go_wp2
    have h4 := set4 HRs.out (.int .i64 0) (.slice none 0 0) (.slice none 0 0) (.slice none 0 0)
    refine bodyPost_ret (up3_ret rfl h4.1 rfl rfl rfl) rfl ?_
    rw [HUq.out]
    exact ⟨noneV, rfl, rfl, (own_none 0 _).at_, low_one HB.out h4.2 (by omega)⟩
  subst h0
  have HN : Hid (Nw w w.heap.size x w2) := Lib.hid ⟨HX.out, .inl HM.out, HB.out⟩
  have hr := right_of he1
  have HRi := Lib.hid hr
  clear he1 he2 hr f0 f1 f2 f3 d0 d1 d2 d3 HX HB
  go_upto_region 4 with fail
  go_loopw [8] (fun _ wr => ∃ y : ModelV, Hid (Nw w w.heap.size y wr) ∧ Hid (wr.heap[w.heap.size + 1]? = some (.cells #[.int .i64 0, .slice none 0 0, .slice none 0 0, .slice none 0 0] 26 (0, 0))) ∧ Hid (Right y.m ∧ Sized y.m ∧ LatR x.m = LatR y.m)) (fun _ wr => (3 - intOf ((wr.cell? ⟨w.heap.size, 0, none⟩).getD undef)).toNat)
  case atStart => exact ⟨x, HN, HRs, Lib.hid ⟨HRi.out, HS.out, rfl⟩⟩
  case round =>
  clear HN HRs HRi
  obtain ⟨y, HN, HRs, HY⟩ := hrel
  have a0 : wr.cell? ⟨w.heap.size, 0, none⟩ = some (.int .i64 y.ver) := heap_cell HN.out.box rfl
  have hyv := HY.out.1.ver
  have hyv2 : 1 ≤ y.ver ∧ y.ver ≤ 3 := hyv
  clear hyv
  by_cases hv : y.ver < 3
  · have hvb : decide (y.ver < 3) = true := decide_eq_true hv
    have HMs : Hid (∀ v : Int, y.ver = v → ((wr.cell? ⟨w.heap.size, 0, none⟩).getD undef) = .int .i64 v) := Lib.hid (fun v e => by rw [a0, ← e]; rfl)
    have a1 : wr.cell? ⟨w.heap.size, 1, none⟩ = some (.slice y.pa y.procs.length y.pc) := heap_cell HN.out.box rfl
    have a2 : wr.cell? ⟨w.heap.size, 2, none⟩ = some (.slice y.la y.links.length y.lc) := heap_cell HN.out.box rfl
    have a3 : wr.cell? ⟨w.heap.size, 3, none⟩ = some (.slice y.ea y.events.length y.ec) := heap_cell HN.out.box rfl
    go_wp2_with fail
    clear a1 a2 a3
    have hU : UpR y.m = upR y.m := by unfold UpR; rw [right_zero HY.out.1]; rfl
    have hC := rup_any HN.out.at_ HY.out.2.1
    rw [hU] at hC
    refine hC.mono ?_
    clear hC hU
    obtain ⟨hs1, hs2⟩ := lat_step HY.out.1 (show y.m.ver < 3 from hv)
    have hbad := up_bad (m := y.m)
    have hgood := right_up HY.out.1
    have hsz := sized_up HY.out.2.1
    obtain ⟨L, hL⟩ : ∃ L, upR y.m = L := ⟨_, rfl⟩
    rw [hL] at hs1 hs2 hbad hgood hsz ⊢
    clear hL
    obtain ⟨l0, f1, f2⟩ := L
    rintro e w3 ⟨z, rfl, hz, hoz, hb⟩
    dsimp only at hz hs1 hs2 hbad hgood hsz ⊢
    by_cases hf : f1 = 0
    · subst hf
      obtain ⟨hg1, hg2, hg3⟩ := hgood rfl
      have HQ : Hid (Right z.m ∧ Sized z.m ∧ LatR x.m = LatR z.m) := Lib.hid ⟨by rw [hz]; exact hg1, by rw [hz]; exact hsz, by rw [HY.out.2.2, hs1 rfl, hz]⟩
      have hzv : z.ver = y.ver + 1 := by have : z.m.ver = z.ver := rfl; rw [← this, hz, hg2]; rfl
      have HZv := Lib.hid hzv
      have HZo := Lib.hid hoz
      have HBw := Lib.hid hb
      clear hz hoz hb hs1 hs2 hbad hgood hsz hg1 hg2 hg3 hzv
      go_upto_region 8 with fail
      have hbx : Below wr.heap.size wr (w3.alloc (.cells #[.int .i64 z.ver, .slice z.pa z.procs.length z.pc, .slice z.la z.links.length z.lc, .slice z.ea z.events.length z.ec] 26)) := HBw.out.trans ((below_one w3 _).mono HBw.out.size)
      have hNx := HN.out.on hbx
      have hzb : (w3.alloc (.cells #[.int .i64 z.ver, .slice z.pa z.procs.length z.pc, .slice z.la z.links.length z.lc, .slice z.ea z.events.length z.ec] 26)).heap[w3.heap.size]? = some (.cells #[.int .i64 z.ver, .slice z.pa z.procs.length z.pc, .slice z.la z.links.length z.lc, .slice z.ea z.events.length z.ec] 26 (0, 0)) := heap_new _ rfl
      have hzo := HZo.out.on (below_one w3 (.cells #[.int .i64 z.ver, .slice z.pa z.procs.length z.pc, .slice z.la z.links.length z.lc, .slice z.ea z.events.length z.ec] 26))
      have hrs := heap_below HRs.out hbx (heap_lt HRs.out)
      have hw3 := HBw.out.size
      clear HBw HZo
      generalize w3.alloc (.cells #[.int .i64 z.ver, .slice z.pa z.procs.length z.pc, .slice z.la z.links.length z.lc, .slice z.ea z.events.length z.ec] 26) = w4 at *
      generalize w3.heap.size = B7 at *
      have hlw : w.heap.size < wr.heap.size := heap_lt HN.out.box
      have b0 : w4.cell? ⟨B7, 0, none⟩ = some (.int .i64 z.ver) := heap_cell hzb rfl
      have b1 : w4.cell? ⟨B7, 1, none⟩ = some (.slice z.pa z.procs.length z.pc) := heap_cell hzb rfl
      have b2 : w4.cell? ⟨B7, 2, none⟩ = some (.slice z.la z.links.length z.lc) := heap_cell hzb rfl
      have b3 : w4.cell? ⟨B7, 3, none⟩ = some (.slice z.ea z.events.length z.ec) := heap_cell hzb rfl
      have g0 : w4.cell? ⟨w.heap.size, 0, none⟩ = some (.int .i64 y.ver) := heap_cell hNx.box rfl
      have g1 : w4.cell? ⟨w.heap.size, 1, none⟩ = some (.slice y.pa y.procs.length y.pc) := heap_cell hNx.box rfl
      have g2 : w4.cell? ⟨w.heap.size, 2, none⟩ = some (.slice y.la y.links.length y.lc) := heap_cell hNx.box rfl
      have g3 : w4.cell? ⟨w.heap.size, 3, none⟩ = some (.slice y.ea y.events.length y.ec) := heap_cell hNx.box rfl
      have f0 := heap_frozen hNx.box 0
      have f1 := heap_frozen hNx.box 1
      have f2 := heap_frozen hNx.box 2
      have f3 := heap_frozen hNx.box 3
      have HS4 := Lib.hid (set4 hNx.box (.int .i64 z.ver) (.slice z.pa z.procs.length z.pc) (.slice z.la z.links.length z.lc) (.slice z.ea z.events.length z.ec))
      have HN4 : Hid (Nw w w.heap.size z ((((w4.setCell ⟨w.heap.size, 0, none⟩ (.int .i64 z.ver)).setCell ⟨w.heap.size, 1, none⟩ (.slice z.pa z.procs.length z.pc)).setCell ⟨w.heap.size, 2, none⟩ (.slice z.la z.links.length z.lc)).setCell ⟨w.heap.size, 3, none⟩ (.slice z.ea z.events.length z.ec))) := Lib.hid (HN.out.next hbx hzo HS4.out.2 (Nat.le_refl _) HS4.out.1)
      have HR4 := Lib.hid (HS4.out.2.old hrs (by omega))
      clear hbx hNx hzb hzo hrs
      go_wp2
      go_roundw
      case rel => exact ⟨z, HN4, HR4, HQ⟩
      case measure =>
        rw [HMs.out y.ver rfl, show ((((((w4.setCell ⟨w.heap.size, 0, none⟩ (.int .i64 z.ver)).setCell ⟨w.heap.size, 1, none⟩ (.slice z.pa z.procs.length z.pc)).setCell ⟨w.heap.size, 2, none⟩ (.slice z.la z.links.length z.lc)).setCell ⟨w.heap.size, 3, none⟩ (.slice z.ea z.events.length z.ec))).cell? ⟨w.heap.size, 0, none⟩) = some (.int .i64 z.ver) from heap_cell HN4.out.box rfl]
        simp [intOf]
        have := HZv.out
        omega
    · have hfb : (f1 != 0) = true := by simpa using hf
      have HQ : Hid (LatR x.m = (zeroM, f1, f2)) := Lib.hid (by rw [HY.out.2.2, hs2 hf])
      have HBw := Lib.hid hb
      clear hz hoz hb hs1 hs2 hbad hgood hsz hf
      have hrs := heap_below HRs.out HBw.out (heap_lt HRs.out)
      go_upto_region 6 with fail
      have hrs2 := heap_alloc hrs (.cells #[.int .i64 z.ver, .slice z.pa z.procs.length z.pc, .slice z.la z.links.length z.lc, .slice z.ea z.events.length z.ec] 26)
      have HRs2 := Lib.hid hrs2
      have HLw := Lib.hid ((HN.out.low.trans (HBw.out.mono HN.out.low.size)).trans ((below_one w3 (.cells #[.int .i64 z.ver, .slice z.pa z.procs.length z.pc, .slice z.la z.links.length z.lc, .slice z.ea z.events.length z.ec] 26)).mono (HN.out.low.trans (HBw.out.mono HN.out.low.size)).size))
      clear hrs HBw HN HRs
      generalize w3.alloc (.cells #[.int .i64 z.ver, .slice z.pa z.procs.length z.pc, .slice z.la z.links.length z.lc, .slice z.ea z.events.length z.ec] 26) = w4 at *
      have f0 := heap_frozen hrs2 0
      have f1 := heap_frozen hrs2 1
      have f2 := heap_frozen hrs2 2
      have f3 := heap_frozen hrs2 3
      have d0 : w4.cell? ⟨w.heap.size + 1, 0, none⟩ = some (.int .i64 0) := heap_cell hrs2 rfl
      have d1 : w4.cell? ⟨w.heap.size + 1, 1, none⟩ = some (.slice none 0 0) := heap_cell hrs2 rfl
      have d2 : w4.cell? ⟨w.heap.size + 1, 2, none⟩ = some (.slice none 0 0) := heap_cell hrs2 rfl
      have d3 : w4.cell? ⟨w.heap.size + 1, 3, none⟩ = some (.slice none 0 0) := heap_cell hrs2 rfl
      clear hrs2
      go_wp2
      have h4 := set4 HRs2.out (.int .i64 0) (.slice none 0 0) (.slice none 0 0) (.slice none 0 0)
      refine bodyPost_ret (up3_ret rfl h4.1 rfl rfl rfl) rfl ?_
      rw [HQ.out]
      exact ⟨noneV, rfl, rfl, (own_none 0 _).at_, low_one HLw.out h4.2 (by omega)⟩
  · have hvb : decide (y.ver < 3) = false := decide_eq_false hv
    have HQ : Hid (LatR x.m = (y.m, 0, 0)) := Lib.hid (by
      rw [HY.out.2.2]
      unfold LatR
      rw [right_zero HY.out.1]
      exact lat_3 HY.out.1 (show y.ver = 3 by omega) 3 zeroM)
    have a1 : wr.cell? ⟨w.heap.size, 1, none⟩ = some (.slice y.pa y.procs.length y.pc) := heap_cell HN.out.box rfl
    have a2 : wr.cell? ⟨w.heap.size, 2, none⟩ = some (.slice y.la y.links.length y.lc) := heap_cell HN.out.box rfl
    have a3 : wr.cell? ⟨w.heap.size, 3, none⟩ = some (.slice y.ea y.events.length y.ec) := heap_cell HN.out.box rfl
    have f0 := heap_frozen HRs.out 0
    have f1 := heap_frozen HRs.out 1
    have f2 := heap_frozen HRs.out 2
    have f3 := heap_frozen HRs.out 3
    have d0 : wr.cell? ⟨w.heap.size + 1, 0, none⟩ = some (.int .i64 0) := heap_cell HRs.out rfl
    have d1 : wr.cell? ⟨w.heap.size + 1, 1, none⟩ = some (.slice none 0 0) := heap_cell HRs.out rfl
    have d2 : wr.cell? ⟨w.heap.size + 1, 2, none⟩ = some (.slice none 0 0) := heap_cell HRs.out rfl
    have d3 : wr.cell? ⟨w.heap.size + 1, 3, none⟩ = some (.slice none 0 0) := heap_cell HRs.out rfl
    go_wp2
    have h4 := set4 HRs.out (.int .i64 y.ver) (.slice y.pa y.procs.length y.pc) (.slice y.la y.links.length y.lc) (.slice y.ea y.events.length y.ec)
    refine bodyPost_ret (up3_ret rfl h4.1 rfl rfl rfl) rfl ?_
    rw [HQ.out]
    have hlow := low_one HN.out.low h4.2 (by omega)
    exact ⟨y, rfl, rfl, HN.out.own.elim (fun o => o.on hlow) (fun o => (o.boxT HRs.out rfl h4.2).at_), hlow⟩
end Go.Proofs.Ytgnlehenbdcgmaa.Md

namespace Go.Proofs.Ytgnlehenbdcgmaa.Md
open Go.RowKit Go.Shelf

theorem ways_ind : ∀ (d : Nat) {m : ModelM} (h : Right m) (hd : m.ver + d = 3) {n : Nat} (hn : 3 ≤ m.ver + n), waysL (upsD n m (0, 0)) = waysL (upsD 3 m (0, 0))
  | 0, m, h, hd, n, hn => by
    rw [upsD_stop (fun e => by have := e.2; omega), upsD_stop (fun e => by have := e.2; omega)]
  | d + 1, m, h, hd, n, hn => by
    have hv := h.ver
    obtain ⟨k, rfl⟩ : ∃ k, n = k + 1 := ⟨n - 1, by omega⟩
    show waysL (upsD (k + 1) m (0, 0)) = waysL (upsD (2 + 1) m (0, 0))
    rw [upsD_go (n := k) (m := m) (f := (0, 0)) ⟨rfl, by omega⟩, upsD_go (n := 2) (m := m) (f := (0, 0)) ⟨rfl, by omega⟩]
    by_cases h0 : (upR m).2.1 = 0
    · obtain ⟨h1, h2, h3⟩ := right_up h h0
      rw [h3]
      have e1 := ways_ind d h1 (by omega) (n := k) (by omega)
      have e2 := ways_ind d h1 (by omega) (n := 2) (by omega)
      show m :: waysL _ = m :: waysL _
      rw [e1, e2]
    · rw [upsD_stop (fun e => h0 e.1), upsD_stop (fun e => h0 e.1)]
theorem ways_wrong {m : ModelM} (h : (mdE m).1 ≠ 0) : waysD m = [] := by
  unfold waysD
  rw [upsD_stop (fun e => h e.1)]
  rcases hm : mdE m with ⟨a, b⟩
  rw [hm] at h
  simp only [waysL, if_neg h]
theorem ways_cons {m : ModelM} (h : Right m) : waysD m = m :: (if (UpR m).2.1 = 0 then waysD (UpR m).1 else []) := by
  have hU : UpR m = upR m := by unfold UpR; rw [right_zero h]; rfl
  rw [hU]
  unfold waysD
  rw [right_zero h]
  have hv := h.ver
  by_cases h3 : m.ver = 3
  · have e : upR m = (zeroM, 43, 0) := by unfold upR; rw [if_neg (by omega), if_neg (by omega)]
    rw [upsD_stop (fun e => by have := e.2; omega), e, if_neg (show ¬ ((43 : Int) = 0) by decide)]
    rfl
  · show waysL (upsD (2 + 1) m (0, 0)) = _
    rw [upsD_go (n := 2) (m := m) (f := (0, 0)) ⟨rfl, by omega⟩]
    by_cases h0 : (upR m).2.1 = 0
    · obtain ⟨h1, h2, h4⟩ := right_up h h0
      rw [if_pos h0, right_zero h1, h4]
      show m :: waysL _ = m :: waysL _
      rw [ways_ind (3 - (upR m).1.ver).toNat h1 (by have := h1.ver; omega) (n := 2) (by omega)]
    · rw [if_neg h0, upsD_stop (fun e => h0 e.1)]
      obtain ⟨a, ha⟩ : ∃ a, (upR m).2 = a := ⟨_, rfl⟩
      rw [ha] at h0
      rw [ha]
      obtain ⟨a1, a2⟩ := a
      show m :: waysL [((upR m).1, a1, a2)] = [m]
      simp only [waysL, if_neg (show ¬ a1 = 0 from h0)]
theorem up_right {m : ModelM} (h : Right m) (h0 : (UpR m).2.1 = 0) : Right (UpR m).1 := by
  have hU : UpR m = upR m := by unfold UpR; rw [right_zero h]; rfl
  rw [hU] at h0 ⊢
  exact (right_up h h0).1
theorem ways_at : ∀ (k : Nat) {m : ModelM} (h : Right m) {y : ModelM}, (waysD m)[k]? = some y → ((UpR y).2.1 = 0 ↔ k + 1 < (waysD m).length) ∧ ((UpR y).2.1 = 0 → (waysD m)[k + 1]? = some (UpR y).1)
  | 0, m, h, y, hy => by
    rw [ways_cons h] at hy ⊢
    cases hy
    by_cases h0 : (UpR m).2.1 = 0
    · rw [if_pos h0, ways_cons (up_right h h0)]
      exact ⟨⟨fun _ => by simp, fun _ => h0⟩, fun _ => rfl⟩
    · rw [if_neg h0]
      exact ⟨⟨fun e => absurd e h0, fun e => by simp at e⟩, fun e => absurd e h0⟩
  | k + 1, m, h, y, hy => by
    rw [ways_cons h] at hy ⊢
    by_cases h0 : (UpR m).2.1 = 0
    · rw [if_pos h0] at hy ⊢
      have := ways_at k (up_right h h0) (y := y) (by simpa using hy)
      exact ⟨⟨fun e => by have := this.1.1 e; simp; omega, fun e => this.1.2 (by simp at e; omega)⟩, fun e => by simpa using this.2 e⟩
    · rw [if_neg h0] at hy
      simp at hy
theorem sized_UpR {m : ModelM} (h : Sized m) : Sized (UpR m).1 := by
  unfold UpR
  split
  · exact sized_up h
  · exact sized_zero
/-- A model and its box. -/
structure Mb (B : Nat) (z : ModelV) (W : World) : Prop where
  at_ : ModelAt W.heap.size W z
  box : W.heap[B]? = some (.cells #[.int .i64 z.ver, .slice z.pa z.procs.length z.pc, .slice z.la z.links.length z.lc, .slice z.ea z.events.length z.ec] 26 (0, 0))
theorem Mb.on {B : Nat} {z : ModelV} {W W' : World} (h : Mb B z W) (hb : Below W.heap.size W W') : Mb B z W' := ⟨h.at_.on hb, heap_below h.box hb (heap_lt h.box)⟩
/-- A fault's box. -/
structure Fb (B : Nat) (a b : Int) (W : World) : Prop where
  box : W.heap[B]? = some (.cells #[.int .i64 a, .int .i64 b] 31 (0, 0))
theorem Fb.on {B : Nat} {a b : Int} {W W' : World} (h : Fb B a b W) (hb : Below W.heap.size W W') : Fb B a b W' := ⟨heap_below h.box hb (heap_lt h.box)⟩

set_option maxRecDepth 100000 in
set_option maxHeartbeats 16000000 in
theorem walk_UpgradeUps (x : ModelV) (most : Int) (w : World) (h : ModelAt w.heap.size w x) (hw : (Lit.int .i64 x.ver).wf = true) (hmo : (Lit.int .i64 most).wf = true) : Calls Try.prog 5 #[.agg #[.int .i64 x.ver, .slice x.pa x.procs.length x.pc, .slice x.la x.links.length x.lc, .slice x.ea x.events.length x.ec], .int .i64 most] w fun e w' => e = .returned (.bool true) ∧ Below w.heap.size w w' := by
  have HK : Hid (Kw x w (w.alloc (.cells #[.int .i64 x.ver, .slice x.pa x.procs.length x.pc, .slice x.la x.links.length x.lc, .slice x.ea x.events.length x.ec] 26))) := Lib.hid ⟨h.on (below_one w _), heap_new _ rfl, below_one w _⟩
  clear h hw hmo
  go_enter Try.func5, Try.ntmps5
  go_wp2_with fail
  generalize w.alloc (.cells #[.int .i64 x.ver, .slice x.pa x.procs.length x.pc, .slice x.la x.links.length x.lc, .slice x.ea x.events.length x.ec] 26) = w1 at *
  refine (ualive_any w1).mono ?_
  rintro e w2 ⟨rfl, hb⟩
  replace HK := Lib.hid (HK.out.on hb)
  clear hb
  have a0 : w2.cell? ⟨w.heap.size, 0, none⟩ = some (.int .i64 x.ver) := heap_cell HK.out.box rfl
  have a1 : w2.cell? ⟨w.heap.size, 1, none⟩ = some (.slice x.pa x.procs.length x.pc) := heap_cell HK.out.box rfl
  have a2 : w2.cell? ⟨w.heap.size, 2, none⟩ = some (.slice x.la x.links.length x.lc) := heap_cell HK.out.box rfl
  have a3 : w2.cell? ⟨w.heap.size, 3, none⟩ = some (.slice x.ea x.events.length x.ec) := heap_cell HK.out.box rfl
  go_wp2_with fail
  refine (few_any HK.out.at_).mono ?_
  rintro e w3 ⟨rfl, hb⟩
  replace HK := Lib.hid (HK.out.on hb)
  clear hb a0 a1 a2 a3
  cases hf : fewB x.m with
  | false =>
    clear hf
    go_wp2
    go_ret
    exact ⟨rfl, HK.out.low⟩
  | true =>
  have HSz := Lib.hid (few_sized hf)
  clear hf

  have a0 : w3.cell? ⟨w.heap.size, 0, none⟩ = some (.int .i64 x.ver) := heap_cell HK.out.box rfl
  have a1 : w3.cell? ⟨w.heap.size, 1, none⟩ = some (.slice x.pa x.procs.length x.pc) := heap_cell HK.out.box rfl
  have a2 : w3.cell? ⟨w.heap.size, 2, none⟩ = some (.slice x.la x.links.length x.lc) := heap_cell HK.out.box rfl
  have a3 : w3.cell? ⟨w.heap.size, 3, none⟩ = some (.slice x.ea x.events.length x.ec) := heap_cell HK.out.box rfl
  go_wp2_with fail
  clear a0 a1 a2 a3
  refine (rcopy_any HK.out.at_ HSz.out).mono ?_
  rintro e w4o ⟨c, rfl, hz, hzo, hb⟩
  have hzz := hzo.at_
  clear hzo
  have HEmc := Lib.hid hz
  have HZz := Lib.hid hzz
  have HBw := Lib.hid hb
  clear hb hzz hz
  go_upto_region 6 with fail
  have hbx : Below w3.heap.size w3 (w4o.alloc (.cells #[.int .i64 c.ver, .slice c.pa c.procs.length c.pc, .slice c.la c.links.length c.lc, .slice c.ea c.events.length c.ec] 26)) := HBw.out.trans ((below_one w4o _).mono HBw.out.size)
  have hMc : Mb w4o.heap.size c (w4o.alloc (.cells #[.int .i64 c.ver, .slice c.pa c.procs.length c.pc, .slice c.la c.links.length c.lc, .slice c.ea c.events.length c.ec] 26)) := ⟨HZz.out.on (below_one w4o _), heap_new _ rfl⟩
  replace HK := Lib.hid (HK.out.on hbx)
  have HMc := Lib.hid hMc
  clear hbx hMc HZz HBw
  generalize (w4o.alloc (.cells #[.int .i64 c.ver, .slice c.pa c.procs.length c.pc, .slice c.la c.links.length c.lc, .slice c.ea c.events.length c.ec] 26)) = w4 at *
  generalize w4o.heap.size = B5 at *

  have HC1 := Lib.hid (upgradeUp_any HK.out.at_ HSz.out)
  obtain ⟨LU, hLU⟩ : ∃ L, UpR x.m = L := ⟨_, rfl⟩
  rw [hLU] at HC1
  have HLU := Lib.hid hLU
  clear hLU
  obtain ⟨l0, f1, f2⟩ := LU

  have a0 : w4.cell? ⟨w.heap.size, 0, none⟩ = some (.int .i64 x.ver) := heap_cell HK.out.box rfl
  have a1 : w4.cell? ⟨w.heap.size, 1, none⟩ = some (.slice x.pa x.procs.length x.pc) := heap_cell HK.out.box rfl
  have a2 : w4.cell? ⟨w.heap.size, 2, none⟩ = some (.slice x.la x.links.length x.lc) := heap_cell HK.out.box rfl
  have a3 : w4.cell? ⟨w.heap.size, 3, none⟩ = some (.slice x.ea x.events.length x.ec) := heap_cell HK.out.box rfl
  go_wp2_with fail
  clear a0 a1 a2 a3
  refine (HC1.out).mono ?_
  clear HC1
  rintro e w5o ⟨a, rfl, hz, hzo, hb⟩
  have hzz := hzo.at_
  clear hzo
  dsimp only at hz ⊢
  have HEma := Lib.hid hz
  have HZz := Lib.hid hzz
  have HBw := Lib.hid hb
  clear hb hzz hz
  go_upto_region 7 with fail
  have hbx : Below w4.heap.size w4 ((w5o.alloc (.cells #[.int .i64 a.ver, .slice a.pa a.procs.length a.pc, .slice a.la a.links.length a.lc, .slice a.ea a.events.length a.ec] 26)).alloc (.cells #[.int .i64 f1, .int .i64 f2] 31)) := HBw.out.trans ((((Below.refl _ w5o).alloc (Nat.le_refl _) _).alloc (by simp) _).mono HBw.out.size)
  have hMa : Mb w5o.heap.size a ((w5o.alloc (.cells #[.int .i64 a.ver, .slice a.pa a.procs.length a.pc, .slice a.la a.links.length a.lc, .slice a.ea a.events.length a.ec] 26)).alloc (.cells #[.int .i64 f1, .int .i64 f2] 31)) := ⟨HZz.out.on (((Below.refl _ w5o).alloc (Nat.le_refl _) _).alloc (by simp) _), heap_alloc (heap_new _ rfl) _⟩
  replace HK := Lib.hid (HK.out.on hbx)
  replace HMc := Lib.hid (HMc.out.on hbx)
  have HMa := Lib.hid hMa
  have HFa : Hid (Fb (w5o.heap.size + 1) f1 f2 ((w5o.alloc (.cells #[.int .i64 a.ver, .slice a.pa a.procs.length a.pc, .slice a.la a.links.length a.lc, .slice a.ea a.events.length a.ec] 26)).alloc (.cells #[.int .i64 f1, .int .i64 f2] 31))) := Lib.hid ⟨heap_new _ (by simp)⟩
  clear hbx hMa HZz HBw
  generalize ((w5o.alloc (.cells #[.int .i64 a.ver, .slice a.pa a.procs.length a.pc, .slice a.la a.links.length a.lc, .slice a.ea a.events.length a.ec] 26)).alloc (.cells #[.int .i64 f1, .int .i64 f2] 31)) = w5 at *
  generalize w5o.heap.size = B6 at *

  have HC1 := Lib.hid (rup_any HK.out.at_ HSz.out)
  rw [HLU.out] at HC1

  have a0 : w5.cell? ⟨w.heap.size, 0, none⟩ = some (.int .i64 x.ver) := heap_cell HK.out.box rfl
  have a1 : w5.cell? ⟨w.heap.size, 1, none⟩ = some (.slice x.pa x.procs.length x.pc) := heap_cell HK.out.box rfl
  have a2 : w5.cell? ⟨w.heap.size, 2, none⟩ = some (.slice x.la x.links.length x.lc) := heap_cell HK.out.box rfl
  have a3 : w5.cell? ⟨w.heap.size, 3, none⟩ = some (.slice x.ea x.events.length x.ec) := heap_cell HK.out.box rfl
  go_wp2_with fail
  clear a0 a1 a2 a3
  refine (HC1.out).mono ?_
  clear HC1
  rintro e w6o ⟨u, rfl, hz, hzo, hb⟩
  have hzz := hzo.at_
  clear hzo
  dsimp only at hz ⊢
  have HEmu := Lib.hid hz
  have HZz := Lib.hid hzz
  have HBw := Lib.hid hb
  clear hb hzz hz
  go_upto_region 8 with fail
  have hbx : Below w5.heap.size w5 (w6o.alloc (.cells #[.int .i64 u.ver, .slice u.pa u.procs.length u.pc, .slice u.la u.links.length u.lc, .slice u.ea u.events.length u.ec] 26)) := HBw.out.trans ((below_one w6o _).mono HBw.out.size)
  have hMu : Mb w6o.heap.size u (w6o.alloc (.cells #[.int .i64 u.ver, .slice u.pa u.procs.length u.pc, .slice u.la u.links.length u.lc, .slice u.ea u.events.length u.ec] 26)) := ⟨HZz.out.on (below_one w6o _), heap_new _ rfl⟩
  replace HK := Lib.hid (HK.out.on hbx)
  replace HMc := Lib.hid (HMc.out.on hbx)
  replace HMa := Lib.hid (HMa.out.on hbx)
  replace HFa := Lib.hid (HFa.out.on hbx)
  have HMu := Lib.hid hMu
  clear hbx hMu HZz HBw
  generalize (w6o.alloc (.cells #[.int .i64 u.ver, .slice u.pa u.procs.length u.pc, .slice u.la u.links.length u.lc, .slice u.ea u.events.length u.ec] 26)) = w6 at *
  generalize w6o.heap.size = B8 at *

  have HC1 := Lib.hid (latest_any HK.out.at_ HSz.out)
  obtain ⟨LL, hLL⟩ : ∃ L, LatR x.m = L := ⟨_, rfl⟩
  rw [hLL] at HC1
  have HLL := Lib.hid hLL
  clear hLL
  obtain ⟨m0, g1, g2⟩ := LL

  have a0 : w6.cell? ⟨w.heap.size, 0, none⟩ = some (.int .i64 x.ver) := heap_cell HK.out.box rfl
  have a1 : w6.cell? ⟨w.heap.size, 1, none⟩ = some (.slice x.pa x.procs.length x.pc) := heap_cell HK.out.box rfl
  have a2 : w6.cell? ⟨w.heap.size, 2, none⟩ = some (.slice x.la x.links.length x.lc) := heap_cell HK.out.box rfl
  have a3 : w6.cell? ⟨w.heap.size, 3, none⟩ = some (.slice x.ea x.events.length x.ec) := heap_cell HK.out.box rfl
  go_wp2_with fail
  clear a0 a1 a2 a3
  refine (HC1.out).mono ?_
  clear HC1
  rintro e w7o ⟨b, rfl, hz, hzo, hb⟩
  have hzz := hzo.at_
  clear hzo
  dsimp only at hz ⊢
  have HEmb := Lib.hid hz
  have HZz := Lib.hid hzz
  have HBw := Lib.hid hb
  clear hb hzz hz
  go_upto_region 9 with fail
  have hbx : Below w6.heap.size w6 ((w7o.alloc (.cells #[.int .i64 b.ver, .slice b.pa b.procs.length b.pc, .slice b.la b.links.length b.lc, .slice b.ea b.events.length b.ec] 26)).alloc (.cells #[.int .i64 g1, .int .i64 g2] 31)) := HBw.out.trans ((((Below.refl _ w7o).alloc (Nat.le_refl _) _).alloc (by simp) _).mono HBw.out.size)
  have hMb : Mb w7o.heap.size b ((w7o.alloc (.cells #[.int .i64 b.ver, .slice b.pa b.procs.length b.pc, .slice b.la b.links.length b.lc, .slice b.ea b.events.length b.ec] 26)).alloc (.cells #[.int .i64 g1, .int .i64 g2] 31)) := ⟨HZz.out.on (((Below.refl _ w7o).alloc (Nat.le_refl _) _).alloc (by simp) _), heap_alloc (heap_new _ rfl) _⟩
  replace HK := Lib.hid (HK.out.on hbx)
  replace HMc := Lib.hid (HMc.out.on hbx)
  replace HMa := Lib.hid (HMa.out.on hbx)
  replace HFa := Lib.hid (HFa.out.on hbx)
  replace HMu := Lib.hid (HMu.out.on hbx)
  have HMb := Lib.hid hMb
  have HFb : Hid (Fb (w7o.heap.size + 1) g1 g2 ((w7o.alloc (.cells #[.int .i64 b.ver, .slice b.pa b.procs.length b.pc, .slice b.la b.links.length b.lc, .slice b.ea b.events.length b.ec] 26)).alloc (.cells #[.int .i64 g1, .int .i64 g2] 31))) := Lib.hid ⟨heap_new _ (by simp)⟩
  clear hbx hMb HZz HBw
  generalize ((w7o.alloc (.cells #[.int .i64 b.ver, .slice b.pa b.procs.length b.pc, .slice b.la b.links.length b.lc, .slice b.ea b.events.length b.ec] 26)).alloc (.cells #[.int .i64 g1, .int .i64 g2] 31)) = w7 at *
  generalize w7o.heap.size = B11 at *

  have HC1 := Lib.hid (rlatest_any HK.out.at_ HSz.out)
  rw [HLL.out] at HC1

  have a0 : w7.cell? ⟨w.heap.size, 0, none⟩ = some (.int .i64 x.ver) := heap_cell HK.out.box rfl
  have a1 : w7.cell? ⟨w.heap.size, 1, none⟩ = some (.slice x.pa x.procs.length x.pc) := heap_cell HK.out.box rfl
  have a2 : w7.cell? ⟨w.heap.size, 2, none⟩ = some (.slice x.la x.links.length x.lc) := heap_cell HK.out.box rfl
  have a3 : w7.cell? ⟨w.heap.size, 3, none⟩ = some (.slice x.ea x.events.length x.ec) := heap_cell HK.out.box rfl
  go_wp2_with fail
  clear a0 a1 a2 a3
  refine (HC1.out).mono ?_
  clear HC1
  rintro e w8o ⟨y, rfl, hz, hzz, hb⟩
  dsimp only at hz ⊢
  have HEmy := Lib.hid hz
  have HZz := Lib.hid hzz
  have HBw := Lib.hid hb
  clear hb hzz hz
  go_upto_region 10 with fail
  have hbx : Below w7.heap.size w7 (w8o.alloc (.cells #[.int .i64 y.ver, .slice y.pa y.procs.length y.pc, .slice y.la y.links.length y.lc, .slice y.ea y.events.length y.ec] 26)) := HBw.out.trans ((below_one w8o _).mono HBw.out.size)
  have hMy : Mb w8o.heap.size y (w8o.alloc (.cells #[.int .i64 y.ver, .slice y.pa y.procs.length y.pc, .slice y.la y.links.length y.lc, .slice y.ea y.events.length y.ec] 26)) := ⟨HZz.out.on (below_one w8o _), heap_new _ rfl⟩
  replace HK := Lib.hid (HK.out.on hbx)
  replace HMc := Lib.hid (HMc.out.on hbx)
  replace HMa := Lib.hid (HMa.out.on hbx)
  replace HFa := Lib.hid (HFa.out.on hbx)
  replace HMu := Lib.hid (HMu.out.on hbx)
  replace HMb := Lib.hid (HMb.out.on hbx)
  replace HFb := Lib.hid (HFb.out.on hbx)
  have HMy := Lib.hid hMy
  clear hbx hMy HZz HBw
  generalize (w8o.alloc (.cells #[.int .i64 y.ver, .slice y.pa y.procs.length y.pc, .slice y.la y.links.length y.lc, .slice y.ea y.events.length y.ec] 26)) = w8 at *
  generalize w8o.heap.size = B13 at *

  have n1 : (f1 != f1) = false := by simp
  have n2 : (f2 != f2) = false := by simp
  have n3 : (g1 != g1) = false := by simp
  have n4 : (g2 != g2) = false := by simp
  have a0 : w8.cell? ⟨B6, 0, none⟩ = some (.int .i64 a.ver) := heap_cell HMa.out.box rfl
  have a1 : w8.cell? ⟨B6, 1, none⟩ = some (.slice a.pa a.procs.length a.pc) := heap_cell HMa.out.box rfl
  have a2 : w8.cell? ⟨B6, 2, none⟩ = some (.slice a.la a.links.length a.lc) := heap_cell HMa.out.box rfl
  have a3 : w8.cell? ⟨B6, 3, none⟩ = some (.slice a.ea a.events.length a.ec) := heap_cell HMa.out.box rfl
  have b0 : w8.cell? ⟨B8, 0, none⟩ = some (.int .i64 u.ver) := heap_cell HMu.out.box rfl
  have b1 : w8.cell? ⟨B8, 1, none⟩ = some (.slice u.pa u.procs.length u.pc) := heap_cell HMu.out.box rfl
  have b2 : w8.cell? ⟨B8, 2, none⟩ = some (.slice u.la u.links.length u.lc) := heap_cell HMu.out.box rfl
  have b3 : w8.cell? ⟨B8, 3, none⟩ = some (.slice u.ea u.events.length u.ec) := heap_cell HMu.out.box rfl
  have c0 : w8.cell? ⟨B6 + 1, 0, none⟩ = some (.int .i64 f1) := heap_cell HFa.out.box rfl
  have c1 : w8.cell? ⟨B6 + 1, 1, none⟩ = some (.int .i64 f2) := heap_cell HFa.out.box rfl
  go_wp2_with fail
  clear a0 a1 a2 a3 b0 b1 b2 b3 c0 c1
  refine (rsame_t HMa.out.at_ HMu.out.at_ (HEma.out.trans HEmu.out.symm)).mono ?_
  rintro e v1 ⟨rfl, hb⟩
  replace HK := Lib.hid (HK.out.on hb)
  replace HMc := Lib.hid (HMc.out.on hb)
  replace HMa := Lib.hid (HMa.out.on hb)
  replace HFa := Lib.hid (HFa.out.on hb)
  replace HMu := Lib.hid (HMu.out.on hb)
  replace HMb := Lib.hid (HMb.out.on hb)
  replace HFb := Lib.hid (HFb.out.on hb)
  replace HMy := Lib.hid (HMy.out.on hb)
  clear hb
  have a0 : v1.cell? ⟨B11, 0, none⟩ = some (.int .i64 b.ver) := heap_cell HMb.out.box rfl
  have a1 : v1.cell? ⟨B11, 1, none⟩ = some (.slice b.pa b.procs.length b.pc) := heap_cell HMb.out.box rfl
  have a2 : v1.cell? ⟨B11, 2, none⟩ = some (.slice b.la b.links.length b.lc) := heap_cell HMb.out.box rfl
  have a3 : v1.cell? ⟨B11, 3, none⟩ = some (.slice b.ea b.events.length b.ec) := heap_cell HMb.out.box rfl
  have b0 : v1.cell? ⟨B13, 0, none⟩ = some (.int .i64 y.ver) := heap_cell HMy.out.box rfl
  have b1 : v1.cell? ⟨B13, 1, none⟩ = some (.slice y.pa y.procs.length y.pc) := heap_cell HMy.out.box rfl
  have b2 : v1.cell? ⟨B13, 2, none⟩ = some (.slice y.la y.links.length y.lc) := heap_cell HMy.out.box rfl
  have b3 : v1.cell? ⟨B13, 3, none⟩ = some (.slice y.ea y.events.length y.ec) := heap_cell HMy.out.box rfl
  have c0 : v1.cell? ⟨B11 + 1, 0, none⟩ = some (.int .i64 g1) := heap_cell HFb.out.box rfl
  have c1 : v1.cell? ⟨B11 + 1, 1, none⟩ = some (.int .i64 g2) := heap_cell HFb.out.box rfl
  go_wp2_with fail
  clear a0 a1 a2 a3 b0 b1 b2 b3 c0 c1
  refine (rsame_t HMb.out.at_ HMy.out.at_ (HEmb.out.trans HEmy.out.symm)).mono ?_
  rintro e v2 ⟨rfl, hb⟩
  replace HK := Lib.hid (HK.out.on hb)
  replace HMc := Lib.hid (HMc.out.on hb)
  replace HMa := Lib.hid (HMa.out.on hb)
  replace HFa := Lib.hid (HFa.out.on hb)
  replace HMu := Lib.hid (HMu.out.on hb)
  replace HMb := Lib.hid (HMb.out.on hb)
  replace HFb := Lib.hid (HFb.out.on hb)
  replace HMy := Lib.hid (HMy.out.on hb)
  clear hb
  have a0 : v2.cell? ⟨B5, 0, none⟩ = some (.int .i64 c.ver) := heap_cell HMc.out.box rfl
  have a1 : v2.cell? ⟨B5, 1, none⟩ = some (.slice c.pa c.procs.length c.pc) := heap_cell HMc.out.box rfl
  have a2 : v2.cell? ⟨B5, 2, none⟩ = some (.slice c.la c.links.length c.lc) := heap_cell HMc.out.box rfl
  have a3 : v2.cell? ⟨B5, 3, none⟩ = some (.slice c.ea c.events.length c.ec) := heap_cell HMc.out.box rfl
  have b0 : v2.cell? ⟨w.heap.size, 0, none⟩ = some (.int .i64 x.ver) := heap_cell HK.out.box rfl
  have b1 : v2.cell? ⟨w.heap.size, 1, none⟩ = some (.slice x.pa x.procs.length x.pc) := heap_cell HK.out.box rfl
  have b2 : v2.cell? ⟨w.heap.size, 2, none⟩ = some (.slice x.la x.links.length x.lc) := heap_cell HK.out.box rfl
  have b3 : v2.cell? ⟨w.heap.size, 3, none⟩ = some (.slice x.ea x.events.length x.ec) := heap_cell HK.out.box rfl
  go_wp2_with fail
  clear a0 a1 a2 a3 b0 b1 b2 b3
  refine (rsame_t HMc.out.at_ HK.out.at_ HEmc.out).mono ?_
  rintro e v3 ⟨rfl, hb⟩
  replace HK := Lib.hid (HK.out.on hb)
  clear hb n1 n2 n3 n4 HMc HMa HMu HMb HMy HFa HFb HEma HEmu HEmb HEmy HEmc HLU HLL

  have a0 : v3.cell? ⟨w.heap.size, 0, none⟩ = some (.int .i64 x.ver) := heap_cell HK.out.box rfl
  have a1 : v3.cell? ⟨w.heap.size, 1, none⟩ = some (.slice x.pa x.procs.length x.pc) := heap_cell HK.out.box rfl
  have a2 : v3.cell? ⟨w.heap.size, 2, none⟩ = some (.slice x.la x.links.length x.lc) := heap_cell HK.out.box rfl
  have a3 : v3.cell? ⟨w.heap.size, 3, none⟩ = some (.slice x.ea x.events.length x.ec) := heap_cell HK.out.box rfl
  go_wp2_with fail
  clear a0 a1 a2 a3
  refine (lways_any HK.out.at_ HSz.out 9).mono ?_
  rintro e w9 ⟨L, pa, pc, g, rfl, hrow, hats, hD, hb⟩
  rw [List.take_of_length_le (show (waysD x.m).length ≤ (9 : Int).toNat by have := waysD_len x.m; show _ ≤ 9; omega)] at hD
  replace HK := Lib.hid (HK.out.on hb)
  have HRw := Lib.hid hrow
  have HAt : Hid (∀ z ∈ L, ModelAt w9.heap.size w9 z) := Lib.hid (fun z hz => (hats z hz).1)
  have HD := Lib.hid hD
  have hLn : L.length ≤ 4 := by have h1 := waysD_len x.m; rw [← hD, List.length_map] at h1; exact h1
  have hLi : (L.length : Int) ≤ 4 := by omega
  clear hrow hats hD hb
  have a0 : w9.cell? ⟨w.heap.size, 0, none⟩ = some (.int .i64 x.ver) := heap_cell HK.out.box rfl
  have a1 : w9.cell? ⟨w.heap.size, 1, none⟩ = some (.slice x.pa x.procs.length x.pc) := heap_cell HK.out.box rfl
  have a2 : w9.cell? ⟨w.heap.size, 2, none⟩ = some (.slice x.la x.links.length x.lc) := heap_cell HK.out.box rfl
  have a3 : w9.cell? ⟨w.heap.size, 3, none⟩ = some (.slice x.ea x.events.length x.ec) := heap_cell HK.out.box rfl
  have HN : Hid (Nw w9 w9.heap.size x (w9.alloc (.cells #[.int .i64 x.ver, .slice x.pa x.procs.length x.pc, .slice x.la x.links.length x.lc, .slice x.ea x.events.length x.ec] 26))) := Lib.hid ⟨heap_new _ rfl, .inl HK.out.at_, below_one w9 _⟩
  have HFi : Hid (∀ z, L[0]? = some z → z.m = x.m) := Lib.hid (fun z hz => by
    have h1 : (waysD x.m)[0]? = some z.m := by rw [← HD.out, List.getElem?_map, hz]; rfl
    by_cases h0 : (mdE x.m).1 = 0
    · rw [ways_cons (right_of h0)] at h1
      simpa using h1.symm
    · rw [ways_wrong h0] at h1
      simp at h1)
  have HRt : Hid (L.length ≠ 0 → Right x.m) := Lib.hid (fun hn => by
    by_cases h0 : (mdE x.m).1 = 0
    · exact right_of h0
    · have h1 := congrArg List.length HD.out
      rw [ways_wrong h0, List.length_map] at h1
      exact absurd h1 hn)
  go_upto_region 14 with fail
  clear a0 a1 a2 a3
  generalize w9.alloc (.cells #[.int .i64 x.ver, .slice x.pa x.procs.length x.pc, .slice x.la x.links.length x.lc, .slice x.ea x.events.length x.ec] 26) = wA at *
  go_wp2_with fail
  go_loopw [99] (fun i wr => ∃ (k : Nat) (y : ModelV), i = .int .i64 (k : Int) ∧ k ≤ L.length ∧ Hid (Nw w9 w9.heap.size y wr) ∧ Hid (Sized y.m ∧ ∀ z, L[k]? = some z → z.m = y.m)) (fun i _ => L.length - (intOf i).toNat)
  case atStart => exact ⟨0, x, rfl, Nat.zero_le _, HN, Lib.hid ⟨HSz.out, HFi.out⟩⟩
  case round =>
  clear HN HFi
  obtain ⟨k, y, rfl, hk, HN, HY⟩ := hrel
  have hk0 : (0 : Int) ≤ (k : Int) := Int.natCast_nonneg k
  by_cases hlt : k < L.length
  · have hki : (k : Int) < (L.length : Int) := by omega
    obtain ⟨z, hz⟩ : ∃ z, L[k]? = some z := ⟨_, List.getElem?_eq_getElem hlt⟩
    have ha : pa = some ⟨g, 0, none⟩ := HRw.out.addr.resolve_left (by omega)
    subst ha
    have hgl : g < w9.heap.size := HRw.out.below.resolve_left (by omega)
    have r0 : wr.cell? ⟨g, k * 4, none⟩ = some (.int .i64 z.ver) := by rw [HN.out.low.cell (by exact hgl)]; have := HRw.out.cell k z hz 0 _ rfl; simpa using this
    have r1 : wr.cell? ⟨g, k * 4 + 1, none⟩ = some (.slice z.pa z.procs.length z.pc) := by rw [HN.out.low.cell (by exact hgl)]; have := HRw.out.cell k z hz 1 _ rfl; simpa using this
    have r2 : wr.cell? ⟨g, k * 4 + 2, none⟩ = some (.slice z.la z.links.length z.lc) := by rw [HN.out.low.cell (by exact hgl)]; have := HRw.out.cell k z hz 2 _ rfl; simpa using this
    have r3 : wr.cell? ⟨g, k * 4 + 3, none⟩ = some (.slice z.ea z.events.length z.ec) := by rw [HN.out.low.cell (by exact hgl)]; have := HRw.out.cell k z hz 3 _ rfl; simpa using this
    have HE1 := Lib.hid (HY.out.2 z hz)
    have HRm := Lib.hid (HRt.out (by omega))
    have HWa := Lib.hid (ways_at k HRm.out (y := y.m) (by rw [← HD.out, List.getElem?_map, hz, ← HE1.out]; rfl))
    have HZl := Lib.hid (HAt.out z (List.mem_of_getElem? hz))
    have HSy := Lib.hid HY.out.1
    clear hz HY
    go_upto_region 17 with fail
    clear r0 r1 r2 r3
    have HN1 := Lib.hid (HN.out.on (below_one wr (.cells #[.int .i64 z.ver, .slice z.pa z.procs.length z.pc, .slice z.la z.links.length z.lc, .slice z.ea z.events.length z.ec] 26)))
    have HMz : Hid (Mb wr.heap.size z (wr.alloc (.cells #[.int .i64 z.ver, .slice z.pa z.procs.length z.pc, .slice z.la z.links.length z.lc, .slice z.ea z.events.length z.ec] 26))) := Lib.hid ⟨(HZl.out.on HN.out.low).on (below_one wr _), heap_new _ rfl⟩
    clear HN
    generalize wr.alloc (.cells #[.int .i64 z.ver, .slice z.pa z.procs.length z.pc, .slice z.la z.links.length z.lc, .slice z.ea z.events.length z.ec] 26) = wB at *
    generalize wr.heap.size = B19 at *
    have b0 : wB.cell? ⟨B19, 0, none⟩ = some (.int .i64 z.ver) := heap_cell HMz.out.box rfl
    have b1 : wB.cell? ⟨B19, 1, none⟩ = some (.slice z.pa z.procs.length z.pc) := heap_cell HMz.out.box rfl
    have b2 : wB.cell? ⟨B19, 2, none⟩ = some (.slice z.la z.links.length z.lc) := heap_cell HMz.out.box rfl
    have b3 : wB.cell? ⟨B19, 3, none⟩ = some (.slice z.ea z.events.length z.ec) := heap_cell HMz.out.box rfl
    have c0 : wB.cell? ⟨w9.heap.size, 0, none⟩ = some (.int .i64 y.ver) := heap_cell HN1.out.box rfl
    have c1 : wB.cell? ⟨w9.heap.size, 1, none⟩ = some (.slice y.pa y.procs.length y.pc) := heap_cell HN1.out.box rfl
    have c2 : wB.cell? ⟨w9.heap.size, 2, none⟩ = some (.slice y.la y.links.length y.lc) := heap_cell HN1.out.box rfl
    have c3 : wB.cell? ⟨w9.heap.size, 3, none⟩ = some (.slice y.ea y.events.length y.ec) := heap_cell HN1.out.box rfl
    go_wp2_with fail
    clear b0 b1 b2 b3 c0 c1 c2 c3
    refine (rsame_t HMz.out.at_ HN1.out.at_ HE1.out).mono ?_
    rintro e wC ⟨rfl, hb⟩
    replace HN1 := Lib.hid (HN1.out.on hb)
    clear hb HMz
    have c0 : wC.cell? ⟨w9.heap.size, 0, none⟩ = some (.int .i64 y.ver) := heap_cell HN1.out.box rfl
    have c1 : wC.cell? ⟨w9.heap.size, 1, none⟩ = some (.slice y.pa y.procs.length y.pc) := heap_cell HN1.out.box rfl
    have c2 : wC.cell? ⟨w9.heap.size, 2, none⟩ = some (.slice y.la y.links.length y.lc) := heap_cell HN1.out.box rfl
    have c3 : wC.cell? ⟨w9.heap.size, 3, none⟩ = some (.slice y.ea y.events.length y.ec) := heap_cell HN1.out.box rfl
    go_wp2_with fail
    clear c0 c1 c2 c3
    have HCu := Lib.hid (rup_any HN1.out.at_ HSy.out)
    have HSn := Lib.hid (sized_UpR HSy.out)
    refine HCu.out.mono ?_
    clear HCu
    obtain ⟨LU, hLU⟩ : ∃ L, UpR y.m = L := ⟨_, rfl⟩
    rw [hLU] at HWa HSn ⊢
    clear hLU
    obtain ⟨l0, f1, f2⟩ := LU
    rintro e wD ⟨n, rfl, hn, hno, hb⟩
    dsimp only at hn ⊢
    have HNn := Lib.hid hn
    have HNo := Lib.hid hno
    have HBw := Lib.hid hb
    clear hn hno hb
    go_upto_region 20 with fail
    have hbx : Below wC.heap.size wC (wD.alloc (.cells #[.int .i64 n.ver, .slice n.pa n.procs.length n.pc, .slice n.la n.links.length n.lc, .slice n.ea n.events.length n.ec] 26)) := HBw.out.trans ((below_one wD _).mono HBw.out.size)
    have hN2 := HN1.out.on hbx
    have hnb : (wD.alloc (.cells #[.int .i64 n.ver, .slice n.pa n.procs.length n.pc, .slice n.la n.links.length n.lc, .slice n.ea n.events.length n.ec] 26)).heap[wD.heap.size]? = some (.cells #[.int .i64 n.ver, .slice n.pa n.procs.length n.pc, .slice n.la n.links.length n.lc, .slice n.ea n.events.length n.ec] 26 (0, 0)) := heap_new _ rfl
    have hno := HNo.out.on (below_one wD (.cells #[.int .i64 n.ver, .slice n.pa n.procs.length n.pc, .slice n.la n.links.length n.lc, .slice n.ea n.events.length n.ec] 26))
    clear HBw HNo
    generalize wD.alloc (.cells #[.int .i64 n.ver, .slice n.pa n.procs.length n.pc, .slice n.la n.links.length n.lc, .slice n.ea n.events.length n.ec] 26) = wE at *
    generalize wD.heap.size = B20 at *
    obtain ⟨bq, hbq⟩ : ∃ bq, decide (k + 1 < L.length) = bq := ⟨_, rfl⟩
    have q1 : (f1 == 0) = bq := by
      have h1 := HWa.out.1
      have h2 : (waysD x.m).length = L.length := by rw [← HD.out, List.length_map]
      rw [h2] at h1
      rw [← hbq]
      by_cases e : f1 = 0
      · rw [decide_eq_true (h1.1 e)]
        simpa using e
      · rw [decide_eq_false (fun e2 => e (h1.2 e2))]
        simpa using e
    have q2 : decide ((k : Int) + 1 < (L.length : Int)) = bq := by
      rw [← hbq]
      by_cases e : k + 1 < L.length
      · rw [decide_eq_true e, decide_eq_true (by omega)]
      · rw [decide_eq_false e, decide_eq_false (by omega)]
    have q3 : (bq != bq) = false := by simp
    have HLast : Hid (∀ t, L[k + 1]? = some t → t.m = n.m) := Lib.hid (fun t ht => by
      have hlt2 : k + 1 < L.length := (List.getElem?_eq_some_iff.1 ht).1
      have h2 : (waysD x.m).length = L.length := by rw [← HD.out, List.length_map]
      have h3 := HWa.out.2 (HWa.out.1.2 (by rw [h2]; exact hlt2))
      rw [← HD.out, List.getElem?_map, ht] at h3
      have h4 : t.m = l0 := by simpa using h3
      rw [h4, HNn.out])
    have HSn2 : Hid (Sized n.m) := Lib.hid (by rw [HNn.out]; exact HSn.out)
    clear hbq HWa HSn HNn
    have HS4 := Lib.hid (set4 hN2.box (.int .i64 n.ver) (.slice n.pa n.procs.length n.pc) (.slice n.la n.links.length n.lc) (.slice n.ea n.events.length n.ec))
    have HN4 : Hid (Nw w9 w9.heap.size n ((((wE.setCell ⟨w9.heap.size, 0, none⟩ (.int .i64 n.ver)).setCell ⟨w9.heap.size, 1, none⟩ (.slice n.pa n.procs.length n.pc)).setCell ⟨w9.heap.size, 2, none⟩ (.slice n.la n.links.length n.lc)).setCell ⟨w9.heap.size, 3, none⟩ (.slice n.ea n.events.length n.ec))) := Lib.hid (HN1.out.next hbx hno HS4.out.2 (Nat.le_refl _) HS4.out.1)
    have b0 : wE.cell? ⟨B20, 0, none⟩ = some (.int .i64 n.ver) := heap_cell hnb rfl
    have b1 : wE.cell? ⟨B20, 1, none⟩ = some (.slice n.pa n.procs.length n.pc) := heap_cell hnb rfl
    have b2 : wE.cell? ⟨B20, 2, none⟩ = some (.slice n.la n.links.length n.lc) := heap_cell hnb rfl
    have b3 : wE.cell? ⟨B20, 3, none⟩ = some (.slice n.ea n.events.length n.ec) := heap_cell hnb rfl
    have c0 : wE.cell? ⟨w9.heap.size, 0, none⟩ = some (.int .i64 y.ver) := heap_cell hN2.box rfl
    have c1 : wE.cell? ⟨w9.heap.size, 1, none⟩ = some (.slice y.pa y.procs.length y.pc) := heap_cell hN2.box rfl
    have c2 : wE.cell? ⟨w9.heap.size, 2, none⟩ = some (.slice y.la y.links.length y.lc) := heap_cell hN2.box rfl
    have c3 : wE.cell? ⟨w9.heap.size, 3, none⟩ = some (.slice y.ea y.events.length y.ec) := heap_cell hN2.box rfl
    have f0 := heap_frozen hN2.box 0
    have f1 := heap_frozen hN2.box 1
    have f2 := heap_frozen hN2.box 2
    have f3 := heap_frozen hN2.box 3
    clear hbx hN2 hnb hno HN1 HS4
    go_wp2
    go_roundw
    case rel => exact ⟨k + 1, n, by go_num, by omega, HN4, Lib.hid ⟨HSn2.out, HLast.out⟩⟩
    case measure => simp [intOf]; omega
  · obtain rfl : k = L.length := by omega
    have HK2 := Lib.hid (HK.out.on HN.out.low)
    clear HY HN HRt
    have a0 : wr.cell? ⟨w.heap.size, 0, none⟩ = some (.int .i64 x.ver) := heap_cell HK2.out.box rfl
    have a1 : wr.cell? ⟨w.heap.size, 1, none⟩ = some (.slice x.pa x.procs.length x.pc) := heap_cell HK2.out.box rfl
    have a2 : wr.cell? ⟨w.heap.size, 2, none⟩ = some (.slice x.la x.links.length x.lc) := heap_cell HK2.out.box rfl
    have a3 : wr.cell? ⟨w.heap.size, 3, none⟩ = some (.slice x.ea x.events.length x.ec) := heap_cell HK2.out.box rfl
    go_wp2_with fail
    clear a0 a1 a2 a3
    refine (rcheck_any HK2.out.at_).mono ?_
    rintro e wF ⟨rfl, hb⟩
    replace HK2 := Lib.hid (HK2.out.on hb)
    clear hb
    obtain ⟨c1, hc1⟩ : ∃ c1, (mdE x.m).1 = c1 := ⟨_, rfl⟩
    obtain ⟨c2, hc2⟩ : ∃ c2, (mdE x.m).2 = c2 := ⟨_, rfl⟩
    rw [hc1, hc2]
    obtain ⟨q, hq⟩ : ∃ q, (c1 != 0) = q := ⟨_, rfl⟩
    have hq1 : ((L.length : Int) == 0) = q := by
      rw [← hq]
      have h2 : (waysD x.m).length = L.length := by rw [← HD.out, List.length_map]
      by_cases h0 : c1 = 0
      · rw [ways_cons (right_of (by rw [hc1]; exact h0))] at h2
        rw [List.length_cons] at h2
        rw [h0]
        show ((L.length : Int) == 0) = false
        exact beq_eq_false_iff_ne.2 (by omega)
      · rw [ways_wrong (by rw [hc1]; exact h0)] at h2
        simp at h2
        rw [← h2]
        simpa using h0
    have hq2 : (q != q) = false := by simp
    clear hc1 hc2
    obtain ⟨q4, hq4⟩ : ∃ q4, most % 4 = q4 := ⟨_, rfl⟩
    have hand : bits .and .i64 most 3 = q4 := by rw [and_3, hq4]
    have hq40 : 0 ≤ q4 := by omega
    obtain ⟨m4, hm4⟩ : ∃ m4 : Int, min q4 (L.length : Int) = m4 := ⟨_, rfl⟩
    have hm1 : (if (L.length : Int) < q4 then (L.length : Int) else q4) = m4 := by rw [← hm4]; split <;> omega
    have hm2 : (if q4 < (L.length : Int) then q4 else (L.length : Int)) = m4 := by rw [← hm4]; split <;> omega
    have HM4 := Lib.hid hm4
    have HQ4 := Lib.hid hq40
    clear hq4 hm4 hq40
    have a0 : wF.cell? ⟨w.heap.size, 0, none⟩ = some (.int .i64 x.ver) := heap_cell HK2.out.box rfl
    have a1 : wF.cell? ⟨w.heap.size, 1, none⟩ = some (.slice x.pa x.procs.length x.pc) := heap_cell HK2.out.box rfl
    have a2 : wF.cell? ⟨w.heap.size, 2, none⟩ = some (.slice x.la x.links.length x.lc) := heap_cell HK2.out.box rfl
    have a3 : wF.cell? ⟨w.heap.size, 3, none⟩ = some (.slice x.ea x.events.length x.ec) := heap_cell HK2.out.box rfl
    go_wp2_with fail
    clear a0 a1 a2 a3
    refine (lways_any HK2.out.at_ HSz.out q4).mono ?_
    rintro e wG ⟨L2, pa2, pc2, g2, rfl, -, -, hD2, hb⟩
    have hl2 : ((L2.length : Int) == m4) = true := by
      have h1 := congrArg List.length hD2
      rw [List.length_map, List.length_take, ← HD.out, List.length_map] at h1
      have h2 := HM4.out
      have h3 := HQ4.out
      simp
      omega
    have HEn := Lib.hid (HK2.out.low.trans (hb.mono HK2.out.low.size))
    clear hD2 hb
    go_wp2
    go_ret
    exact ⟨rfl, HEn.out⟩
end Go.Proofs.Ytgnlehenbdcgmaa.Md
