/- Upgrade: walk of UpgradeTimes. -/
import Derived.Test.YtgnlehenbdcgmaaUt
import Derived.Test.YtgnlehenbdcgmaaUx
import Derived.StillTailTactics
set_option linter.unusedVariables false
set_option linter.unusedSectionVars false
set_option linter.unusedSimpArgs false
namespace Go.Proofs.Ytgnlehenbdcgmaa.Md
open Go.RowKit Go.Shelf

def topV (q : ProcV) : ProcV := { q with p := topP q.p }
/-- While the copy's weights are turned. -/
structure Tm (w6 : World) (c : ModelV) (C : Nat) (j : Nat) (W : World) : Prop where
  box : W.heap[C]? = some (.cells #[.int .i64 c.ver, .slice c.pa c.procs.length c.pc, .slice c.la c.links.length c.lc, .slice c.ea c.events.length c.ec] 26 (0, 0))
  own : OwnM w6.heap.size W { c with procs := upto topV j c.procs }
  low : Below w6.heap.size w6 W
theorem Tm.on {w6 : World} {c : ModelV} {C j : Nat} {W W' : World} (h : Tm w6 c C j W) (hb : Below W.heap.size W W') : Tm w6 c C j W' :=
  ⟨heap_below h.box hb (heap_lt h.box), h.own.on hb, h.low.trans (hb.mono h.low.size)⟩

set_option maxRecDepth 100000 in
set_option maxHeartbeats 8000000 in
theorem walk_UpgradeTimes (x : ModelV) (w : World) (h : ModelAt w.heap.size w x) (hw : (Lit.int .i64 x.ver).wf = true) : Calls Try.prog 7 #[.agg #[.int .i64 x.ver, .slice x.pa x.procs.length x.pc, .slice x.la x.links.length x.lc, .slice x.ea x.events.length x.ec]] w fun e w' => e = .returned (.bool true) ∧ Below w.heap.size w w' := by
  have HK : Hid (Kw x w (w.alloc (.cells #[.int .i64 x.ver, .slice x.pa x.procs.length x.pc, .slice x.la x.links.length x.lc, .slice x.ea x.events.length x.ec] 26))) := Lib.hid ⟨h.on (below_one w _), heap_new _ rfl, below_one w _⟩
  clear h hw
  go_enter Try.func7, Try.ntmps7
  go_wp2_with fail
  generalize w.alloc (.cells #[.int .i64 x.ver, .slice x.pa x.procs.length x.pc, .slice x.la x.links.length x.lc, .slice x.ea x.events.length x.ec] 26) = w1 at *
  refine (ualive_any w1).mono ?_
  rintro e w2 ⟨rfl, hb⟩
  replace HK := Lib.hid (HK.out.on hb)
  clear hb
  have a0 : w2.cell? ⟨w.heap.size, 0, none⟩ = some (.int .i64 x.ver) := heap_cell HK.out.box rfl
  have a1 : w2.cell? ⟨w.heap.size, 1, none⟩ = some (.slice x.pa x.procs.length x.pc) := heap_cell HK.out.box rfl
  have a2 : w2.cell? ⟨w.heap.size, 2, none⟩ = some (.slice x.la x.links.length x.lc) := heap_cell HK.out.box rfl
  have a3 : w2.cell? ⟨w.heap.size, 3, none⟩ = some (.slice x.ea x.events.length x.ec) := heap_cell HK.out.box rfl
  go_wp2_with fail
  refine (few_any HK.out.at_).mono ?_
  rintro e w3 ⟨rfl, hb⟩
  replace HK := Lib.hid (HK.out.on hb)
  clear hb a0 a1 a2 a3
  cases hf : fewB x.m with
  | false =>
    clear hf
    go_wp2
    go_ret
    exact ⟨rfl, HK.out.low⟩
  | true =>
  have HSz := Lib.hid (few_sized hf)
  clear hf
  have HC := Lib.hid (latest_any HK.out.at_ HSz.out)
  have HF : Hid ((∃ e1 e2, e1 ≠ 0 ∧ LatR x.m = (zeroM, e1, e2)) ∨ (Right x.m ∧ LatR x.m = (newM x.m, 0, 0))) := Lib.hid (by
    by_cases h0 : (mdE x.m).1 = 0
    · have hr := right_of h0
      rcases lat_right hr with ⟨h1, h2⟩ | ⟨e2, h1⟩
      · exact .inr ⟨hr, h1⟩
      · exact .inl ⟨30, e2, by decide, h1⟩
    · exact .inl ⟨(mdE x.m).1, (mdE x.m).2, h0, lat_wrong h0⟩)
  have a0 : w3.cell? ⟨w.heap.size, 0, none⟩ = some (.int .i64 x.ver) := heap_cell HK.out.box rfl
  have a1 : w3.cell? ⟨w.heap.size, 1, none⟩ = some (.slice x.pa x.procs.length x.pc) := heap_cell HK.out.box rfl
  have a2 : w3.cell? ⟨w.heap.size, 2, none⟩ = some (.slice x.la x.links.length x.lc) := heap_cell HK.out.box rfl
  have a3 : w3.cell? ⟨w.heap.size, 3, none⟩ = some (.slice x.ea x.events.length x.ec) := heap_cell HK.out.box rfl
  go_wp2_with fail
  clear a0 a1 a2 a3
  refine HC.out.mono ?_
  clear HC
  obtain ⟨L, hL⟩ : ∃ L, LatR x.m = L := ⟨_, rfl⟩
  rw [hL] at HF ⊢
  clear hL
  obtain ⟨l0, f1, f2⟩ := L
  rintro e w4 ⟨z, rfl, hz, hoz, hb⟩
  dsimp only at hz ⊢
  have HZ0 := Lib.hid hz
  replace HK := Lib.hid (HK.out.on hb)
  have HZt := Lib.hid hoz.at_
  clear hz hoz hb
  go_upto_region 6 with fail
  have HX : Hid (Kq x z w4.heap.size f1 f2 w ((w4.alloc (.cells #[.int .i64 z.ver, .slice z.pa z.procs.length z.pc, .slice z.la z.links.length z.lc, .slice z.ea z.events.length z.ec] 26)).alloc (.cells #[.int .i64 f1, .int .i64 f2] 31))) := Lib.hid (by
    have hbx : Below w4.heap.size w4 ((w4.alloc (.cells #[.int .i64 z.ver, .slice z.pa z.procs.length z.pc, .slice z.la z.links.length z.lc, .slice z.ea z.events.length z.ec] 26)).alloc (.cells #[.int .i64 f1, .int .i64 f2] 31)) := ((Below.refl _ w4).alloc (Nat.le_refl _) _).alloc (by simp) _
    exact ⟨HK.out.on hbx, HZt.out.on hbx, heap_alloc (heap_new _ rfl) _, heap_new _ (by simp)⟩)
  clear HK HZt
  generalize ((w4.alloc (.cells #[.int .i64 z.ver, .slice z.pa z.procs.length z.pc, .slice z.la z.links.length z.lc, .slice z.ea z.events.length z.ec] 26)).alloc (.cells #[.int .i64 f1, .int .i64 f2] 31)) = w5 at *
  generalize w4.heap.size = B at *
  have b0 : w5.cell? ⟨B + 1, 0, none⟩ = some (.int .i64 f1) := heap_cell HX.out.fbox rfl
  rcases HF.out with ⟨e1, e2, h1, h2⟩ | ⟨h1, h2⟩
  · have hf : f1 = e1 := congrArg (fun p => p.2.1) h2
    subst hf
    have hq0 : (f1 != 0) = true := by simpa using h1
    clear HF HSz h1 h2
    go_wp2
    go_ret
    exact ⟨rfl, HX.out.kw.low⟩
  have hz : l0 = newM x.m := congrArg Prod.fst h2
  have hf : f1 = 0 := congrArg (fun p => p.2.1) h2
  have hg : f2 = 0 := congrArg (fun p => p.2.2) h2
  subst hz
  subst hf
  subst hg
  have HR := Lib.hid h1
  have HZl : Hid (z.links = x.links.map (topL (if x.ver = 1 then 1000 else 1))) := Lib.hid (congrArg ModelM.links HZ0.out)
  have HZp : Hid (z.procs.length = x.procs.length) := Lib.hid (by have := congrArg (fun m => m.procs.length) HZ0.out; simpa [ModelV.m, newM] using this)
  have HZn : Hid (z.links.length = x.links.length) := Lib.hid (by rw [HZl.out, List.length_map])
  clear HF h1 h2
  go_upto_region 9 with fail
  clear b0
  obtain ⟨T, hT⟩ : ∃ T : Int, (if x.ver = 1 then (1000 : Int) else 1) = T := ⟨_, rfl⟩
  rw [hT] at HZl
  have HT := Lib.hid hT
  clear hT
  have a0 : w5.cell? ⟨w.heap.size, 0, none⟩ = some (.int .i64 x.ver) := heap_cell HX.out.kw.box rfl
  go_upto_if 25 with fail
  clear a0
  go_cut [5] from 25 to 26 (fun v wx => v = .int .i64 T ∧ w5 = wx)
  case first =>
    by_cases hv : x.ver = 1
    · have hvb : (x.ver == 1) = true := by simpa using hv
      have hT1 : T = 1000 := by rw [← HT.out, if_pos hv]
      subst hT1
      clear hv
      go_wp2_with fail
      go_meet
      exact ⟨rfl, rfl⟩
    · have hvb : (x.ver == 1) = false := by simpa using hv
      have hT1 : T = 1 := by rw [← HT.out, if_neg hv]
      subst hT1
      clear hv
      go_wp2_with fail
      go_meet
      exact ⟨rfl, rfl⟩
  case rest =>
  obtain ⟨rfl, rfl⟩ := hcut
  have a0 : w5.cell? ⟨w.heap.size, 0, none⟩ = some (.int .i64 x.ver) := heap_cell HX.out.kw.box rfl
  have a1 : w5.cell? ⟨w.heap.size, 1, none⟩ = some (.slice x.pa x.procs.length x.pc) := heap_cell HX.out.kw.box rfl
  have a2 : w5.cell? ⟨w.heap.size, 2, none⟩ = some (.slice x.la x.links.length x.lc) := heap_cell HX.out.kw.box rfl
  have a3 : w5.cell? ⟨w.heap.size, 3, none⟩ = some (.slice x.ea x.events.length x.ec) := heap_cell HX.out.kw.box rfl
  have b0 : w5.cell? ⟨B, 0, none⟩ = some (.int .i64 z.ver) := heap_cell HX.out.zbox rfl
  have b1 : w5.cell? ⟨B, 1, none⟩ = some (.slice z.pa z.procs.length z.pc) := heap_cell HX.out.zbox rfl
  have b2 : w5.cell? ⟨B, 2, none⟩ = some (.slice z.la z.links.length z.lc) := heap_cell HX.out.zbox rfl
  have b3 : w5.cell? ⟨B, 3, none⟩ = some (.slice z.ea z.events.length z.ec) := heap_cell HX.out.zbox rfl
  have hpb : ((z.procs.length : Int) != (x.procs.length : Int)) = false := by rw [HZp.out]; simp
  have hlb : ((z.links.length : Int) != (x.links.length : Int)) = false := by rw [HZn.out]; simp
  go_upto_region 14 with fail
  clear a0 a1 a2 a3 b0 b1 b2 b3 hpb hlb
  obtain ⟨la, hla⟩ : ∃ la, x.la = la := ⟨_, rfl⟩
  rw [hla]
  have HLA := Lib.hid hla
  clear hla
  have hsm : (x.links.length : Int) ≤ 9223372036854775807 := by have := HX.out.kw.at_.links.small; unfold maxLen at this; omega
  go_loopw [45] (fun i wr => ∃ k : Nat, i = .int .i64 (k : Int) ∧ k ≤ x.links.length ∧ Hid (Kq x z B 0 0 w wr)) (fun i _ => x.links.length - (intOf i).toNat)
  case atStart => exact ⟨0, rfl, Nat.zero_le _, HX⟩
  case round =>
  clear HX
  obtain ⟨k, rfl, hk, HX⟩ := hrel
  have hk0 : (0 : Int) ≤ (k : Int) := Int.natCast_nonneg k
  by_cases hlt : k < x.links.length
  · have hki : (k : Int) < (x.links.length : Int) := by omega
    have hkz : (k : Int) < (z.links.length : Int) := by rw [HZn.out]; omega
    obtain ⟨l, hl⟩ : ∃ l, x.links[k]? = some l := ⟨_, List.getElem?_eq_getElem hlt⟩
    have hlz : z.links[k]? = some (topL T l) := by rw [HZl.out, List.getElem?_map, hl]; rfl
    have ha : la = some ⟨x.lb, x.lo, none⟩ := HLA.out.symm.trans (HX.out.kw.at_.links.addr.resolve_left (by omega))
    subst ha
    have r0 : wr.cell? ⟨x.lb, x.lo + k * 5, none⟩ = some (.string l.name) := HX.out.kw.at_.links.cell k l hl 0 _ rfl
    have r1 : wr.cell? ⟨x.lb, x.lo + k * 5 + 1, none⟩ = some (.string l.frm) := HX.out.kw.at_.links.cell k l hl 1 _ rfl
    have r2 : wr.cell? ⟨x.lb, x.lo + k * 5 + 2, none⟩ = some (.string l.to_) := HX.out.kw.at_.links.cell k l hl 2 _ rfl
    have r3 : wr.cell? ⟨x.lb, x.lo + k * 5 + 3, none⟩ = some (.int .i64 l.delay) := HX.out.kw.at_.links.cell k l hl 3 _ rfl
    have r4 : wr.cell? ⟨x.lb, x.lo + k * 5 + 4, none⟩ = some (.int .i64 l.weight) := HX.out.kw.at_.links.cell k l hl 4 _ rfl
    obtain ⟨D, hD⟩ : ∃ D, T * l.delay = D := ⟨_, rfl⟩
    obtain ⟨M, hM⟩ : ∃ M, max l.weight 1 = M := ⟨_, rfl⟩
    have hwr : IntKind.i64.wrap (T * l.delay) = D := by
      have h1 := ln_delays HR.out l (List.mem_of_getElem? hl)
      have h2 : T = 1000 ∨ T = 1 := by rw [← HT.out]; split; exact .inl rfl; exact .inr rfl
      rw [IntKind.wrap_i64, ← hD]
      rcases h2 with rfl | rfl <;> omega
    have HXk := Lib.hid (HX.out.on (below_one wr (.cells #[.string l.name, .string l.frm, .string l.to_, .int .i64 l.delay, .int .i64 l.weight] 57)))
    have HXn := Lib.hid (heap_new (w := wr) (.cells #[.string l.name, .string l.frm, .string l.to_, .int .i64 l.delay, .int .i64 l.weight] 57) rfl)
    have HLz := Lib.hid hlz
    have HMx := Lib.hid hM
    have HDx := Lib.hid hD
    have HL := Lib.hid hl
    clear hl hlz hD hM
    go_upto_region 16 with fail
    clear r0 r1 r2 r3 r4 HX
    generalize wr.alloc (.cells #[.string l.name, .string l.frm, .string l.to_, .int .i64 l.delay, .int .i64 l.weight] 57) = wv at *
    generalize wr.heap.size = B7 at *
    have hza : z.la = some ⟨z.lb, z.lo, none⟩ := HXk.out.zat.links.addr.resolve_left (by rw [HZn.out]; omega)
    have b2 : wv.cell? ⟨B, 2, none⟩ = some (.slice (some ⟨z.lb, z.lo, none⟩) z.links.length z.lc) := by rw [← hza]; exact heap_cell HXk.out.zbox rfl
    have s1 : wv.cell? ⟨z.lb, z.lo + k * 5 + 1, none⟩ = some (.string l.frm) := HXk.out.zat.links.cell k _ HLz.out 1 _ rfl
    have s3 : wv.cell? ⟨z.lb, z.lo + k * 5 + 3, none⟩ = some (.int .i64 D) := by rw [← HDx.out]; exact HXk.out.zat.links.cell k _ HLz.out 3 _ rfl
    have s4 : wv.cell? ⟨z.lb, z.lo + k * 5 + 4, none⟩ = some (.int .i64 M) := by rw [← HMx.out]; exact HXk.out.zat.links.cell k _ HLz.out 4 _ rfl
    have n1 : wv.cell? ⟨B7, 1, none⟩ = some (.string l.frm) := heap_cell HXn.out rfl
    have n3 : wv.cell? ⟨B7, 3, none⟩ = some (.int .i64 l.delay) := heap_cell HXn.out rfl
    have n4 : wv.cell? ⟨B7, 4, none⟩ = some (.int .i64 l.weight) := heap_cell HXn.out rfl
    have e1 : (D != D) = false := by simp
    have e2 : (M != M) = false := by simp
    have e3 : (l.frm.toList != l.frm.toList) = false := by simp
    have m1 : (if l.weight < 1 then (1 : Int) else l.weight) = M := by have := HMx.out; split <;> omega
    clear hza
    go_quiet (fail)
    go_wp2
    go_roundw
    case rel => exact ⟨k + 1, by go_num, by omega, Lib.hid (HXk.out.on (below_drewN _ _))⟩
    case measure => simp [intOf]; omega
  · obtain rfl : k = x.links.length := by omega
    generalize wr = w6 at *
    have a0 : w6.cell? ⟨w.heap.size, 0, none⟩ = some (.int .i64 x.ver) := heap_cell HX.out.kw.box rfl
    have a1 : w6.cell? ⟨w.heap.size, 1, none⟩ = some (.slice x.pa x.procs.length x.pc) := heap_cell HX.out.kw.box rfl
    have a2 : w6.cell? ⟨w.heap.size, 2, none⟩ = some (.slice x.la x.links.length x.lc) := heap_cell HX.out.kw.box rfl
    have a3 : w6.cell? ⟨w.heap.size, 3, none⟩ = some (.slice x.ea x.events.length x.ec) := heap_cell HX.out.kw.box rfl
    rw [HLA.out] at a2
    go_wp2_with fail
    clear a0 a1 a2 a3
    have HCo := Lib.hid (rcopy_any HX.out.kw.at_ HSz.out)
    rw [HLA.out] at HCo
    refine HCo.out.mono ?_
    clear HCo
    rintro e w7 ⟨c, rfl, hc, hoc, hb⟩
    have HCm := Lib.hid hc
    have HT0 : Hid (Tm w6 c w7.heap.size 0 (w7.alloc (.cells #[.int .i64 c.ver, .slice c.pa c.procs.length c.pc, .slice c.la c.links.length c.lc, .slice c.ea c.events.length c.ec] 26))) := Lib.hid (by
      have h1 := hoc.on (below_one w7 (.cells #[.int .i64 c.ver, .slice c.pa c.procs.length c.pc, .slice c.la c.links.length c.lc, .slice c.ea c.events.length c.ec] 26))
      exact ⟨heap_new _ rfl, ⟨h1.procs, h1.po, h1.inner, h1.links, h1.lo, h1.events, h1.eo⟩, hb.trans ((below_one w7 _).mono hb.size)⟩)
    have hC : w6.heap.size ≤ w7.heap.size := hb.size
    clear hc hoc hb
    go_upto_region 20 with fail
    generalize w7.alloc (.cells #[.int .i64 c.ver, .slice c.pa c.procs.length c.pc, .slice c.la c.links.length c.lc, .slice c.ea c.events.length c.ec] 26) = w8 at *
    generalize w7.heap.size = C at *
    have hcl : c.procs.length = x.procs.length := by have := congrArg (fun m => m.procs.length) HCm.out; simpa [ModelV.m] using this
    have hcn : (c.procs.length : Int) ≤ 20000 := by have := HSz.out.procs; unfold ModelV.m at this; rw [List.length_map] at this; omega
    clear hcl
    have c1 : w8.cell? ⟨C, 1, none⟩ = some (.slice c.pa c.procs.length c.pc) := heap_cell HT0.out.box rfl
    go_wp2_with fail
    clear c1
    go_loopw [90] (fun i wr => ∃ j : Nat, i = .int .i64 (j : Int) ∧ j ≤ c.procs.length ∧ Hid (Tm w6 c C j wr)) (fun i _ => c.procs.length - (intOf i).toNat)
    case atStart => exact ⟨0, rfl, Nat.zero_le _, HT0⟩
    case round =>
    clear HT0
    obtain ⟨j, rfl, hj, HTm⟩ := hrel
    have hj0 : (0 : Int) ≤ (j : Int) := Int.natCast_nonneg j
    by_cases hlt2 : j < c.procs.length
    · have hji : (j : Int) < (c.procs.length : Int) := by omega
      obtain ⟨q, hq0⟩ : ∃ q, c.procs[j]? = some q := ⟨_, List.getElem?_eq_getElem hlt2⟩
      have hq : (upto topV j c.procs)[j]? = some q := by rw [upto_get hlt2]; exact hq0
      obtain ⟨ha, hbase, hrow⟩ := HTm.out.own.procs.own.resolve_left (fun e => by dsimp only at e; rw [e] at hq; simp at hq)
      dsimp only at ha hbase hrow
      have c1 : wr.drew.cell? ⟨C, 1, none⟩ = some (.slice (some ⟨c.pb, 0, none⟩) c.procs.length c.pc) := by rw [← ha]; exact heap_cell HTm.out.box rfl
      have r1 : wr.drew.cell? ⟨c.pb, j * 4 + 1, none⟩ = some (.int .i64 q.p.weight) := hrow.cell hq (r := 1) rfl
      have f1 : wr.drew.frozen? ⟨c.pb, j * 4 + 1, none⟩ = false := hrow.frozen _
      obtain ⟨M, hM⟩ : ∃ M, max q.p.weight 1 = M := ⟨_, rfl⟩
      have m1 : (if q.p.weight < 1 then (1 : Int) else q.p.weight) = M := by rw [← hM]; split <;> omega
      have HNx : Hid (Tm w6 c C (j + 1) (wr.setCell ⟨c.pb, j * 4 + 1, none⟩ (.int .i64 M))) := Lib.hid (by
        have hset := HTm.out.own.setP (k := j) (p := q) hq M
        dsimp only at hset
        rw [show ({ q with p := { q.p with weight := M } } : ProcV) = topV q by unfold topV topP; rw [hM], upto_set hq0] at hset
        have hT := Turned.one wr c.pb (j * 4 + 1) (.int .i64 M)
        refine ⟨hT.old HTm.out.box (fun e => ?_), hset, HTm.out.low.trans (Turned.to_b hT (B := w6.heap.size) (fun k hk e => by omega) HTm.out.low.size)⟩
        obtain ⟨cur, hc, _⟩ := hrow
        rw [← e, HTm.out.box] at hc
        cases hc)
      clear hrow hq hq0 ha hbase hM HTm
      go_upto_region 23 with fail
      go_still_tail 12, (by kernel_rfl)
      change wpList _ _ _ _ _ wr.drew
      go_wp2
      go_roundw
      case rel => exact ⟨j + 1, by go_num, by omega, Lib.hid (HNx.out.on ((Below.refl _ _).drew))⟩
      case measure => simp [intOf]; omega
    · obtain rfl : j = c.procs.length := by omega
      have HXr := Lib.hid (HX.out.on HTm.out.low)
      have b2 : wr.cell? ⟨B, 2, none⟩ = some (.slice z.la z.links.length z.lc) := heap_cell HXr.out.zbox rfl
      have g0 := heap_frozen HTm.out.box 0
      have g2 := heap_frozen HTm.out.box 2
      have k0 : wr.cell? ⟨C, 0, none⟩ = some (.int .i64 c.ver) := heap_cell HTm.out.box rfl
      have k2 : wr.cell? ⟨C, 2, none⟩ = some (.slice c.la c.links.length c.lc) := heap_cell HTm.out.box rfl
      go_upto_region 26 with fail
      clear b2 g0 g2 k0 k2
      have hbx : ((wr.setCell ⟨C, 2, none⟩ (.slice z.la z.links.length z.lc)).setCell ⟨C, 0, none⟩ (.int .i64 3)).heap[C]? = some (.cells #[.int .i64 3, .slice c.pa c.procs.length c.pc, .slice z.la z.links.length z.lc, .slice c.ea c.events.length c.ec] 26 (0, 0)) := heap_set (heap_set HTm.out.box 2 _) 0 _
      have hT : Turned (fun k => k = C) wr ((wr.setCell ⟨C, 2, none⟩ (.slice z.la z.links.length z.lc)).setCell ⟨C, 0, none⟩ (.int .i64 3)) := Turned.set' (Turned.set' (Turned.refl' (fun k => k = C) wr) rfl 2 _) rfl 0 _
      have hown := HTm.out.own.turned hT (fun b cur t hc hl e => by rw [e, HTm.out.box] at hc; cases hc; cases hl)
      have hlow := HTm.out.low.trans (Turned.to_b hT (B := w6.heap.size) (fun k hk e => by omega) HTm.out.low.size)
      clear HTm HXr hT
      generalize (wr.setCell ⟨C, 2, none⟩ (.slice z.la z.links.length z.lc)).setCell ⟨C, 0, none⟩ (.int .i64 3) = w9 at *
      have hX9 := HX.out.on hlow
      have HLw := Lib.hid hX9.kw.low
      have hym : (⟨3, upto topV c.procs.length c.procs, z.links, c.events, c.pa, c.pb, c.po, c.pc, z.la, z.lb, z.lo, z.lc, c.ea, c.eb, c.eo, c.ec⟩ : ModelV).m = z.m := by
        have h1 := HZ0.out
        have h2 := HCm.out
        unfold ModelV.m at h1 h2 ⊢
        dsimp only
        rw [upto_all, List.map_map]
        have e1 : c.procs.map (fun y => y.p) = x.procs.map (fun y => y.p) := congrArg ModelM.procs h2
        have e2 : c.events = x.events := congrArg ModelM.events h2
        have e3 : z.ver = 3 := congrArg ModelM.ver h1
        have e4 : z.procs.map (fun y => y.p) = (x.procs.map (fun y => y.p)).map topP := congrArg ModelM.procs h1
        have e5 : z.events = x.events := congrArg ModelM.events h1
        rw [e3, e4, e5, e2, ← e1, List.map_map]
        rfl
      have HS := rsame_t (w := w9) (x := ⟨3, upto topV c.procs.length c.procs, z.links, c.events, c.pa, c.pb, c.po, c.pc, z.la, z.lb, z.lo, z.lc, c.ea, c.eb, c.eo, c.ec⟩) ⟨hown.at_.procs, hown.at_.inner, hX9.zat.links, hown.at_.events⟩ hX9.zat hym
      dsimp only at HS
      rw [upto_length (Nat.le_refl _)] at HS
      have HS := Lib.hid HS
      have k0 : w9.cell? ⟨C, 0, none⟩ = some (.int .i64 3) := heap_cell hbx rfl
      have k1 : w9.cell? ⟨C, 1, none⟩ = some (.slice c.pa c.procs.length c.pc) := heap_cell hbx rfl
      have k2 : w9.cell? ⟨C, 2, none⟩ = some (.slice z.la z.links.length z.lc) := heap_cell hbx rfl
      have k3 : w9.cell? ⟨C, 3, none⟩ = some (.slice c.ea c.events.length c.ec) := heap_cell hbx rfl
      have b0 : w9.cell? ⟨B, 0, none⟩ = some (.int .i64 z.ver) := heap_cell hX9.zbox rfl
      have b1 : w9.cell? ⟨B, 1, none⟩ = some (.slice z.pa z.procs.length z.pc) := heap_cell hX9.zbox rfl
      have b2 : w9.cell? ⟨B, 2, none⟩ = some (.slice z.la z.links.length z.lc) := heap_cell hX9.zbox rfl
      have b3 : w9.cell? ⟨B, 3, none⟩ = some (.slice z.ea z.events.length z.ec) := heap_cell hX9.zbox rfl
      clear hbx hown hlow hX9 hym
      go_wp2_with fail
      refine HS.out.mono ?_
      rintro e w10 ⟨rfl, hb⟩
      clear k0 k1 k2 k3 b0 b1 b2 b3 HS
      have HEn := Lib.hid hb
      clear hb
      go_wp2
      go_ret
      exact ⟨rfl, HLw.out.trans (HEn.out.mono HLw.out.size)⟩
end Go.Proofs.Ytgnlehenbdcgmaa.Md
