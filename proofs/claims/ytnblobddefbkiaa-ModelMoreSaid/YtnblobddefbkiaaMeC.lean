/- The walk of ModelMore. -/
import Derived.Test.YtnblobddefbkiaaMeA
import Derived.Test.YtnblobddefbkiaaMeB
import Derived.Test.YtnblobddefbkiaaMeZ
set_option linter.unusedVariables false
set_option linter.unusedSectionVars false
set_option linter.unusedSimpArgs false
namespace Go.Proofs.Ytnblobddefbkiaa.Md
open Go.RowKit Go.Shelf

theorem hszP (x : ProcV) : (encP x).length = 4 := rfl
theorem one_P (L : List ProcV) : ∀ u ∈ L.flatMap encP, u.oneCell' = true := fun u hu => by
  obtain ⟨y, _, hy⟩ := List.mem_flatMap.1 hu
  simp [encP, ProcV.vv, ProcV.sv] at hy
  rcases hy with rfl | rfl | rfl | rfl <;> rfl
def newV (nm : ByteArray) : ProcV := ⟨⟨nm, 1, [], []⟩, none, 0, 0, 0, none, 0, 0, 0⟩
/-- A model beside the one that was handed in, whose processes lie in a row of its own, one more. -/
structure TuP (x : ModelV) (w : World) (Q g cap : Nat) (nm : ByteArray) (W : World) : Prop where
  boxA : W.heap[w.heap.size]? = some (.cells #[.int .i64 x.ver, .slice x.pa x.procs.length x.pc, .slice x.la x.links.length x.lc, .slice x.ea x.events.length x.ec] 26 (0, 0))
  boxQ : W.heap[Q]? = some (.cells #[.int .i64 x.ver, .slice (some ⟨g, 0, none⟩) (x.procs.length + 1) cap, .slice x.la x.links.length x.lc, .slice x.ea x.events.length x.ec] 26 (0, 0))
  row : RowC encP 4 W g 39 (x.procs ++ [newV nm])
  low : Below w.heap.size w W
  ord : w.heap.size < Q ∧ Q < g
theorem TuP.on {x : ModelV} {w : World} {Q g cap : Nat} {nm : ByteArray} {W W' : World} (h : TuP x w Q g cap nm W) (hb : Below W.heap.size W W') : TuP x w Q g cap nm W' :=
  ⟨heap_below h.boxA hb (heap_lt h.boxA), heap_below h.boxQ hb (heap_lt h.boxQ), h.row.on hb, h.low.trans (hb.mono h.low.size), h.ord⟩
theorem TuP.made {x : ModelV} {w W5 : World} {Q g cap : Nat} {nm : ByteArray} (ha5 : W5.heap[w.heap.size]? = some (.cells #[.int .i64 x.ver, .slice x.pa x.procs.length x.pc, .slice x.la x.links.length x.lc, .slice x.ea x.events.length x.ec] 26 (0, 0))) (hq5 : W5.heap[Q]? = some (.cells #[.int .i64 x.ver, .slice x.pa x.procs.length x.pc, .slice x.la x.links.length x.lc, .slice x.ea x.events.length x.ec] 26 (0, 0))) (hrc : RowC encP 4 W5 g 39 (x.procs ++ [newV nm])) (hb5 : Below w.heap.size w W5) (h1 : w.heap.size < Q) (h2 : Q < g) : TuP x w Q g cap nm (W5.setCell ⟨Q, 1, none⟩ (.slice (some ⟨g, 0, none⟩) (x.procs.length + 1) cap)) :=
  ⟨heap_other ha5 (by omega) 1 _, heap_set hq5 1 (.slice (some ⟨g, 0, none⟩) (x.procs.length + 1) cap), hrc.other (by omega) 1 _, hb5.setCell (p := ⟨Q, 1, none⟩) (by show w.heap.size ≤ Q; omega) _, ⟨h1, h2⟩⟩
theorem TuP.set {x : ModelV} {w : World} {Q g cap : Nat} {nm : ByteArray} {W : World} (h : TuP x w Q g cap nm W) (nm' : ByteArray) : TuP x w Q g cap nm' (W.setCell ⟨g, x.procs.length * 4, none⟩ (.string nm')) :=
  ⟨heap_other h.boxA (by have := h.ord; omega) _ _, heap_other h.boxQ (by have := h.ord; omega) _ _, by
    have := h.row.set hszP (k := x.procs.length) (x := newV nm) (x' := newV nm') (by rw [List.getElem?_append_right (Nat.le_refl _)]; simp) (q := 0) (by decide) (v := .string nm') (fun r u hu => by
      match r, hu with
      | 0, hu => exact .inl ⟨rfl, by simpa [encP, newV] using hu.symm⟩
      | 1, hu => exact .inr ⟨by decide, hu⟩
      | 2, hu => exact .inr ⟨by decide, hu⟩
      | 3, hu => exact .inr ⟨by decide, hu⟩
      | r + 4, hu => simp [encP] at hu)
    rw [Nat.add_zero, List.set_append_right _ _ (Nat.le_refl _)] at this
    simpa using this, h.low.setCell (p := ⟨g, x.procs.length * 4, none⟩) (by show w.heap.size ≤ g; have := h.ord; omega) _, h.ord⟩
def moreV (x : ModelV) (g cap : Nat) (nm : ByteArray) : ModelV := { x with procs := x.procs ++ [newV nm], pa := some ⟨g, 0, none⟩, pb := g, po := 0, pc := cap }
theorem moreV_m (x : ModelV) (g cap : Nat) (nm : ByteArray) : (moreV x g cap nm).m = moreM x.m nm := by unfold moreV ModelV.m moreM; simp [newV]
theorem TuP.at_ {x : ModelV} {w : World} {Q g cap : Nat} {nm : ByteArray} {W : World} (h : TuP x w Q g cap nm W) (hm : ModelAt w.heap.size w x) (hn : nm.size ≤ maxLen) (hs : x.procs.length ≤ 100) : ModelAt W.heap.size W (moreV x g cap nm) := by
  have hx := hm.on h.low
  refine ⟨h.row.rows (by rw [List.length_append]; unfold maxLen; simp; omega) (fun p hp => ?_), fun p hp => ?_, hx.links, hx.events⟩
  · rcases List.mem_append.1 hp with hp | hp
    · exact hx.procs.fits p hp
    · rw [List.mem_singleton] at hp
      subst hp
      exact hn
  · rcases List.mem_append.1 hp with hp | hp
    · exact hx.inner p hp
    · rw [List.mem_singleton] at hp
      subst hp
      exact ⟨RowsAt.nil rfl rfl, RowsAt.nil rfl rfl⟩
theorem TuP.check {x : ModelV} {w : World} {Q g cap : Nat} {nm : ByteArray} {W : World} (h : TuP x w Q g cap nm W) (hm : ModelAt w.heap.size w x) (hn : nm.size ≤ maxLen) (hs : x.procs.length ≤ 100) {W0 : World} (hW0 : Below W0.heap.size W0 W) {e a : Int} (he : mdE (moreM x.m nm) = (e, a)) :
    Calls Try.prog 15 #[.agg #[.int .i64 x.ver, .slice (some ⟨g, 0, none⟩) (x.procs.length + 1) cap, .slice x.la x.links.length x.lc, .slice x.ea x.events.length x.ec]] W fun ee w' => ee = .returned (.agg #[.int .i64 e, .int .i64 a]) ∧ Hid (Below W0.heap.size W0 w') := by
  have hc := check_any (h.at_ hm hn hs)
  rw [moreV_m, he] at hc
  unfold moreV at hc
  dsimp only at hc
  rw [List.length_append, List.length_singleton] at hc
  exact hc.mono fun _ _ hh => ⟨hh.1, Lib.hid (hW0.trans (hh.2.mono hW0.size))⟩
theorem TuP.find {x : ModelV} {w : World} {Q g cap : Nat} {nm : ByteArray} {W : World} (h : TuP x w Q g cap nm W) (hm : ModelAt w.heap.size w x) (hn : nm.size ≤ maxLen) (hs : x.procs.length ≤ 100) {W0 : World} (hW0 : Below W0.heap.size W0 W) {y : ByteArray} {a : Int} (he : plcI (nmsP (moreM x.m nm)) y = a) :
    Calls Try.prog 20 #[.agg #[.int .i64 x.ver, .slice (some ⟨g, 0, none⟩) (x.procs.length + 1) cap, .slice x.la x.links.length x.lc, .slice x.ea x.events.length x.ec], .string y] W fun ee w' => ee = .returned (.int .i64 a) ∧ Hid (Below W0.heap.size W0 w') := by
  have hc := proc_at (h.at_ hm hn hs) y
  rw [moreV_m, he] at hc
  unfold moreV at hc
  dsimp only at hc
  rw [List.length_append, List.length_singleton] at hc
  exact hc.mono fun _ _ hh => ⟨hh.1, Lib.hid (hW0.trans (hh.2.mono hW0.size))⟩
set_option maxRecDepth 100000 in
set_option maxHeartbeats 4000000 in
theorem walk_ModelMore (x : ModelV) (i : Int) (w : World) (h : ModelAt w.heap.size w x) (hw : (Lit.int .i64 x.ver).wf = true) (hwi : (Lit.int .i64 i).wf = true) : Calls Try.prog 6 #[.agg #[.int .i64 x.ver, .slice x.pa x.procs.length x.pc, .slice x.la x.links.length x.lc, .slice x.ea x.events.length x.ec], .int .i64 i] w fun e w' => e = .returned (.bool true) ∧ Below w.heap.size w w' := by
  have HM := Lib.hid h
  have HB := Lib.hid (below_one w (.cells #[.int .i64 x.ver, .slice x.pa x.procs.length x.pc, .slice x.la x.links.length x.lc, .slice x.ea x.events.length x.ec] 26))
  have HX : Hid ((w.alloc (.cells #[.int .i64 x.ver, .slice x.pa x.procs.length x.pc, .slice x.la x.links.length x.lc, .slice x.ea x.events.length x.ec] 26)).heap[w.heap.size]? = some (.cells #[.int .i64 x.ver, .slice x.pa x.procs.length x.pc, .slice x.la x.links.length x.lc, .slice x.ea x.events.length x.ec] 26 (0, 0))) := Lib.hid (heap_new _ rfl)
  clear h hw hwi
  obtain ⟨c, hc255, hand⟩ : ∃ c : Nat, c ≤ 255 ∧ bits .and .i64 i 255 = (c : Int) := ⟨(i % 256).toNat, by omega, by rw [and_255]; omega⟩
  go_enter Try.func6, Try.ntmps6
  go_wp2_with fail
  generalize w.alloc (.cells #[.int .i64 x.ver, .slice x.pa x.procs.length x.pc, .slice x.la x.links.length x.lc, .slice x.ea x.events.length x.ec] 26) = w1 at *
  refine (alive_any _).mono ?_
  rintro e w2 ⟨rfl, hb⟩
  replace HX := Lib.hid (heap_below HX.out hb (heap_lt HX.out))
  replace HB := Lib.hid (HB.out.trans (hb.mono HB.out.size))
  clear hb
  have c0 : w2.cell? ⟨w.heap.size, 0, none⟩ = some (.int .i64 x.ver) := heap_cell HX.out rfl
  have c1 : w2.cell? ⟨w.heap.size, 1, none⟩ = some (.slice x.pa x.procs.length x.pc) := heap_cell HX.out rfl
  have c2 : w2.cell? ⟨w.heap.size, 2, none⟩ = some (.slice x.la x.links.length x.lc) := heap_cell HX.out rfl
  have c3 : w2.cell? ⟨w.heap.size, 3, none⟩ = some (.slice x.ea x.events.length x.ec) := heap_cell HX.out rfl
  go_wp2_with fail
  refine (few_any (HM.out.on HB.out)).mono ?_
  rintro e w3 ⟨rfl, hb⟩
  replace HX := Lib.hid (heap_below HX.out hb (heap_lt HX.out))
  replace HB := Lib.hid (HB.out.trans (hb.mono HB.out.size))
  clear hb c0 c1 c2 c3
  obtain ⟨b, hb⟩ : ∃ b, fewB x.m = b := ⟨_, rfl⟩
  rw [hb]
  cases b with
  | false =>
    clear hb
    go_wp2
    go_ret
    exact ⟨rfl, HB.out⟩
  | true =>
    have HF := Lib.hid hb
    clear hb
    have c0 : w3.cell? ⟨w.heap.size, 0, none⟩ = some (.int .i64 x.ver) := heap_cell HX.out rfl
    have c1 : w3.cell? ⟨w.heap.size, 1, none⟩ = some (.slice x.pa x.procs.length x.pc) := heap_cell HX.out rfl
    have c2 : w3.cell? ⟨w.heap.size, 2, none⟩ = some (.slice x.la x.links.length x.lc) := heap_cell HX.out rfl
    have c3 : w3.cell? ⟨w.heap.size, 3, none⟩ = some (.slice x.ea x.events.length x.ec) := heap_cell HX.out rfl
    go_wp2_with fail
    refine (check_any (HM.out.on HB.out)).mono ?_
    rintro e w4 ⟨rfl, hb⟩
    replace HX := Lib.hid (heap_below HX.out hb (heap_lt HX.out))
    replace HB := Lib.hid (HB.out.trans (hb.mono HB.out.size))
    clear hb c0 c1 c2 c3
    obtain ⟨E, hE⟩ : ∃ E, mdE x.m = E := ⟨_, rfl⟩
    rw [hE]
    obtain ⟨e1, e2⟩ := E
    have hfd : ∀ W, (Instr.field 33 (.agg #[.int .i64 e1, .int .i64 e2]) 0).run Try.prog W = .ok (.int .i64 e1) W := fun W => field0 e1 e2 W
    by_cases he : e1 = 0
    · have hR : Right x.m := right_of (by rw [hE]; exact he)
      subst he
      have HR := Lib.hid hR
      clear hR hE
      have c0 : w4.cell? ⟨w.heap.size, 0, none⟩ = some (.int .i64 x.ver) := heap_cell HX.out rfl
      have c1 : w4.cell? ⟨w.heap.size, 1, none⟩ = some (.slice x.pa x.procs.length x.pc) := heap_cell HX.out rfl
      have c2 : w4.cell? ⟨w.heap.size, 2, none⟩ = some (.slice x.la x.links.length x.lc) := heap_cell HX.out rfl
      have c3 : w4.cell? ⟨w.heap.size, 3, none⟩ = some (.slice x.ea x.events.length x.ec) := heap_cell HX.out rfl
      have hltA := heap_lt HX.out
      have hlt1 : w.heap.size < w4.heap.size + 1 := by omega
      have hne : ¬ w.heap.size = w4.heap.size := by omega
      obtain ⟨i0, hi0, hz0, hz1, hz2⟩ := info_parts Try.infoP
      have HI := Lib.hid hi0
      have HZ0 := Lib.hid hz0
      have HZ1 := Lib.hid hz1
      have HZ2 := Lib.hid hz2
      have hxat := HM.out.on HB.out
      have hp12 : x.procs.length ≤ 12 := by
        have := HF.out
        unfold fewB ModelV.m at this
        simp at this
        omega
      have HG0 : Hid (Gath ((w4.alloc (.cells #[.int .i64 x.ver, .slice x.pa x.procs.length x.pc, .slice x.la x.links.length x.lc, .slice x.ea x.events.length x.ec] 26)).alloc (.cells #[] 39)) (w4.heap.size + 1 + 1) 39 4 (.slice (some ⟨w4.heap.size + 1, 0, none⟩) 0 0) 0 []) := Lib.hid (.inl ⟨rfl, rfl, _, rfl⟩)
      have HBq := Lib.hid (heap_alloc (heap_new (w := w4) (.cells #[.int .i64 x.ver, .slice x.pa x.procs.length x.pc, .slice x.la x.links.length x.lc, .slice x.ea x.events.length x.ec] 26) rfl) (.cells #[] 39))
      have HBa := Lib.hid (heap_alloc (heap_alloc HX.out (.cells #[.int .i64 x.ver, .slice x.pa x.procs.length x.pc, .slice x.la x.links.length x.lc, .slice x.ea x.events.length x.ec] 26)) (.cells #[] 39))
      have HBb := Lib.hid (HB.out.trans (((below_one w4 (.cells #[.int .i64 x.ver, .slice x.pa x.procs.length x.pc, .slice x.la x.links.length x.lc, .slice x.ea x.events.length x.ec] 26)).trans ((below_one _ (.cells #[] 39)).mono (by simp))).mono HB.out.size))
      clear hi0 hz0 hz1 hz2
      by_cases hl0 : 0 < x.procs.length
      · have HNw : Hid (∀ j u, (x.procs.flatMap encP)[j]? = some u → ((w4.alloc (.cells #[.int .i64 x.ver, .slice x.pa x.procs.length x.pc, .slice x.la x.links.length x.lc, .slice x.ea x.events.length x.ec] 26)).alloc (.cells #[] 39)).cell? ((⟨x.pb, x.po, none⟩ : Addr).add j) = some u) := Lib.hid (rows_cells hszP ((hxat.procs.kept ((below_one w4 (.cells #[.int .i64 x.ver, .slice x.pa x.procs.length x.pc, .slice x.la x.links.length x.lc, .slice x.ea x.events.length x.ec] 26)).trans ((below_one _ (.cells #[] 39)).mono (by simp))) (Nat.le_refl _))))
        have HLa := Lib.hid (hxat.procs.addr.resolve_left (by omega))
        have hli : (0 : Int) < (x.procs.length : Int) := by omega
        clear hxat
        go_upto_region 6 with fail
        have HFl : Hid (x.procs.flatMap encP ++ [Value.string ⟨#[102, 114, 101, 115, 104, 95, 111, 110, 101]⟩, .int .i64 1, .slice none 0 0, .slice none 0 0] = (x.procs ++ [newV freshN]).flatMap encP) := Lib.hid (by rw [List.flatMap_append]; rfl)
        go_wp2_with (first | (at_builtin; refine wpList_append_gathP _ rfl _ _ 22 rfl (w4.heap.size + 1 + 1) 39 i0 (.agg zP) 4 72 Try.underlying22 HI.out HZ0.out HZ1.out HZ2.out rfl (by decide) _ _ _ rfl HG0.out ⟨x.pb, x.po, none⟩ x.procs.length x.pc (x.procs.flatMap encP) (by rw [← HLa.out]; rfl) (flat_len hszP _) HNw.out (one_P _) hl0 (by unfold maxLen; omega) (by omega) (by simp) ?_; intro v' w5 row hown hg hrow; rw [Nat.zero_add, List.nil_append] at hown; have hrow' : ∀ r, row = some r → w4.heap.size + 1 + 1 ≤ r := (fun r e => (hrow r e).2); have HQ5 := Lib.hid (heap_kept HBq.out hg (fun e => by have := hrow' _ e.symm; omega)); have HA5 := Lib.hid (heap_kept HBa.out hg (fun e => by have := hrow' _ e.symm; omega)); have HB5 := Lib.hid (HBb.out.grown hg (by simp; omega) (fun r e => by have := hrow' r e; omega)); obtain ⟨g1, cap1, rfl, hgb1, hrc1⟩ := rowc_owned hszP hown rfl hl0; have HO5 := Lib.hid hown; have hs5 := hg.size; rw [World.size_alloc, World.size_alloc] at hs5; clear hown hg hrow hrow' hrc1) | (at_builtin; refine wpList_append_gathP _ rfl _ _ 22 rfl (w4.heap.size + 1 + 1) 39 i0 (.agg zP) 4 72 Try.underlying22 HI.out HZ0.out HZ1.out HZ2.out rfl (by decide) _ _ _ rfl (Gath.alloc (Or.inr HO5.out) _) ⟨w5.heap.size, 0, none⟩ 1 1 [.string ⟨#[102, 114, 101, 115, 104, 95, 111, 110, 101]⟩, .int .i64 1, .slice none 0 0, .slice none 0 0] rfl rfl (cell_rowM w5 _ 39) (fun u hu => by simp at hu; rcases hu with rfl | rfl | rfl <;> rfl) (by decide) (by unfold maxLen; omega) (by omega) (by simp; omega) ?_; intro v2 w6 row hown hg hrow; rw [HFl.out] at hown; have hrow' : ∀ r, row = some r → w4.heap.size + 1 + 1 ≤ r := (fun r e => (hrow r e).2); obtain ⟨g, cap, rfl, hgb, hrc⟩ := rowc_owned hszP hown (by simp) (by omega); have hq6 := heap_kept (heap_alloc HQ5.out _) hg (fun e => by have := hrow' _ e.symm; omega); have ha6 := heap_kept (heap_alloc HA5.out _) hg (fun e => by have := hrow' _ e.symm; omega); have hb6 := (HB5.out.alloc HB5.out.size _).grown hg (by simp; omega) (fun r e => by have := hrow' r e; omega); have q1 : w6.cell? ⟨w4.heap.size, 1, none⟩ = some (.slice x.pa x.procs.length x.pc) := heap_cell hq6 rfl; have f1 := heap_frozen hq6 1; have d0 : w6.cell? ⟨w.heap.size, 0, none⟩ = some (.int .i64 x.ver) := heap_cell ha6 rfl; have d1 : w6.cell? ⟨w.heap.size, 1, none⟩ = some (.slice x.pa x.procs.length x.pc) := heap_cell ha6 rfl; have d2 : w6.cell? ⟨w.heap.size, 2, none⟩ = some (.slice x.la x.links.length x.lc) := heap_cell ha6 rfl; have d3 : w6.cell? ⟨w.heap.size, 3, none⟩ = some (.slice x.ea x.events.length x.ec) := heap_cell ha6 rfl; have hT := TuP.made (cap := cap) (nm := freshN) ha6 hq6 hrc hb6 hltA (by omega); clear hown hg hrow hrow' hq6 ha6 hb6 hrc))
        generalize w6.setCell ⟨w4.heap.size, 1, none⟩ (.slice (some ⟨g, 0, none⟩) (x.procs.length + 1) cap) = W7 at *
        have hPc := proc_at (HM.out.on hT.low) freshN
        have HT7 := Lib.hid hT
        refine Calls.mono hPc ?_
        clear hPc hT q1 f1 d0 d1 d2 d3 c0 c1 c2 c3
        rintro e W8 ⟨rfl, hb⟩
        replace HT7 := Lib.hid (HT7.out.on hb)
        clear hb
        cases hfr : fstP (nmsP x.m) freshN with
        | none =>
          have hm := more_fresh HR.out hfr chk_fresh (by unfold ModelV.m; simp; omega)
          rw [plc_neg hfr]
          have b0 : W8.cell? ⟨w4.heap.size, 0, none⟩ = some (.int .i64 x.ver) := heap_cell HT7.out.boxQ rfl
          have b1 : W8.cell? ⟨w4.heap.size, 1, none⟩ = some (.slice (some ⟨g, 0, none⟩) (x.procs.length + 1) cap) := heap_cell HT7.out.boxQ rfl
          have b2 : W8.cell? ⟨w4.heap.size, 2, none⟩ = some (.slice x.la x.links.length x.lc) := heap_cell HT7.out.boxQ rfl
          have b3 : W8.cell? ⟨w4.heap.size, 3, none⟩ = some (.slice x.ea x.events.length x.ec) := heap_cell HT7.out.boxQ rfl
          have HCf := Lib.hid (HT7.out.check HM.out (nm := freshN) (by decide) (by omega) (Below.refl _ _) hm)
          clear hm hfr
          go_wp2_with fail
          refine HCf.out.mono ?_
          clear HCf b0 b1 b2 b3
          rintro e U ⟨rfl, hb⟩
          replace HT7 := Lib.hid (HT7.out.on hb.out)
          clear hb
          have a1 : U.cell? ⟨w.heap.size, 1, none⟩ = some (.slice (some ⟨x.pb, x.po, none⟩) x.procs.length x.pc) := by rw [← HLa.out]; exact heap_cell HT7.out.boxA rfl
          obtain ⟨k, hk, hrem⟩ : ∃ k : Nat, k < x.procs.length ∧ Int.tmod (c : Int) (x.procs.length : Int) = (k : Int) := ⟨c % x.procs.length, Nat.mod_lt _ hl0, by rw [Int.tmod_eq_emod_of_nonneg (by omega)]; omega⟩
          have hn0 : ¬ (x.procs.length : Int) = 0 := by omega
          have hk0 : (0 : Int) ≤ (k : Int) := Int.natCast_nonneg k
          have hki : (k : Int) < (x.procs.length : Int) := by omega
          have hnb : (x.procs.length : Int) < (x.procs.length : Int) + 1 := by omega
          have hnn : (0 : Int) ≤ (x.procs.length : Int) := by omega
          have hni : (x.procs.length : Int) ≤ 12 := by omega
          obtain ⟨p, hp⟩ : ∃ p, x.procs[k]? = some p := ⟨_, List.getElem?_eq_getElem hk⟩
          have hpm : x.m.procs[k]? = some p.p := by unfold ModelV.m; rw [List.getElem?_map, hp]; rfl
          have hfit : p.p.name.size ≤ maxLen := HM.out.procs.fits p (List.mem_of_getElem? hp)
          have hnm : U.cell? ⟨x.pb, x.po + k * 4, none⟩ = some (.string p.p.name) := (HM.out.on HT7.out.low).procs.cell k p hp 0 _ rfl
          have hpbl : x.pb < U.heap.size := (HM.out.on HT7.out.low).procs.below.resolve_left (by omega)
          have hpbw : x.pb < w.heap.size := HM.out.procs.below.resolve_left (by omega)
          have hd : (U.drew.heap[w4.heap.size]? = some (.cells #[.int .i64 x.ver, .slice (some ⟨g, 0, none⟩) (x.procs.length + 1) cap, .slice x.la x.links.length x.lc, .slice x.ea x.events.length x.ec] 26 (0, 0)) ∧ U.drew.heap[w.heap.size]? = some (.cells #[.int .i64 x.ver, .slice x.pa x.procs.length x.pc, .slice x.la x.links.length x.lc, .slice x.ea x.events.length x.ec] 26 (0, 0)) ∧ U.drew.cell? ⟨x.pb, x.po + k * 4, none⟩ = some (.string p.p.name)) := ⟨HT7.out.boxQ, HT7.out.boxA, hnm⟩
          have hgw : w.heap.size < g := by have := HT7.out.ord; omega
          have hgQ : w4.heap.size < g := HT7.out.ord.2
          go_upto_region 12 with fail
          refine (wpIn_wide (n := 3)).1 ?_
          refine region_T_calm (fun X => X.heap[w4.heap.size]? = some (.cells #[.int .i64 x.ver, .slice (some ⟨g, 0, none⟩) (x.procs.length + 1) cap, .slice x.la x.links.length x.lc, .slice x.ea x.events.length x.ec] 26 (0, 0)) ∧ X.heap[w.heap.size]? = some (.cells #[.int .i64 x.ver, .slice x.pa x.procs.length x.pc, .slice x.la x.links.length x.lc, .slice x.ea x.events.length x.ec] 26 (0, 0)) ∧ X.cell? ⟨x.pb, x.po + k * 4, none⟩ = some (.string p.p.name)) (fun _ => true) rfl (by kernel_rfl) ?_
          change AnyT _ _ _ _ _ _ _ _ 14 _ _ (World.drew _)
          refine AnyT.take (i := 0) (v := .pointer (some ⟨w4.heap.size, 1, none⟩)) rfl rfl (by kernel_rfl) (by kernel_rfl) (by kernel_rfl) (by kernel_rfl) (by kernel_rfl) (fun _ _ _ h => h) (by kernel_rfl) (fun X hX => by go_simp) (fun _ => rfl) hd ?_
          try simp only [List.getElem_toArray, List.getElem_cons_zero, List.getElem_cons_succ, Act.put, List.setIfInBounds_toArray, List.set_cons_zero, List.set_cons_succ]
          refine AnyT.take (i := 1) (v := .slice (some ⟨g, 0, none⟩) (x.procs.length + 1) cap) rfl rfl (by kernel_rfl) (by kernel_rfl) (by kernel_rfl) (by kernel_rfl) (by kernel_rfl) (fun _ _ _ h => h) (by kernel_rfl) (fun X hX => by have c := heap_cell hX.1 (i := 1) rfl; simp only [List.getElem_toArray, List.getElem_cons_zero, List.getElem_cons_succ] at c; go_simp) (fun _ => rfl) hd ?_
          try simp only [List.getElem_toArray, List.getElem_cons_zero, List.getElem_cons_succ, Act.put, List.setIfInBounds_toArray, List.set_cons_zero, List.set_cons_succ]
          refine AnyT.take (i := 2) (v := .pointer (some ⟨w.heap.size, 1, none⟩)) rfl rfl (by kernel_rfl) (by kernel_rfl) (by kernel_rfl) (by kernel_rfl) (by kernel_rfl) (fun _ _ _ h => h) (by kernel_rfl) (fun X hX => by go_simp) (fun _ => rfl) hd ?_
          try simp only [List.getElem_toArray, List.getElem_cons_zero, List.getElem_cons_succ, Act.put, List.setIfInBounds_toArray, List.set_cons_zero, List.set_cons_succ]
          refine AnyT.take (i := 3) (v := .slice (some ⟨x.pb, x.po, none⟩) x.procs.length x.pc) rfl rfl (by kernel_rfl) (by kernel_rfl) (by kernel_rfl) (by kernel_rfl) (by kernel_rfl) (fun _ _ _ h => h) (by kernel_rfl) (fun X hX => by have c := heap_cell hX.2.1 (i := 1) rfl; simp only [List.getElem_toArray, List.getElem_cons_zero, List.getElem_cons_succ] at c; rw [HLa.out] at c; go_simp) (fun _ => rfl) hd ?_
          try simp only [List.getElem_toArray, List.getElem_cons_zero, List.getElem_cons_succ, Act.put, List.setIfInBounds_toArray, List.set_cons_zero, List.set_cons_succ]
          refine AnyT.take (i := 4) (v := .int .i64 (x.procs.length : Int)) rfl rfl (by kernel_rfl) (by kernel_rfl) (by kernel_rfl) (by kernel_rfl) (by kernel_rfl) (fun _ _ _ h => h) (by kernel_rfl) (fun X hX => by go_simp) (fun _ => rfl) hd ?_
          try simp only [List.getElem_toArray, List.getElem_cons_zero, List.getElem_cons_succ, Act.put, List.setIfInBounds_toArray, List.set_cons_zero, List.set_cons_succ]
          refine AnyT.take (i := 5) (v := .pointer (some ⟨w.heap.size, 1, none⟩)) rfl rfl (by kernel_rfl) (by kernel_rfl) (by kernel_rfl) (by kernel_rfl) (by kernel_rfl) (fun _ _ _ h => h) (by kernel_rfl) (fun X hX => by go_simp) (fun _ => rfl) hd ?_
          try simp only [List.getElem_toArray, List.getElem_cons_zero, List.getElem_cons_succ, Act.put, List.setIfInBounds_toArray, List.set_cons_zero, List.set_cons_succ]
          refine AnyT.take (i := 6) (v := .slice (some ⟨x.pb, x.po, none⟩) x.procs.length x.pc) rfl rfl (by kernel_rfl) (by kernel_rfl) (by kernel_rfl) (by kernel_rfl) (by kernel_rfl) (fun _ _ _ h => h) (by kernel_rfl) (fun X hX => by have c := heap_cell hX.2.1 (i := 1) rfl; simp only [List.getElem_toArray, List.getElem_cons_zero, List.getElem_cons_succ] at c; rw [HLa.out] at c; go_simp) (fun _ => rfl) hd ?_
          try simp only [List.getElem_toArray, List.getElem_cons_zero, List.getElem_cons_succ, Act.put, List.setIfInBounds_toArray, List.set_cons_zero, List.set_cons_succ]
          refine AnyT.take (i := 7) (v := .int .i64 (k : Int)) rfl rfl (by kernel_rfl) (by kernel_rfl) (by kernel_rfl) (by kernel_rfl) (by kernel_rfl) (fun _ _ _ h => h) (by kernel_rfl) (fun X hX => by go_simp) (fun _ => rfl) hd ?_
          try simp only [List.getElem_toArray, List.getElem_cons_zero, List.getElem_cons_succ, Act.put, List.setIfInBounds_toArray, List.set_cons_zero, List.set_cons_succ]
          refine AnyT.take (i := 8) (v := .pointer (some ⟨x.pb, x.po + k * 4, none⟩)) rfl rfl (by kernel_rfl) (by kernel_rfl) (by kernel_rfl) (by kernel_rfl) (by kernel_rfl) (fun _ _ _ h => h) (by kernel_rfl) (fun X hX => by go_simp) (fun _ => rfl) hd ?_
          try simp only [List.getElem_toArray, List.getElem_cons_zero, List.getElem_cons_succ, Act.put, List.setIfInBounds_toArray, List.set_cons_zero, List.set_cons_succ]
          refine AnyT.take (i := 9) (v := .pointer (some ⟨x.pb, x.po + k * 4, none⟩)) rfl rfl (by kernel_rfl) (by kernel_rfl) (by kernel_rfl) (by kernel_rfl) (by kernel_rfl) (fun _ _ _ h => h) (by kernel_rfl) (fun X hX => by go_simp) (fun _ => rfl) hd ?_
          try simp only [List.getElem_toArray, List.getElem_cons_zero, List.getElem_cons_succ, Act.put, List.setIfInBounds_toArray, List.set_cons_zero, List.set_cons_succ]
          refine AnyT.take (i := 10) (v := .string p.p.name) rfl rfl (by kernel_rfl) (by kernel_rfl) (by kernel_rfl) (by kernel_rfl) (by kernel_rfl) (fun _ _ _ h => h) (by kernel_rfl) (fun X hX => by have c := hX.2.2; go_simp) (fun _ => rfl) hd ?_
          try simp only [List.getElem_toArray, List.getElem_cons_zero, List.getElem_cons_succ, Act.put, List.setIfInBounds_toArray, List.set_cons_zero, List.set_cons_succ]
          refine AnyT.take (i := 11) (v := .pointer (some ⟨g, x.procs.length * 4, none⟩)) rfl rfl (by kernel_rfl) (by kernel_rfl) (by kernel_rfl) (by kernel_rfl) (by kernel_rfl) (fun _ _ _ h => h) (by kernel_rfl) (fun X hX => by go_simp) (fun _ => rfl) hd ?_
          try simp only [List.getElem_toArray, List.getElem_cons_zero, List.getElem_cons_succ, Act.put, List.setIfInBounds_toArray, List.set_cons_zero, List.set_cons_succ]
          refine AnyT.take (i := 12) (v := .pointer (some ⟨g, x.procs.length * 4, none⟩)) rfl rfl (by kernel_rfl) (by kernel_rfl) (by kernel_rfl) (by kernel_rfl) (by kernel_rfl) (fun _ _ _ h => h) (by kernel_rfl) (fun X hX => by go_simp) (fun _ => rfl) hd ?_
          try simp only [List.getElem_toArray, List.getElem_cons_zero, List.getElem_cons_succ, Act.put, List.setIfInBounds_toArray, List.set_cons_zero, List.set_cons_succ]
          have hlast : (x.procs ++ [newV freshN])[x.procs.length]? = some (newV freshN) := by rw [List.getElem?_append_right (Nat.le_refl _)]; simp
          have r0 : U.cell? ⟨g, x.procs.length * 4, none⟩ = some (.string freshN) := HT7.out.row.cell hlast (r := 0) rfl
          have f0 : U.frozen? ⟨g, x.procs.length * 4, none⟩ = false := HT7.out.row.frozen (x.procs.length * 4)
          refine AnyT.ready (rs := [13]) (by kernel_rfl) (by simp) (ReadyT.cons rfl (fun K hK => ?_) ReadyT.nil)
          go_simp
          refine hK _ _ (fun _ => ⟨heap_other (w := U) (V := g) hd.1 (by omega) _ _, heap_other (w := U) (V := g) hd.2.1 (by omega) _ _, (World.cell?_of_block (w := U) (Below.heap_setCell U ⟨g, x.procs.length * 4, none⟩ _ x.pb (by show x.pb ≠ g; omega))).trans hnm⟩) ?_
          clear hK K
          try simp only [List.getElem_toArray, List.getElem_cons_zero, List.getElem_cons_succ, Act.put, List.setIfInBounds_toArray, List.set_cons_zero, List.set_cons_succ]
          refine AnyT.done (by kernel_rfl) (noPan_normal ?_) _
          have hTs := (HT7.out.set p.p.name).on (Below.refl _ _).drew
          generalize (U.setCell ⟨g, x.procs.length * 4, none⟩ (.string p.p.name)).drew = W9 at *
          have HT9 := Lib.hid hTs
          have hdup := more_dup HR.out (nm_first HR.out hpm) (name_ok HR.out hpm) (by unfold ModelV.m; simp; omega)
          rw [show ((x.m.procs.length + 1 : Nat) : Int) = (x.procs.length : Int) + 1 by unfold ModelV.m; simp] at hdup
          have hpl : plcI (nmsP (moreM x.m p.p.name)) p.p.name = (k : Int) := by rw [nms_more]; exact plc_pos (fstP_old _ (nm_first HR.out hpm))
          have HC9 : Hid (∀ W, Below W9.heap.size W9 W → Calls Try.prog 15 #[.agg #[.int .i64 x.ver, .slice (some ⟨g, 0, none⟩) (x.procs.length + 1) cap, .slice x.la x.links.length x.lc, .slice x.ea x.events.length x.ec]] W fun ee w' => ee = .returned (.agg #[.int .i64 5, .int .i64 ((x.procs.length : Int) + 1)]) ∧ Hid (Below W9.heap.size W9 w')) := Lib.hid (fun W hW => (HT9.out.on hW).check HM.out hfit (by omega) hW hdup)
          have HP9 : Hid (∀ W, Below W9.heap.size W9 W → Calls Try.prog 20 #[.agg #[.int .i64 x.ver, .slice (some ⟨g, 0, none⟩) (x.procs.length + 1) cap, .slice x.la x.links.length x.lc, .slice x.ea x.events.length x.ec], .string p.p.name] W fun ee w' => ee = .returned (.int .i64 (k : Int)) ∧ Hid (Below W9.heap.size W9 w')) := Lib.hid (fun W hW => (HT9.out.on hW).find HM.out hfit (by omega) hW hpl)
          have HS9 : Hid (∀ W, Below W9.heap.size W9 W → W.cell? ⟨w4.heap.size, 0, none⟩ = some (.int .i64 x.ver) ∧ W.cell? ⟨w4.heap.size, 1, none⟩ = some (.slice (some ⟨g, 0, none⟩) (x.procs.length + 1) cap) ∧ W.cell? ⟨w4.heap.size, 2, none⟩ = some (.slice x.la x.links.length x.lc) ∧ W.cell? ⟨w4.heap.size, 3, none⟩ = some (.slice x.ea x.events.length x.ec) ∧ W.cell? ⟨w.heap.size, 1, none⟩ = some (.slice (some ⟨x.pb, x.po, none⟩) x.procs.length x.pc) ∧ W.cell? ⟨x.pb, x.po + k * 4, none⟩ = some (.string p.p.name) ∧ Hid (Below W9.heap.size W9 W)) := Lib.hid (fun W hW => ⟨heap_cell (HT9.out.on hW).boxQ rfl, heap_cell (HT9.out.on hW).boxQ rfl, heap_cell (HT9.out.on hW).boxQ rfl, heap_cell (HT9.out.on hW).boxQ rfl, by rw [← HLa.out]; exact heap_cell (HT9.out.on hW).boxA rfl, (HM.out.on (HT9.out.on hW).low).procs.cell k p hp 0 _ rfl, Lib.hid hW⟩)
          have heq9 := eqlR 5 ((x.procs.length : Int) + 1)
          have hw9 : IntKind.i64.wrap ((x.procs.length : Int) + 1) = (x.procs.length : Int) + 1 := by rw [IntKind.wrap_i64]; omega
          have hkk : ((k : Int) == (k : Int)) = true := by simp
          clear hTs hdup hpl hd hnm r0 f0 hlast a1
          go_upto_region 13 with fail
          go_region_held3 (fun W => W.cell? ⟨w4.heap.size, 0, none⟩ = some (.int .i64 x.ver) ∧ W.cell? ⟨w4.heap.size, 1, none⟩ = some (.slice (some ⟨g, 0, none⟩) (x.procs.length + 1) cap) ∧ W.cell? ⟨w4.heap.size, 2, none⟩ = some (.slice x.la x.links.length x.lc) ∧ W.cell? ⟨w4.heap.size, 3, none⟩ = some (.slice x.ea x.events.length x.ec) ∧ W.cell? ⟨w.heap.size, 1, none⟩ = some (.slice (some ⟨x.pb, x.po, none⟩) x.procs.length x.pc) ∧ W.cell? ⟨x.pb, x.po + k * 4, none⟩ = some (.string p.p.name) ∧ Hid (Below W9.heap.size W9 W)) (first | exact HS9.out _ (Below.refl _ _) | exact HS9.out _ (Below.refl _ _).drew | exact HS9.out _ hBa.out | exact HS9.out _ hBa.out.drew | exact HS9.out _ hBp.out | exact HS9.out _ hBp.out.drew) (first
            | (go_at_call 15; refine (HC9.out _ (by first | exact Below.refl _ _ | exact (Below.refl _ _).drew)).mono ?_; clear HC9; rintro e ua ⟨rfl, hBa⟩)
            | (go_at_call 20; refine (HP9.out _ (by first | exact hBa.out | exact hBa.out.drew)).mono ?_; clear HP9; rintro e ub ⟨rfl, hBp⟩))
          have HTz := Lib.hid (HT9.out.on hBp.out)
          go_wp2
          go_ret
          exact ⟨rfl, HTz.out.low⟩
        | some j =>
          rw [plc_pos hfr]
          have hjn : ¬ ((j : Int) < 0) := by omega
          have hj0 : (0 : Int) ≤ (j : Int) := Int.natCast_nonneg j
          clear hfr
          have a1 : W8.cell? ⟨w.heap.size, 1, none⟩ = some (.slice (some ⟨x.pb, x.po, none⟩) x.procs.length x.pc) := by rw [← HLa.out]; exact heap_cell HT7.out.boxA rfl
          obtain ⟨k, hk, hrem⟩ : ∃ k : Nat, k < x.procs.length ∧ Int.tmod (c : Int) (x.procs.length : Int) = (k : Int) := ⟨c % x.procs.length, Nat.mod_lt _ hl0, by rw [Int.tmod_eq_emod_of_nonneg (by omega)]; omega⟩
          have hn0 : ¬ (x.procs.length : Int) = 0 := by omega
          have hk0 : (0 : Int) ≤ (k : Int) := Int.natCast_nonneg k
          have hki : (k : Int) < (x.procs.length : Int) := by omega
          have hnb : (x.procs.length : Int) < (x.procs.length : Int) + 1 := by omega
          have hnn : (0 : Int) ≤ (x.procs.length : Int) := by omega
          have hni : (x.procs.length : Int) ≤ 12 := by omega
          obtain ⟨p, hp⟩ : ∃ p, x.procs[k]? = some p := ⟨_, List.getElem?_eq_getElem hk⟩
          have hpm : x.m.procs[k]? = some p.p := by unfold ModelV.m; rw [List.getElem?_map, hp]; rfl
          have hfit : p.p.name.size ≤ maxLen := HM.out.procs.fits p (List.mem_of_getElem? hp)
          have hnm : W8.cell? ⟨x.pb, x.po + k * 4, none⟩ = some (.string p.p.name) := (HM.out.on HT7.out.low).procs.cell k p hp 0 _ rfl
          have hpbl : x.pb < W8.heap.size := (HM.out.on HT7.out.low).procs.below.resolve_left (by omega)
          have hpbw : x.pb < w.heap.size := HM.out.procs.below.resolve_left (by omega)
          have hd : (W8.drew.heap[w4.heap.size]? = some (.cells #[.int .i64 x.ver, .slice (some ⟨g, 0, none⟩) (x.procs.length + 1) cap, .slice x.la x.links.length x.lc, .slice x.ea x.events.length x.ec] 26 (0, 0)) ∧ W8.drew.heap[w.heap.size]? = some (.cells #[.int .i64 x.ver, .slice x.pa x.procs.length x.pc, .slice x.la x.links.length x.lc, .slice x.ea x.events.length x.ec] 26 (0, 0)) ∧ W8.drew.cell? ⟨x.pb, x.po + k * 4, none⟩ = some (.string p.p.name)) := ⟨HT7.out.boxQ, HT7.out.boxA, hnm⟩
          have hgw : w.heap.size < g := by have := HT7.out.ord; omega
          have hgQ : w4.heap.size < g := HT7.out.ord.2
          go_upto_region 12 with fail
          refine (wpIn_wide (n := 3)).1 ?_
          refine region_T_calm (fun X => X.heap[w4.heap.size]? = some (.cells #[.int .i64 x.ver, .slice (some ⟨g, 0, none⟩) (x.procs.length + 1) cap, .slice x.la x.links.length x.lc, .slice x.ea x.events.length x.ec] 26 (0, 0)) ∧ X.heap[w.heap.size]? = some (.cells #[.int .i64 x.ver, .slice x.pa x.procs.length x.pc, .slice x.la x.links.length x.lc, .slice x.ea x.events.length x.ec] 26 (0, 0)) ∧ X.cell? ⟨x.pb, x.po + k * 4, none⟩ = some (.string p.p.name)) (fun _ => true) rfl (by kernel_rfl) ?_
          change AnyT _ _ _ _ _ _ _ _ 14 _ _ (World.drew _)
          refine AnyT.take (i := 0) (v := .pointer (some ⟨w4.heap.size, 1, none⟩)) rfl rfl (by kernel_rfl) (by kernel_rfl) (by kernel_rfl) (by kernel_rfl) (by kernel_rfl) (fun _ _ _ h => h) (by kernel_rfl) (fun X hX => by go_simp) (fun _ => rfl) hd ?_
          try simp only [List.getElem_toArray, List.getElem_cons_zero, List.getElem_cons_succ, Act.put, List.setIfInBounds_toArray, List.set_cons_zero, List.set_cons_succ]
          refine AnyT.take (i := 1) (v := .slice (some ⟨g, 0, none⟩) (x.procs.length + 1) cap) rfl rfl (by kernel_rfl) (by kernel_rfl) (by kernel_rfl) (by kernel_rfl) (by kernel_rfl) (fun _ _ _ h => h) (by kernel_rfl) (fun X hX => by have c := heap_cell hX.1 (i := 1) rfl; simp only [List.getElem_toArray, List.getElem_cons_zero, List.getElem_cons_succ] at c; go_simp) (fun _ => rfl) hd ?_
          try simp only [List.getElem_toArray, List.getElem_cons_zero, List.getElem_cons_succ, Act.put, List.setIfInBounds_toArray, List.set_cons_zero, List.set_cons_succ]
          refine AnyT.take (i := 2) (v := .pointer (some ⟨w.heap.size, 1, none⟩)) rfl rfl (by kernel_rfl) (by kernel_rfl) (by kernel_rfl) (by kernel_rfl) (by kernel_rfl) (fun _ _ _ h => h) (by kernel_rfl) (fun X hX => by go_simp) (fun _ => rfl) hd ?_
          try simp only [List.getElem_toArray, List.getElem_cons_zero, List.getElem_cons_succ, Act.put, List.setIfInBounds_toArray, List.set_cons_zero, List.set_cons_succ]
          refine AnyT.take (i := 3) (v := .slice (some ⟨x.pb, x.po, none⟩) x.procs.length x.pc) rfl rfl (by kernel_rfl) (by kernel_rfl) (by kernel_rfl) (by kernel_rfl) (by kernel_rfl) (fun _ _ _ h => h) (by kernel_rfl) (fun X hX => by have c := heap_cell hX.2.1 (i := 1) rfl; simp only [List.getElem_toArray, List.getElem_cons_zero, List.getElem_cons_succ] at c; rw [HLa.out] at c; go_simp) (fun _ => rfl) hd ?_
          try simp only [List.getElem_toArray, List.getElem_cons_zero, List.getElem_cons_succ, Act.put, List.setIfInBounds_toArray, List.set_cons_zero, List.set_cons_succ]
          refine AnyT.take (i := 4) (v := .int .i64 (x.procs.length : Int)) rfl rfl (by kernel_rfl) (by kernel_rfl) (by kernel_rfl) (by kernel_rfl) (by kernel_rfl) (fun _ _ _ h => h) (by kernel_rfl) (fun X hX => by go_simp) (fun _ => rfl) hd ?_
          try simp only [List.getElem_toArray, List.getElem_cons_zero, List.getElem_cons_succ, Act.put, List.setIfInBounds_toArray, List.set_cons_zero, List.set_cons_succ]
          refine AnyT.take (i := 5) (v := .pointer (some ⟨w.heap.size, 1, none⟩)) rfl rfl (by kernel_rfl) (by kernel_rfl) (by kernel_rfl) (by kernel_rfl) (by kernel_rfl) (fun _ _ _ h => h) (by kernel_rfl) (fun X hX => by go_simp) (fun _ => rfl) hd ?_
          try simp only [List.getElem_toArray, List.getElem_cons_zero, List.getElem_cons_succ, Act.put, List.setIfInBounds_toArray, List.set_cons_zero, List.set_cons_succ]
          refine AnyT.take (i := 6) (v := .slice (some ⟨x.pb, x.po, none⟩) x.procs.length x.pc) rfl rfl (by kernel_rfl) (by kernel_rfl) (by kernel_rfl) (by kernel_rfl) (by kernel_rfl) (fun _ _ _ h => h) (by kernel_rfl) (fun X hX => by have c := heap_cell hX.2.1 (i := 1) rfl; simp only [List.getElem_toArray, List.getElem_cons_zero, List.getElem_cons_succ] at c; rw [HLa.out] at c; go_simp) (fun _ => rfl) hd ?_
          try simp only [List.getElem_toArray, List.getElem_cons_zero, List.getElem_cons_succ, Act.put, List.setIfInBounds_toArray, List.set_cons_zero, List.set_cons_succ]
          refine AnyT.take (i := 7) (v := .int .i64 (k : Int)) rfl rfl (by kernel_rfl) (by kernel_rfl) (by kernel_rfl) (by kernel_rfl) (by kernel_rfl) (fun _ _ _ h => h) (by kernel_rfl) (fun X hX => by go_simp) (fun _ => rfl) hd ?_
          try simp only [List.getElem_toArray, List.getElem_cons_zero, List.getElem_cons_succ, Act.put, List.setIfInBounds_toArray, List.set_cons_zero, List.set_cons_succ]
          refine AnyT.take (i := 8) (v := .pointer (some ⟨x.pb, x.po + k * 4, none⟩)) rfl rfl (by kernel_rfl) (by kernel_rfl) (by kernel_rfl) (by kernel_rfl) (by kernel_rfl) (fun _ _ _ h => h) (by kernel_rfl) (fun X hX => by go_simp) (fun _ => rfl) hd ?_
          try simp only [List.getElem_toArray, List.getElem_cons_zero, List.getElem_cons_succ, Act.put, List.setIfInBounds_toArray, List.set_cons_zero, List.set_cons_succ]
          refine AnyT.take (i := 9) (v := .pointer (some ⟨x.pb, x.po + k * 4, none⟩)) rfl rfl (by kernel_rfl) (by kernel_rfl) (by kernel_rfl) (by kernel_rfl) (by kernel_rfl) (fun _ _ _ h => h) (by kernel_rfl) (fun X hX => by go_simp) (fun _ => rfl) hd ?_
          try simp only [List.getElem_toArray, List.getElem_cons_zero, List.getElem_cons_succ, Act.put, List.setIfInBounds_toArray, List.set_cons_zero, List.set_cons_succ]
          refine AnyT.take (i := 10) (v := .string p.p.name) rfl rfl (by kernel_rfl) (by kernel_rfl) (by kernel_rfl) (by kernel_rfl) (by kernel_rfl) (fun _ _ _ h => h) (by kernel_rfl) (fun X hX => by have c := hX.2.2; go_simp) (fun _ => rfl) hd ?_
          try simp only [List.getElem_toArray, List.getElem_cons_zero, List.getElem_cons_succ, Act.put, List.setIfInBounds_toArray, List.set_cons_zero, List.set_cons_succ]
          refine AnyT.take (i := 11) (v := .pointer (some ⟨g, x.procs.length * 4, none⟩)) rfl rfl (by kernel_rfl) (by kernel_rfl) (by kernel_rfl) (by kernel_rfl) (by kernel_rfl) (fun _ _ _ h => h) (by kernel_rfl) (fun X hX => by go_simp) (fun _ => rfl) hd ?_
          try simp only [List.getElem_toArray, List.getElem_cons_zero, List.getElem_cons_succ, Act.put, List.setIfInBounds_toArray, List.set_cons_zero, List.set_cons_succ]
          refine AnyT.take (i := 12) (v := .pointer (some ⟨g, x.procs.length * 4, none⟩)) rfl rfl (by kernel_rfl) (by kernel_rfl) (by kernel_rfl) (by kernel_rfl) (by kernel_rfl) (fun _ _ _ h => h) (by kernel_rfl) (fun X hX => by go_simp) (fun _ => rfl) hd ?_
          try simp only [List.getElem_toArray, List.getElem_cons_zero, List.getElem_cons_succ, Act.put, List.setIfInBounds_toArray, List.set_cons_zero, List.set_cons_succ]
          have hlast : (x.procs ++ [newV freshN])[x.procs.length]? = some (newV freshN) := by rw [List.getElem?_append_right (Nat.le_refl _)]; simp
          have r0 : W8.cell? ⟨g, x.procs.length * 4, none⟩ = some (.string freshN) := HT7.out.row.cell hlast (r := 0) rfl
          have f0 : W8.frozen? ⟨g, x.procs.length * 4, none⟩ = false := HT7.out.row.frozen (x.procs.length * 4)
          refine AnyT.ready (rs := [13]) (by kernel_rfl) (by simp) (ReadyT.cons rfl (fun K hK => ?_) ReadyT.nil)
          go_simp
          refine hK _ _ (fun _ => ⟨heap_other (w := W8) (V := g) hd.1 (by omega) _ _, heap_other (w := W8) (V := g) hd.2.1 (by omega) _ _, (World.cell?_of_block (w := W8) (Below.heap_setCell W8 ⟨g, x.procs.length * 4, none⟩ _ x.pb (by show x.pb ≠ g; omega))).trans hnm⟩) ?_
          clear hK K
          try simp only [List.getElem_toArray, List.getElem_cons_zero, List.getElem_cons_succ, Act.put, List.setIfInBounds_toArray, List.set_cons_zero, List.set_cons_succ]
          refine AnyT.done (by kernel_rfl) (noPan_normal ?_) _
          have hTs := (HT7.out.set p.p.name).on (Below.refl _ _).drew
          generalize (W8.setCell ⟨g, x.procs.length * 4, none⟩ (.string p.p.name)).drew = W9 at *
          have HT9 := Lib.hid hTs
          have hdup := more_dup HR.out (nm_first HR.out hpm) (name_ok HR.out hpm) (by unfold ModelV.m; simp; omega)
          rw [show ((x.m.procs.length + 1 : Nat) : Int) = (x.procs.length : Int) + 1 by unfold ModelV.m; simp] at hdup
          have hpl : plcI (nmsP (moreM x.m p.p.name)) p.p.name = (k : Int) := by rw [nms_more]; exact plc_pos (fstP_old _ (nm_first HR.out hpm))
          have HC9 : Hid (∀ W, Below W9.heap.size W9 W → Calls Try.prog 15 #[.agg #[.int .i64 x.ver, .slice (some ⟨g, 0, none⟩) (x.procs.length + 1) cap, .slice x.la x.links.length x.lc, .slice x.ea x.events.length x.ec]] W fun ee w' => ee = .returned (.agg #[.int .i64 5, .int .i64 ((x.procs.length : Int) + 1)]) ∧ Hid (Below W9.heap.size W9 w')) := Lib.hid (fun W hW => (HT9.out.on hW).check HM.out hfit (by omega) hW hdup)
          have HP9 : Hid (∀ W, Below W9.heap.size W9 W → Calls Try.prog 20 #[.agg #[.int .i64 x.ver, .slice (some ⟨g, 0, none⟩) (x.procs.length + 1) cap, .slice x.la x.links.length x.lc, .slice x.ea x.events.length x.ec], .string p.p.name] W fun ee w' => ee = .returned (.int .i64 (k : Int)) ∧ Hid (Below W9.heap.size W9 w')) := Lib.hid (fun W hW => (HT9.out.on hW).find HM.out hfit (by omega) hW hpl)
          have HS9 : Hid (∀ W, Below W9.heap.size W9 W → W.cell? ⟨w4.heap.size, 0, none⟩ = some (.int .i64 x.ver) ∧ W.cell? ⟨w4.heap.size, 1, none⟩ = some (.slice (some ⟨g, 0, none⟩) (x.procs.length + 1) cap) ∧ W.cell? ⟨w4.heap.size, 2, none⟩ = some (.slice x.la x.links.length x.lc) ∧ W.cell? ⟨w4.heap.size, 3, none⟩ = some (.slice x.ea x.events.length x.ec) ∧ W.cell? ⟨w.heap.size, 1, none⟩ = some (.slice (some ⟨x.pb, x.po, none⟩) x.procs.length x.pc) ∧ W.cell? ⟨x.pb, x.po + k * 4, none⟩ = some (.string p.p.name) ∧ Hid (Below W9.heap.size W9 W)) := Lib.hid (fun W hW => ⟨heap_cell (HT9.out.on hW).boxQ rfl, heap_cell (HT9.out.on hW).boxQ rfl, heap_cell (HT9.out.on hW).boxQ rfl, heap_cell (HT9.out.on hW).boxQ rfl, by rw [← HLa.out]; exact heap_cell (HT9.out.on hW).boxA rfl, (HM.out.on (HT9.out.on hW).low).procs.cell k p hp 0 _ rfl, Lib.hid hW⟩)
          have heq9 := eqlR 5 ((x.procs.length : Int) + 1)
          have hw9 : IntKind.i64.wrap ((x.procs.length : Int) + 1) = (x.procs.length : Int) + 1 := by rw [IntKind.wrap_i64]; omega
          have hkk : ((k : Int) == (k : Int)) = true := by simp
          clear hTs hdup hpl hd hnm r0 f0 hlast a1
          go_upto_region 13 with fail
          go_region_held3 (fun W => W.cell? ⟨w4.heap.size, 0, none⟩ = some (.int .i64 x.ver) ∧ W.cell? ⟨w4.heap.size, 1, none⟩ = some (.slice (some ⟨g, 0, none⟩) (x.procs.length + 1) cap) ∧ W.cell? ⟨w4.heap.size, 2, none⟩ = some (.slice x.la x.links.length x.lc) ∧ W.cell? ⟨w4.heap.size, 3, none⟩ = some (.slice x.ea x.events.length x.ec) ∧ W.cell? ⟨w.heap.size, 1, none⟩ = some (.slice (some ⟨x.pb, x.po, none⟩) x.procs.length x.pc) ∧ W.cell? ⟨x.pb, x.po + k * 4, none⟩ = some (.string p.p.name) ∧ Hid (Below W9.heap.size W9 W)) (first | exact HS9.out _ (Below.refl _ _) | exact HS9.out _ (Below.refl _ _).drew | exact HS9.out _ hBa.out | exact HS9.out _ hBa.out.drew | exact HS9.out _ hBp.out | exact HS9.out _ hBp.out.drew) (first
            | (go_at_call 15; refine (HC9.out _ (by first | exact Below.refl _ _ | exact (Below.refl _ _).drew)).mono ?_; clear HC9; rintro e ua ⟨rfl, hBa⟩)
            | (go_at_call 20; refine (HP9.out _ (by first | exact hBa.out | exact hBa.out.drew)).mono ?_; clear HP9; rintro e ub ⟨rfl, hBp⟩))
          have HTz := Lib.hid (HT9.out.on hBp.out)
          go_wp2
          go_ret
          exact ⟨rfl, HTz.out.low⟩
      · have hPc0 := fun W (hW : Below w.heap.size w W) => proc_at (HM.out.on hW) freshN
        have hfr : fstP (nmsP x.m) freshN = none := by
          have : nmsP x.m = [] := by
            unfold nmsP ModelV.m
            have : x.procs = [] := List.eq_nil_of_length_eq_zero (by omega)
            rw [this]
            rfl
          rw [this]
          rfl
        have hpe : x.procs = [] := List.eq_nil_of_length_eq_zero (by omega)
        have hmf := more_fresh HR.out hfr chk_fresh (by unfold ModelV.m; simp; omega)
        have HMf := Lib.hid hmf
        rw [plc_neg hfr] at hPc0
        have HPc := Lib.hid hPc0
        have HPe := Lib.hid hpe
        clear hxat hmf hPc0 hfr hpe HR HF
        generalize hn : x.procs.length = n at *
        obtain rfl : n = 0 := by omega
        go_upto_region 6 with fail
        go_wp2_with (first | (at_builtin; refine wpList_append_zero rfl _ _ 22 rfl 39 i0 Try.underlying22 HI.out ⟨w4.heap.size + 1, 0, none⟩ rfl x.pa x.pc rfl ?_) | (at_builtin; refine wpList_append_gathP _ rfl _ _ 22 rfl (w4.heap.size + 1 + 1) 39 i0 (.agg zP) 4 72 Try.underlying22 HI.out HZ0.out HZ1.out HZ2.out rfl (by decide) _ _ _ rfl (HG0.out.alloc _) ⟨w4.heap.size + 1 + 1, 0, none⟩ 1 1 [.string ⟨#[102, 114, 101, 115, 104, 95, 111, 110, 101]⟩, .int .i64 1, .slice none 0 0, .slice none 0 0] rfl rfl (by have h := cell_rowM ((w4.alloc (.cells #[.int .i64 x.ver, .slice x.pa 0 x.pc, .slice x.la x.links.length x.lc, .slice x.ea x.events.length x.ec] 26)).alloc (.cells #[] 39)) [.string ⟨#[102, 114, 101, 115, 104, 95, 111, 110, 101]⟩, .int .i64 1, .slice none 0 0, .slice none 0 0] 39; rw [show ((w4.alloc (.cells #[.int .i64 x.ver, .slice x.pa 0 x.pc, .slice x.la x.links.length x.lc, .slice x.ea x.events.length x.ec] 26)).alloc (.cells #[] 39)).heap.size = w4.heap.size + 1 + 1 by simp] at h; exact h) (fun u hu => by simp at hu; rcases hu with rfl | rfl | rfl <;> rfl) (by decide) (by unfold maxLen; omega) (by omega) (by simp) ?_; intro v2 w6 row hown hg hrow; rw [Nat.zero_add, List.nil_append] at hown; have hrow' : ∀ r, row = some r → w4.heap.size + 1 + 1 ≤ r := (fun r e => (hrow r e).2); obtain ⟨g, cap, rfl, hgb, hrc⟩ := rowc_owned hszP (L := [newV freshN]) hown rfl (by omega); have hq6 := heap_kept (heap_alloc HBq.out _) hg (fun e => by have := hrow' _ e.symm; omega); have ha6 := heap_kept (heap_alloc HBa.out _) hg (fun e => by have := hrow' _ e.symm; omega); have hb6 := (HBb.out.alloc HBb.out.size _).grown hg (by simp; omega) (fun r e => by have := hrow' r e; omega); have q1 : w6.cell? ⟨w4.heap.size, 1, none⟩ = some (.slice x.pa 0 x.pc) := heap_cell hq6 rfl; have f1 := heap_frozen hq6 1; have d0 : w6.cell? ⟨w.heap.size, 0, none⟩ = some (.int .i64 x.ver) := heap_cell ha6 rfl; have d1 : w6.cell? ⟨w.heap.size, 1, none⟩ = some (.slice x.pa 0 x.pc) := heap_cell ha6 rfl; have d2 : w6.cell? ⟨w.heap.size, 2, none⟩ = some (.slice x.la x.links.length x.lc) := heap_cell ha6 rfl; have d3 : w6.cell? ⟨w.heap.size, 3, none⟩ = some (.slice x.ea x.events.length x.ec) := heap_cell ha6 rfl; have hT := TuP.made (x := x) (cap := cap) (nm := freshN) (by rw [hn]; exact ha6) (by rw [hn]; exact hq6) (by rw [HPe.out, List.nil_append]; exact hrc) hb6 hltA (by omega); clear hown hg hrow hrow' hq6 ha6 hb6 hrc))
        rw [hn, Nat.zero_add] at hT
        generalize w6.setCell ⟨w4.heap.size, 1, none⟩ (.slice (some ⟨g, 0, none⟩) 1 cap) = W7 at *
        have HT7 := Lib.hid hT
        refine Calls.mono (HPc.out _ hT.low) ?_
        clear hT q1 f1 d0 d1 d2 d3 c0 c1 c2 c3
        rintro e W8 ⟨rfl, hb⟩
        replace HT7 := Lib.hid (HT7.out.on hb)
        clear hb
        have b0 : W8.cell? ⟨w4.heap.size, 0, none⟩ = some (.int .i64 x.ver) := heap_cell HT7.out.boxQ rfl
        have b1 : W8.cell? ⟨w4.heap.size, 1, none⟩ = some (.slice (some ⟨g, 0, none⟩) 1 cap) := by have := heap_cell HT7.out.boxQ (i := 1) rfl; rw [hn] at this; exact this
        have b2 : W8.cell? ⟨w4.heap.size, 2, none⟩ = some (.slice x.la x.links.length x.lc) := heap_cell HT7.out.boxQ rfl
        have b3 : W8.cell? ⟨w4.heap.size, 3, none⟩ = some (.slice x.ea x.events.length x.ec) := heap_cell HT7.out.boxQ rfl
        have hcf := HT7.out.check HM.out (nm := freshN) (by decide) (by omega) (Below.refl _ _) HMf.out
        rw [hn] at hcf
        have HCf := Lib.hid hcf
        clear hcf
        go_wp2_with fail
        refine Calls.mono HCf.out ?_
        clear HCf b0 b1 b2 b3
        rintro e U ⟨rfl, hb⟩
        replace HT7 := Lib.hid (HT7.out.on hb.out)
        clear hb
        have a1 : U.cell? ⟨w.heap.size, 1, none⟩ = some (.slice x.pa 0 x.pc) := by have := heap_cell HT7.out.boxA (i := 1) rfl; rw [hn] at this; exact this
        go_wp2
        go_ret
        exact ⟨rfl, HT7.out.low⟩
    · have heb : (e1 != 0) = true := by simpa using he
      clear hE
      go_wp2
      go_ret
      exact ⟨rfl, HB.out⟩
end Go.Proofs.Ytnblobddefbkiaa.Md
