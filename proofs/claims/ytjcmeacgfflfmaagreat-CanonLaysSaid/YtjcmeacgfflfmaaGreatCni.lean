/- canon's law: alive. -/
import Derived.Test.YtjcmeacgfflfmaaGreatCnf
import Derived.Deep.RegionHeld3
set_option linter.unusedVariables false
set_option linter.unusedSectionVars false
set_option linter.unusedSimpArgs false
namespace Go.Proofs.YtjcmeacgfflfmaaGreat.Hk
open Go.RowKit Go.Shelf Go.Proofs.YtjcmeacgfflfmaaGreat.Md

set_option maxRecDepth 100000 in
set_option maxHeartbeats 40000000 in
theorem alive_any (w : World) : Calls Tryz.prog 9 #[] w fun e w' => e = .returned (.bool true) ∧ Below w.heap.size w w' := by
  have HS1 := Lib.hid (sample_any w)
  obtain ⟨N, hN⟩ : ∃ N, w.heap.size = N := ⟨_, rfl⟩
  rw [hN] at HS1
  go_enter Tryz.func9, Tryz.ntmps9
  go_wp2_with fail
  refine HS1.out.mono ?_
  clear HS1
  rintro e w1 ⟨rfl, hm, hb1⟩
  rw [← hN] at hb1
  have HB := Lib.hid hb1
  have HM := Lib.hid hm
  clear hm hb1
  go_upto_region 2 with fail
  have hm2 := HM.out.on (below_one w1 (.cells #[.int .i64 3, .slice (some ⟨N + 1 + 1, 0, none⟩) 2 2, .slice (some ⟨N + 1 + 1 + 1, 0, none⟩) 1 1, .slice (some ⟨N + 1 + 1 + 1 + 1, 0, none⟩) 2 2] 26))
  have hx2 := heap_new (w := w1) (.cells #[.int .i64 3, .slice (some ⟨N + 1 + 1, 0, none⟩) 2 2, .slice (some ⟨N + 1 + 1 + 1, 0, none⟩) 1 1, .slice (some ⟨N + 1 + 1 + 1 + 1, 0, none⟩) 2 2] 26) rfl
  have hb2 := HB.out.trans ((below_one w1 (.cells #[.int .i64 3, .slice (some ⟨N + 1 + 1, 0, none⟩) 2 2, .slice (some ⟨N + 1 + 1 + 1, 0, none⟩) 1 1, .slice (some ⟨N + 1 + 1 + 1 + 1, 0, none⟩) 2 2] 26)).mono HB.out.size)
  have HC := Lib.hid (canon_any hm2 (show Sized (smV N).m from sm_sized))
  generalize hB1 : w1.heap.size = B1 at *
  generalize w1.alloc (.cells #[.int .i64 3, .slice (some ⟨N + 1 + 1, 0, none⟩) 2 2, .slice (some ⟨N + 1 + 1 + 1, 0, none⟩) 1 1, .slice (some ⟨N + 1 + 1 + 1 + 1, 0, none⟩) 2 2] 26) = w2 at *
  replace HB := Lib.hid hb2
  replace HM := Lib.hid hm2
  have HX := Lib.hid hx2
  have m0 : w2.cell? ⟨B1, 0, none⟩ = some (.int .i64 3) := heap_cell hx2 rfl
  have m1 : w2.cell? ⟨B1, 1, none⟩ = some (.slice (some ⟨N + 1 + 1, 0, none⟩) 2 2) := heap_cell hx2 rfl
  have m2 : w2.cell? ⟨B1, 2, none⟩ = some (.slice (some ⟨N + 1 + 1 + 1, 0, none⟩) 1 1) := heap_cell hx2 rfl
  have m3 : w2.cell? ⟨B1, 3, none⟩ = some (.slice (some ⟨N + 1 + 1 + 1 + 1, 0, none⟩) 2 2) := heap_cell hx2 rfl
  clear hB1 hm2 hx2 hb2 w1
  go_upto_region 3 with (go_at_call 12; refine HC.out.mono ?_; rintro e w3 ⟨y, rfl, hym, hyo, hb3⟩; obtain ⟨f1, f2, f3, f4, f5, f6, vb, vc, hyc⟩ := smC_at hyo (hym.trans sm_can); rw [f1, f2, f3, f4, f5, f6]; have HYM := Lib.hid (hym.trans sm_can); have HYC := Lib.hid hyc; have HYO := Lib.hid hyo; have HB3 := Lib.hid hb3; have HF := Lib.hid (And.intro f1 (And.intro f2 (And.intro f3 (And.intro f4 (And.intro f5 f6))))); clear hym hyc hyo hb3 f1 f2 f3 f4 f5 f6)
  have hlt : B1 < w2.heap.size := heap_lt HX.out
  have hba : Below w2.heap.size w2 (w3.alloc (.cells #[.int .i64 3, .slice (some ⟨y.pb, 0, none⟩) 2 y.pc, .slice y.la 1 y.lc, .slice (some ⟨y.eb, 0, none⟩) 2 y.ec] 26)) := HB3.out.alloc HB3.out.size _
  have hy4 := HYC.out.on (below_one w3 (.cells #[.int .i64 3, .slice (some ⟨y.pb, 0, none⟩) 2 y.pc, .slice y.la 1 y.lc, .slice (some ⟨y.eb, 0, none⟩) 2 y.ec] 26))
  have hym4 := HYO.out.at_.on (below_one w3 (.cells #[.int .i64 3, .slice (some ⟨y.pb, 0, none⟩) 2 y.pc, .slice y.la 1 y.lc, .slice (some ⟨y.eb, 0, none⟩) 2 y.ec] 26))
  have hx4 := heap_new (w := w3) (.cells #[.int .i64 3, .slice (some ⟨y.pb, 0, none⟩) 2 y.pc, .slice y.la 1 y.lc, .slice (some ⟨y.eb, 0, none⟩) 2 y.ec] 26) rfl
  have hlt4 : B1 < w3.heap.size := Nat.lt_of_lt_of_le hlt HB3.out.size
  generalize hB2 : w3.heap.size = B2 at *
  generalize w3.alloc (.cells #[.int .i64 3, .slice (some ⟨y.pb, 0, none⟩) 2 y.pc, .slice y.la 1 y.lc, .slice (some ⟨y.eb, 0, none⟩) 2 y.ec] 26) = w4 at *
  have HM4 := Lib.hid (HM.out.on hba)
  have HX4 := Lib.hid (heap_below HX.out hba hlt)
  have HY4 := Lib.hid hx4
  have HYC4 := Lib.hid hy4
  have HYM4 := Lib.hid hym4
  have HB4 := Lib.hid (HB.out.trans (hba.mono HB.out.size))
  clear m0 m1 m2 m3
  have m0 : w4.cell? ⟨B1, 0, none⟩ = some (.int .i64 3) := heap_cell HX4.out rfl
  have m1 : w4.cell? ⟨B1, 1, none⟩ = some (.slice (some ⟨N + 1 + 1, 0, none⟩) 2 2) := heap_cell HX4.out rfl
  have m2 : w4.cell? ⟨B1, 2, none⟩ = some (.slice (some ⟨N + 1 + 1 + 1, 0, none⟩) 1 1) := heap_cell HX4.out rfl
  have m3 : w4.cell? ⟨B1, 3, none⟩ = some (.slice (some ⟨N + 1 + 1 + 1 + 1, 0, none⟩) 2 2) := heap_cell HX4.out rfl
  have y0 : w4.cell? ⟨B2, 0, none⟩ = some (.int .i64 3) := heap_cell HY4.out rfl
  have y1 : w4.cell? ⟨B2, 1, none⟩ = some (.slice (some ⟨y.pb, 0, none⟩) 2 y.pc) := heap_cell HY4.out rfl
  have y2 : w4.cell? ⟨B2, 2, none⟩ = some (.slice y.la 1 y.lc) := heap_cell HY4.out rfl
  have y3 : w4.cell? ⟨B2, 3, none⟩ = some (.slice (some ⟨y.eb, 0, none⟩) 2 y.ec) := heap_cell HY4.out rfl
  have n2 := hy4.n2
  have HG := Lib.hid (graph_any HM4.out)
  clear HM HX HB HC HB3 HYC HYO hba hym4 hx4 hlt hB2 w3 hy4
  go_upto_region 6 with (go_at_call 17; refine HG.out.mono ?_; rintro e w5 ⟨hb5, hcs⟩; obtain ⟨_, g, nb, rfl, hg5, hg1, hg2⟩ := hcs.resolve_left (fun h => h.1 sm_right); have HB5 := Lib.hid hb5; have HG5 := Lib.hid hg5; clear hb5 hcs hg5 hg1 hg2)
  have HG0 := Lib.hid (graph_any (own_none w5.heap.size w5).at_)
  clear m0 m1 m2 m3 y0 y1 y2 y3 n2 HG
  go_upto_region 9 with (go_at_call 17; refine HG0.out.mono ?_; rintro e w6 ⟨hb6, hcs⟩; obtain ⟨_, rfl⟩ := hcs.resolve_right (fun h => absurd (sm_none.symm.trans h.1) (by decide)); have HB6 := Lib.hid hb6; clear hb6 hcs)
  have HA0 : Hid (AlS w N B1 B2 y vb vc g nb w6) := Lib.hid (by
    have hb := HB5.out.trans (HB6.out.mono HB5.out.size)
    exact ⟨HB4.out.trans (hb.mono HB4.out.size), heap_on HX4.out hb, heap_on HY4.out hb, HM4.out.on hb, HYC4.out.on hb, HG5.out.below HB6.out⟩)
  have hn43 : (mdE (noneV).m).1 = 43 := sm_none
  rw [hn43]
  have m0 : ∀ W, AlS w N B1 B2 y vb vc g nb W → W.cell? ⟨B1, 0, none⟩ = some (.int .i64 3) := fun W h => heap_cell h.mbox rfl
  have m1 : ∀ W, AlS w N B1 B2 y vb vc g nb W → W.cell? ⟨B1, 1, none⟩ = some (.slice (some ⟨N + 1 + 1, 0, none⟩) 2 2) := fun W h => heap_cell h.mbox rfl
  have m2 : ∀ W, AlS w N B1 B2 y vb vc g nb W → W.cell? ⟨B1, 2, none⟩ = some (.slice (some ⟨N + 1 + 1 + 1, 0, none⟩) 1 1) := fun W h => heap_cell h.mbox rfl
  have m3 : ∀ W, AlS w N B1 B2 y vb vc g nb W → W.cell? ⟨B1, 3, none⟩ = some (.slice (some ⟨N + 1 + 1 + 1 + 1, 0, none⟩) 2 2) := fun W h => heap_cell h.mbox rfl
  have y0 : ∀ W, AlS w N B1 B2 y vb vc g nb W → W.cell? ⟨B2, 0, none⟩ = some (.int .i64 3) := fun W h => heap_cell h.cbox rfl
  have y1 : ∀ W, AlS w N B1 B2 y vb vc g nb W → W.cell? ⟨B2, 1, none⟩ = some (.slice (some ⟨y.pb, 0, none⟩) 2 y.pc) := fun W h => heap_cell h.cbox rfl
  have y2 : ∀ W, AlS w N B1 B2 y vb vc g nb W → W.cell? ⟨B2, 2, none⟩ = some (.slice y.la 1 y.lc) := fun W h => heap_cell h.cbox rfl
  have y3 : ∀ W, AlS w N B1 B2 y vb vc g nb W → W.cell? ⟨B2, 3, none⟩ = some (.slice (some ⟨y.eb, 0, none⟩) 2 y.ec) := fun W h => heap_cell h.cbox rfl
  obtain ⟨sA, hsA⟩ : ∃ s, tA = s := ⟨_, rfl⟩
  obtain ⟨sX, hsX⟩ : ∃ s, tX = s := ⟨_, rfl⟩
  have n0 : ∀ W, AlS w N B1 B2 y vb vc g nb W → W.cell? ⟨y.pb, 0, none⟩ = some (.string sA) := fun W h => hsA ▸ h.yat.n0
  have n2 : ∀ W, AlS w N B1 B2 y vb vc g nb W → W.cell? ⟨y.pb, 2, none⟩ = some (.slice (some ⟨vb, 0, none⟩) 2 vc) := fun W h => h.yat.n2
  have v0 : ∀ W, AlS w N B1 B2 y vb vc g nb W → W.cell? ⟨vb, 0, none⟩ = some (.string sX) := fun W h => hsX ▸ h.yat.v0
  have e0 : ∀ W, AlS w N B1 B2 y vb vc g nb W → W.cell? ⟨y.eb, 0, none⟩ = some (.string sA) := fun W h => hsA ▸ h.yat.e0
  have hA : (sA.toList == [97]) = true := by rw [← hsA]; simp [tA]
  have hX : (sX.toList == [120]) = true := by rw [← hsX]; simp [tX]
  clear hsA hsX
  have hys : Sized y.m := by rw [HYM.out]; exact ⟨by show 2 ≤ 20000; decide, by show 1 ≤ 20000; decide, by show 2 ≤ 20000; decide, fun p hp => by
    simp only [smC, List.mem_cons, List.not_mem_nil, or_false] at hp
    rcases hp with rfl | rfl
    · exact ⟨by show 2 ≤ 20000; decide, by show 0 ≤ 20000; decide⟩
    · exact ⟨by show 0 ≤ 20000; decide, by show 0 ≤ 20000; decide⟩⟩
  have KI1 : Hid (∀ W, AlS w N B1 B2 y vb vc g nb W → Calls Tryz.prog 15 #[.agg #[.int .i64 3, .slice (some ⟨y.pb, 0, none⟩) 2 y.pc, .slice y.la 1 y.lc, .slice (some ⟨y.eb, 0, none⟩) 2 y.ec]] W fun e w' => e = .returned (.bool true) ∧ Below W.heap.size W w') := Lib.hid (fun W hW => by
    obtain ⟨f1, f2, f3, f4, f5, f6⟩ := HF.out
    have := told (t := true) (by simp [HYM.out, sm_can2]) (cis_any hW.yat.own hys)
    rwa [f1, f2, f3, f4, f5, f6] at this)
  have KI2 : Hid (∀ W, AlS w N B1 B2 y vb vc g nb W → Calls Tryz.prog 15 #[.agg #[.int .i64 3, .slice (some ⟨N + 1 + 1, 0, none⟩) 2 2, .slice (some ⟨N + 1 + 1 + 1, 0, none⟩) 1 1, .slice (some ⟨N + 1 + 1 + 1 + 1, 0, none⟩) 2 2]] W fun e w' => e = .returned (.bool false) ∧ Below W.heap.size W w') := Lib.hid (fun W hW => told (t := false) (by simp only [Bool.false_eq_true, false_iff]; rw [smV_m, sm_can]; exact sm_ne) (cis_any (x := smV N) hW.mat (show Sized (smV N).m from sm_sized)))
  have KS2 : Hid (∀ W, AlS w N B1 B2 y vb vc g nb W → Calls Tryz.prog 16 #[.agg #[.int .i64 3, .slice (some ⟨N + 1 + 1, 0, none⟩) 2 2, .slice (some ⟨N + 1 + 1 + 1, 0, none⟩) 1 1, .slice (some ⟨N + 1 + 1 + 1 + 1, 0, none⟩) 2 2], .agg #[.int .i64 3, .slice (some ⟨y.pb, 0, none⟩) 2 y.pc, .slice y.la 1 y.lc, .slice (some ⟨y.eb, 0, none⟩) 2 y.ec]] W fun e w' => e = .returned (.bool false) ∧ Below W.heap.size W w') := Lib.hid (fun W hW => by
    obtain ⟨f1, f2, f3, f4, f5, f6⟩ := HF.out
    have := told (t := false) (by simp only [Bool.false_eq_true, false_iff]; rw [smV_m, HYM.out]; exact sm_ne) (csame_any (x := smV N) (y := y) hW.mat hW.yat.own)
    rwa [f1, f2, f3, f4, f5, f6] at this)
  have KS1 : Hid (∀ W N', AlS w N B1 B2 y vb vc g nb W → ModelAt W.heap.size W (smV N') → Calls Tryz.prog 16 #[.agg #[.int .i64 3, .slice (some ⟨N + 1 + 1, 0, none⟩) 2 2, .slice (some ⟨N + 1 + 1 + 1, 0, none⟩) 1 1, .slice (some ⟨N + 1 + 1 + 1 + 1, 0, none⟩) 2 2], .agg #[.int .i64 3, .slice (some ⟨N' + 1 + 1, 0, none⟩) 2 2, .slice (some ⟨N' + 1 + 1 + 1, 0, none⟩) 1 1, .slice (some ⟨N' + 1 + 1 + 1 + 1, 0, none⟩) 2 2]] W fun e w' => e = .returned (.bool true) ∧ Below W.heap.size W w') := Lib.hid (fun W N' hW h2 => told (t := true) (by simp [smV_m]) (csame_any (x := smV N) (y := smV N') hW.mat h2))
  have KSa : Hid (∀ W, AlS w N B1 B2 y vb vc g nb W → Calls Tryz.prog 28 #[] W fun e w' => e = .returned (.agg #[.int .i64 3, .slice (some ⟨W.heap.size + 1 + 1, 0, none⟩) 2 2, .slice (some ⟨W.heap.size + 1 + 1 + 1, 0, none⟩) 1 1, .slice (some ⟨W.heap.size + 1 + 1 + 1 + 1, 0, none⟩) 2 2]) ∧ Hid (ModelAt w'.heap.size w' (smV W.heap.size)) ∧ Below W.heap.size W w') := Lib.hid (fun W hW => (sample_any W).mono (fun e w' ⟨h1, h2, h3⟩ => ⟨h1, Lib.hid h2, h3⟩))
  have KL : Hid (∀ W, AlS w N B1 B2 y vb vc g nb W → Calls Tryz.prog 19 #[.pointer (some ⟨g, 0, none⟩)] W fun e w' => e = .returned (.int .i64 2) ∧ W = w') := Lib.hid (fun W hW => glen_any hW.gr)
  have KB : Hid (∀ W, AlS w N B1 B2 y vb vc g nb W → Calls Tryz.prog 22 #[.pointer (some ⟨g, 0, none⟩), .int .i64 0, .int .i64 1] W fun e w' => e = .returned (.int .i64 4) ∧ Below W.heap.size W w') := Lib.hid (fun W hW => (between_any hW.gr 0 1).mono (fun e w' ⟨h1, h2⟩ => ⟨by rw [h1]; exact iret sm_tab, below_of_turned h2⟩))
  have ha0 := HA0.out
  refine wp_region_held_drew (S := (fun W => AlS w N B1 B2 y vb vc g nb W)) (by kernel_rfl) ?_ (fun hHeld => ?_)
  · exact AlS.on ha0 ((Below.refl _ _).drew)
  refine wpAnyH_take (i := 0) (oi := { dst := some 41, op := Go.Op.fieldAddr 26 (Go.Operand.tmp 2) 1, type := 0, pos := "law.go:30", after := #[], guard := none }) (v := ?_) rfl (by kernel_rfl) (by kernel_rfl) (by kernel_rfl) (fun _ _ _ h => h) (Or.inl ⟨by rfl, ?_⟩) (by assumption) ?_
  rotate_left
  · (intro W hSw; (try dsimp only at hSw); go_simp; try with_reducible rfl)
  try simp only [Act.put, List.setIfInBounds_toArray, List.set_cons_zero, List.set_cons_succ]
  refine wpAnyH_take (i := 1) (oi := { dst := some 42, op := Go.Op.load 22 (Go.Operand.tmp 41), type := 22, pos := "law.go:30", after := #[{ on := 0, ground := Go.Ground.data }], guard := none }) (v := ?_) rfl (by kernel_rfl) (by kernel_rfl) (by kernel_rfl) (fun _ _ _ h => h) (Or.inl ⟨by rfl, ?_⟩) (by assumption) ?_
  rotate_left
  · (intro W hSw; (try dsimp only at hSw); go_simp; try with_reducible rfl)
  try simp only [Act.put, List.setIfInBounds_toArray, List.set_cons_zero, List.set_cons_succ]
  refine wpAnyH_take (i := 2) (oi := { dst := some 43, op := Go.Op.indexAddr 22 (Go.Operand.tmp 42) (Go.Operand.const (Go.Value.int Go.IntKind.i64 0)), type := 0, pos := "law.go:30", after := #[{ on := 1, ground := Go.Ground.data }], guard := none }) (v := ?_) rfl (by kernel_rfl) (by kernel_rfl) (by kernel_rfl) (fun _ _ _ h => h) (Or.inl ⟨by rfl, ?_⟩) (by assumption) ?_
  rotate_left
  · (intro W hSw; (try dsimp only at hSw); go_simp; try with_reducible rfl)
  try simp only [Act.put, List.setIfInBounds_toArray, List.set_cons_zero, List.set_cons_succ]
  refine wpAnyH_take (i := 3) (oi := { dst := some 44, op := Go.Op.fieldAddr 34 (Go.Operand.tmp 43) 0, type := 0, pos := "law.go:30", after := #[{ on := 2, ground := Go.Ground.data }], guard := none }) (v := ?_) rfl (by kernel_rfl) (by kernel_rfl) (by kernel_rfl) (fun _ _ _ h => h) (Or.inl ⟨by rfl, ?_⟩) (by assumption) ?_
  rotate_left
  · (intro W hSw; (try dsimp only at hSw); go_simp; try with_reducible rfl)
  try simp only [Act.put, List.setIfInBounds_toArray, List.set_cons_zero, List.set_cons_succ]
  refine wpAnyH_take (i := 4) (oi := { dst := some 45, op := Go.Op.load 9 (Go.Operand.tmp 44), type := 9, pos := "law.go:30", after := #[{ on := 3, ground := Go.Ground.data }], guard := none }) (v := ?_) rfl (by kernel_rfl) (by kernel_rfl) (by kernel_rfl) (fun _ _ _ h => h) (Or.inl ⟨by rfl, ?_⟩) (by assumption) ?_
  rotate_left
  · (intro W hSw; (try dsimp only at hSw); go_simp; try with_reducible rfl)
  try simp only [Act.put, List.setIfInBounds_toArray, List.set_cons_zero, List.set_cons_succ]
  refine wpAnyH_take (i := 5) (oi := { dst := some 46, op := Go.Op.binOp Go.BinOp.eql 9 (Go.Operand.tmp 45) (Go.Operand.const (Go.Value.string { data := #[97] })) 9, type := 4, pos := "law.go:30", after := #[{ on := 4, ground := Go.Ground.data }], guard := none }) (v := ?_) rfl (by kernel_rfl) (by kernel_rfl) (by kernel_rfl) (fun _ _ _ h => h) (Or.inl ⟨by rfl, ?_⟩) (by assumption) ?_
  rotate_left
  · (intro W hSw; (try dsimp only at hSw); go_simp; try with_reducible rfl)
  try simp only [Act.put, List.setIfInBounds_toArray, List.set_cons_zero, List.set_cons_succ]
  refine wpAnyH_take (i := 6) (oi := { dst := some 47, op := Go.Op.move (Go.Operand.tmp 46), type := 4, pos := "law.go:30", after := #[{ on := 5, ground := Go.Ground.data }], guard := none }) (v := ?_) rfl (by kernel_rfl) (by kernel_rfl) (by kernel_rfl) (fun _ _ _ h => h) (Or.inl ⟨by rfl, ?_⟩) (by assumption) ?_
  rotate_left
  · (intro W hSw; (try dsimp only at hSw); go_simp; try with_reducible rfl)
  try simp only [Act.put, List.setIfInBounds_toArray, List.set_cons_zero, List.set_cons_succ]
  refine wpAnyH_take (i := 7) (oi := { dst := some 48, op := Go.Op.fieldAddr 26 (Go.Operand.tmp 2) 1, type := 0, pos := "law.go:30", after := #[{ on := 6, ground := Go.Ground.guard }], guard := some (6, true) }) (v := ?_) rfl (by kernel_rfl) (by kernel_rfl) (by kernel_rfl) (fun _ _ _ h => h) (Or.inl ⟨by rfl, ?_⟩) (by assumption) ?_
  rotate_left
  · (intro W hSw; (try dsimp only at hSw); go_simp; try with_reducible rfl)
  try simp only [Act.put, List.setIfInBounds_toArray, List.set_cons_zero, List.set_cons_succ]
  refine wpAnyH_take (i := 8) (oi := { dst := some 49, op := Go.Op.load 22 (Go.Operand.tmp 48), type := 22, pos := "law.go:30", after := #[{ on := 7, ground := Go.Ground.data }, { on := 6, ground := Go.Ground.guard }], guard := some (6, true) }) (v := ?_) rfl (by kernel_rfl) (by kernel_rfl) (by kernel_rfl) (fun _ _ _ h => h) (Or.inl ⟨by rfl, ?_⟩) (by assumption) ?_
  rotate_left
  · (intro W hSw; (try dsimp only at hSw); go_simp; try with_reducible rfl)
  try simp only [Act.put, List.setIfInBounds_toArray, List.set_cons_zero, List.set_cons_succ]
  refine wpAnyH_take (i := 9) (oi := { dst := some 50, op := Go.Op.indexAddr 22 (Go.Operand.tmp 49) (Go.Operand.const (Go.Value.int Go.IntKind.i64 0)), type := 0, pos := "law.go:30", after := #[{ on := 8, ground := Go.Ground.data }, { on := 6, ground := Go.Ground.guard }], guard := some (6, true) }) (v := ?_) rfl (by kernel_rfl) (by kernel_rfl) (by kernel_rfl) (fun _ _ _ h => h) (Or.inl ⟨by rfl, ?_⟩) (by assumption) ?_
  rotate_left
  · (intro W hSw; (try dsimp only at hSw); go_simp; try with_reducible rfl)
  try simp only [Act.put, List.setIfInBounds_toArray, List.set_cons_zero, List.set_cons_succ]
  refine wpAnyH_take (i := 10) (oi := { dst := some 51, op := Go.Op.fieldAddr 34 (Go.Operand.tmp 50) 2, type := 0, pos := "law.go:30", after := #[{ on := 9, ground := Go.Ground.data }, { on := 6, ground := Go.Ground.guard }], guard := some (6, true) }) (v := ?_) rfl (by kernel_rfl) (by kernel_rfl) (by kernel_rfl) (fun _ _ _ h => h) (Or.inl ⟨by rfl, ?_⟩) (by assumption) ?_
  rotate_left
  · (intro W hSw; (try dsimp only at hSw); go_simp; try with_reducible rfl)
  try simp only [Act.put, List.setIfInBounds_toArray, List.set_cons_zero, List.set_cons_succ]
  refine wpAnyH_take (i := 11) (oi := { dst := some 52, op := Go.Op.load 31 (Go.Operand.tmp 51), type := 31, pos := "law.go:30", after := #[{ on := 10, ground := Go.Ground.data }, { on := 6, ground := Go.Ground.guard }], guard := some (6, true) }) (v := ?_) rfl (by kernel_rfl) (by kernel_rfl) (by kernel_rfl) (fun _ _ _ h => h) (Or.inl ⟨by rfl, ?_⟩) (by assumption) ?_
  rotate_left
  · (intro W hSw; (try dsimp only at hSw); go_simp; try with_reducible rfl)
  try simp only [Act.put, List.setIfInBounds_toArray, List.set_cons_zero, List.set_cons_succ]
  refine wpAnyH_take (i := 12) (oi := { dst := some 53, op := Go.Op.indexAddr 31 (Go.Operand.tmp 52) (Go.Operand.const (Go.Value.int Go.IntKind.i64 0)), type := 0, pos := "law.go:30", after := #[{ on := 11, ground := Go.Ground.data }, { on := 6, ground := Go.Ground.guard }], guard := some (6, true) }) (v := ?_) rfl (by kernel_rfl) (by kernel_rfl) (by kernel_rfl) (fun _ _ _ h => h) (Or.inl ⟨by rfl, ?_⟩) (by assumption) ?_
  rotate_left
  · (intro W hSw; (try dsimp only at hSw); go_simp; try with_reducible rfl)
  try simp only [Act.put, List.setIfInBounds_toArray, List.set_cons_zero, List.set_cons_succ]
  refine wpAnyH_take (i := 13) (oi := { dst := some 54, op := Go.Op.fieldAddr 40 (Go.Operand.tmp 53) 0, type := 0, pos := "law.go:30", after := #[{ on := 12, ground := Go.Ground.data }, { on := 6, ground := Go.Ground.guard }], guard := some (6, true) }) (v := ?_) rfl (by kernel_rfl) (by kernel_rfl) (by kernel_rfl) (fun _ _ _ h => h) (Or.inl ⟨by rfl, ?_⟩) (by assumption) ?_
  rotate_left
  · (intro W hSw; (try dsimp only at hSw); go_simp; try with_reducible rfl)
  try simp only [Act.put, List.setIfInBounds_toArray, List.set_cons_zero, List.set_cons_succ]
  refine wpAnyH_take (i := 14) (oi := { dst := some 55, op := Go.Op.load 9 (Go.Operand.tmp 54), type := 9, pos := "law.go:30", after := #[{ on := 13, ground := Go.Ground.data }, { on := 6, ground := Go.Ground.guard }], guard := some (6, true) }) (v := ?_) rfl (by kernel_rfl) (by kernel_rfl) (by kernel_rfl) (fun _ _ _ h => h) (Or.inl ⟨by rfl, ?_⟩) (by assumption) ?_
  rotate_left
  · (intro W hSw; (try dsimp only at hSw); go_simp; try with_reducible rfl)
  try simp only [Act.put, List.setIfInBounds_toArray, List.set_cons_zero, List.set_cons_succ]
  refine wpAnyH_take (i := 15) (oi := { dst := some 56, op := Go.Op.binOp Go.BinOp.eql 9 (Go.Operand.tmp 55) (Go.Operand.const (Go.Value.string { data := #[120] })) 9, type := 4, pos := "law.go:30", after := #[{ on := 14, ground := Go.Ground.data }, { on := 6, ground := Go.Ground.guard }], guard := some (6, true) }) (v := ?_) rfl (by kernel_rfl) (by kernel_rfl) (by kernel_rfl) (fun _ _ _ h => h) (Or.inl ⟨by rfl, ?_⟩) (by assumption) ?_
  rotate_left
  · (intro W hSw; (try dsimp only at hSw); go_simp; try with_reducible rfl)
  try simp only [Act.put, List.setIfInBounds_toArray, List.set_cons_zero, List.set_cons_succ]
  refine wpAnyH_take (i := 16) (oi := { dst := some 57, op := Go.Op.pick (Go.Operand.tmp 47) (Go.Operand.tmp 56) (Go.Operand.const (Go.Value.bool false)), type := 4, pos := "law.go:30", after := #[{ on := 6, ground := Go.Ground.data }, { on := 15, ground := Go.Ground.data }], guard := none }) (v := ?_) rfl (by kernel_rfl) (by kernel_rfl) (by kernel_rfl) (fun _ _ _ h => h) (Or.inl ⟨by rfl, ?_⟩) (by assumption) ?_
  rotate_left
  · (intro W hSw; (try dsimp only at hSw); go_simp; try with_reducible rfl)
  try simp only [Act.put, List.setIfInBounds_toArray, List.set_cons_zero, List.set_cons_succ]
  refine wpAnyH_take (i := 17) (oi := { dst := some 58, op := Go.Op.move (Go.Operand.tmp 57), type := 4, pos := "law.go:30", after := #[{ on := 16, ground := Go.Ground.data }, { on := 6, ground := Go.Ground.chain }], guard := none }) (v := ?_) rfl (by kernel_rfl) (by kernel_rfl) (by kernel_rfl) (fun _ _ _ h => h) (Or.inl ⟨by rfl, ?_⟩) (by assumption) ?_
  rotate_left
  · (intro W hSw; (try dsimp only at hSw); go_simp; try with_reducible rfl)
  try simp only [Act.put, List.setIfInBounds_toArray, List.set_cons_zero, List.set_cons_succ]
  refine wpAnyH_take (i := 18) (oi := { dst := some 59, op := Go.Op.fieldAddr 26 (Go.Operand.tmp 2) 3, type := 0, pos := "law.go:30", after := #[{ on := 17, ground := Go.Ground.guard }], guard := some (17, true) }) (v := ?_) rfl (by kernel_rfl) (by kernel_rfl) (by kernel_rfl) (fun _ _ _ h => h) (Or.inl ⟨by rfl, ?_⟩) (by assumption) ?_
  rotate_left
  · (intro W hSw; (try dsimp only at hSw); go_simp; try with_reducible rfl)
  try simp only [Act.put, List.setIfInBounds_toArray, List.set_cons_zero, List.set_cons_succ]
  refine wpAnyH_take (i := 19) (oi := { dst := some 60, op := Go.Op.load 24 (Go.Operand.tmp 59), type := 24, pos := "law.go:30", after := #[{ on := 18, ground := Go.Ground.data }, { on := 17, ground := Go.Ground.guard }], guard := some (17, true) }) (v := ?_) rfl (by kernel_rfl) (by kernel_rfl) (by kernel_rfl) (fun _ _ _ h => h) (Or.inl ⟨by rfl, ?_⟩) (by assumption) ?_
  rotate_left
  · (intro W hSw; (try dsimp only at hSw); go_simp; try with_reducible rfl)
  try simp only [Act.put, List.setIfInBounds_toArray, List.set_cons_zero, List.set_cons_succ]
  refine wpAnyH_take (i := 20) (oi := { dst := some 61, op := Go.Op.indexAddr 24 (Go.Operand.tmp 60) (Go.Operand.const (Go.Value.int Go.IntKind.i64 0)), type := 0, pos := "law.go:30", after := #[{ on := 19, ground := Go.Ground.data }, { on := 17, ground := Go.Ground.guard }], guard := some (17, true) }) (v := ?_) rfl (by kernel_rfl) (by kernel_rfl) (by kernel_rfl) (fun _ _ _ h => h) (Or.inl ⟨by rfl, ?_⟩) (by assumption) ?_
  rotate_left
  · (intro W hSw; (try dsimp only at hSw); go_simp; try with_reducible rfl)
  try simp only [Act.put, List.setIfInBounds_toArray, List.set_cons_zero, List.set_cons_succ]
  refine wpAnyH_take (i := 21) (oi := { dst := some 62, op := Go.Op.fieldAddr 57 (Go.Operand.tmp 61) 0, type := 0, pos := "law.go:30", after := #[{ on := 20, ground := Go.Ground.data }, { on := 17, ground := Go.Ground.guard }], guard := some (17, true) }) (v := ?_) rfl (by kernel_rfl) (by kernel_rfl) (by kernel_rfl) (fun _ _ _ h => h) (Or.inl ⟨by rfl, ?_⟩) (by assumption) ?_
  rotate_left
  · (intro W hSw; (try dsimp only at hSw); go_simp; try with_reducible rfl)
  try simp only [Act.put, List.setIfInBounds_toArray, List.set_cons_zero, List.set_cons_succ]
  refine wpAnyH_take (i := 22) (oi := { dst := some 63, op := Go.Op.load 9 (Go.Operand.tmp 62), type := 9, pos := "law.go:30", after := #[{ on := 21, ground := Go.Ground.data }, { on := 17, ground := Go.Ground.guard }], guard := some (17, true) }) (v := ?_) rfl (by kernel_rfl) (by kernel_rfl) (by kernel_rfl) (fun _ _ _ h => h) (Or.inl ⟨by rfl, ?_⟩) (by assumption) ?_
  rotate_left
  · (intro W hSw; (try dsimp only at hSw); go_simp; try with_reducible rfl)
  try simp only [Act.put, List.setIfInBounds_toArray, List.set_cons_zero, List.set_cons_succ]
  refine wpAnyH_take (i := 23) (oi := { dst := some 64, op := Go.Op.binOp Go.BinOp.eql 9 (Go.Operand.tmp 63) (Go.Operand.const (Go.Value.string { data := #[97] })) 9, type := 4, pos := "law.go:30", after := #[{ on := 22, ground := Go.Ground.data }, { on := 17, ground := Go.Ground.guard }], guard := some (17, true) }) (v := ?_) rfl (by kernel_rfl) (by kernel_rfl) (by kernel_rfl) (fun _ _ _ h => h) (Or.inl ⟨by rfl, ?_⟩) (by assumption) ?_
  rotate_left
  · (intro W hSw; (try dsimp only at hSw); go_simp; try with_reducible rfl)
  try simp only [Act.put, List.setIfInBounds_toArray, List.set_cons_zero, List.set_cons_succ]
  refine wpAnyH_take (i := 24) (oi := { dst := some 65, op := Go.Op.pick (Go.Operand.tmp 58) (Go.Operand.tmp 64) (Go.Operand.const (Go.Value.bool false)), type := 4, pos := "law.go:30", after := #[{ on := 17, ground := Go.Ground.data }, { on := 23, ground := Go.Ground.data }], guard := none }) (v := ?_) rfl (by kernel_rfl) (by kernel_rfl) (by kernel_rfl) (fun _ _ _ h => h) (Or.inl ⟨by rfl, ?_⟩) (by assumption) ?_
  rotate_left
  · (intro W hSw; (try dsimp only at hSw); go_simp; try with_reducible rfl)
  try simp only [Act.put, List.setIfInBounds_toArray, List.set_cons_zero, List.set_cons_succ]
  refine wpAnyH_take (i := 25) (oi := { dst := some 66, op := Go.Op.move (Go.Operand.tmp 65), type := 4, pos := "law.go:30", after := #[{ on := 24, ground := Go.Ground.data }, { on := 17, ground := Go.Ground.chain }], guard := none }) (v := ?_) rfl (by kernel_rfl) (by kernel_rfl) (by kernel_rfl) (fun _ _ _ h => h) (Or.inl ⟨by rfl, ?_⟩) (by assumption) ?_
  rotate_left
  · (intro W hSw; (try dsimp only at hSw); go_simp; try with_reducible rfl)
  try simp only [Act.put, List.setIfInBounds_toArray, List.set_cons_zero, List.set_cons_succ]
  refine wpAnyH_take (i := 26) (oi := { dst := some 67, op := Go.Op.load 26 (Go.Operand.tmp 2), type := 26, pos := "law.go:30", after := #[{ on := 25, ground := Go.Ground.guard }], guard := some (25, true) }) (v := ?_) rfl (by kernel_rfl) (by kernel_rfl) (by kernel_rfl) (fun _ _ _ h => h) (Or.inl ⟨by rfl, ?_⟩) (by assumption) ?_
  rotate_left
  · (intro W hSw; (try dsimp only at hSw); go_simp; try with_reducible rfl)
  try simp only [Act.put, List.setIfInBounds_toArray, List.set_cons_zero, List.set_cons_succ]
  refine wpAnyH_ready (rs := [27]) (by kernel_rfl) (by simp) ?_
  refine AllReadyH.cons (o := { dst := some 68, op := Go.Op.call { callee := Go.Callee.value (Go.Operand.func 15), args := #[Go.Operand.tmp 67], argTypes := #[26] }, type := 4, pos := "law.go:30", after := #[{ on := 26, ground := Go.Ground.data }, { on := 25, ground := Go.Ground.chain }, { on := 25, ground := Go.Ground.guard }], guard := some (25, true) }) rfl (fun K hK => ?_) AllReadyH.nil
  go_simp
  go_at_call 15
  with_reducible refine (KI1.out _ (by assumption)).mono ?_
  rintro e w7 ⟨rfl, hb⟩
  have hSw7 : AlS w N B1 B2 y vb vc g nb w7 := AlS.on (show AlS w N B1 B2 y vb vc g nb _ by assumption) hb
  clear hb
  refine hK.out _ _ ?_ (fun hHeld => ?_)
  · exact hSw7
  clear hK K
  try simp only [Act.put, List.setIfInBounds_toArray, List.set_cons_zero, List.set_cons_succ]
  refine wpAnyH_take (i := 28) (oi := { dst := some 69, op := Go.Op.pick (Go.Operand.tmp 66) (Go.Operand.tmp 68) (Go.Operand.const (Go.Value.bool false)), type := 4, pos := "law.go:30", after := #[{ on := 25, ground := Go.Ground.data }, { on := 27, ground := Go.Ground.data }], guard := none }) (v := ?_) rfl (by kernel_rfl) (by kernel_rfl) (by kernel_rfl) (fun _ _ _ h => h) (Or.inl ⟨by rfl, ?_⟩) (by assumption) ?_
  rotate_left
  · (intro W hSw; (try dsimp only at hSw); go_simp; try with_reducible rfl)
  try simp only [Act.put, List.setIfInBounds_toArray, List.set_cons_zero, List.set_cons_succ]
  refine wpAnyH_take (i := 29) (oi := { dst := some 70, op := Go.Op.move (Go.Operand.tmp 69), type := 4, pos := "law.go:30", after := #[{ on := 28, ground := Go.Ground.data }, { on := 27, ground := Go.Ground.chain }], guard := none }) (v := ?_) rfl (by kernel_rfl) (by kernel_rfl) (by kernel_rfl) (fun _ _ _ h => h) (Or.inl ⟨by rfl, ?_⟩) (by assumption) ?_
  rotate_left
  · (intro W hSw; (try dsimp only at hSw); go_simp; try with_reducible rfl)
  try simp only [Act.put, List.setIfInBounds_toArray, List.set_cons_zero, List.set_cons_succ]
  refine wpAnyH_take (i := 30) (oi := { dst := some 71, op := Go.Op.load 26 (Go.Operand.tmp 1), type := 26, pos := "law.go:30", after := #[{ on := 29, ground := Go.Ground.guard }], guard := some (29, true) }) (v := ?_) rfl (by kernel_rfl) (by kernel_rfl) (by kernel_rfl) (fun _ _ _ h => h) (Or.inl ⟨by rfl, ?_⟩) (by assumption) ?_
  rotate_left
  · (intro W hSw; (try dsimp only at hSw); go_simp; try with_reducible rfl)
  try simp only [Act.put, List.setIfInBounds_toArray, List.set_cons_zero, List.set_cons_succ]
  refine wpAnyH_ready (rs := [31]) (by kernel_rfl) (by simp) ?_
  refine AllReadyH.cons (o := { dst := some 72, op := Go.Op.call { callee := Go.Callee.value (Go.Operand.func 15), args := #[Go.Operand.tmp 71], argTypes := #[26] }, type := 4, pos := "law.go:30", after := #[{ on := 30, ground := Go.Ground.data }, { on := 29, ground := Go.Ground.chain }, { on := 29, ground := Go.Ground.guard }], guard := some (29, true) }) rfl (fun K hK => ?_) AllReadyH.nil
  go_simp
  go_at_call 15
  with_reducible refine (KI2.out _ (by assumption)).mono ?_
  rintro e w8 ⟨rfl, hb⟩
  have hSw8 : AlS w N B1 B2 y vb vc g nb w8 := AlS.on (show AlS w N B1 B2 y vb vc g nb _ by assumption) hb
  clear hb
  refine hK.out _ _ ?_ (fun hHeld => ?_)
  · exact hSw8
  clear hK K
  try simp only [Act.put, List.setIfInBounds_toArray, List.set_cons_zero, List.set_cons_succ]
  refine wpAnyH_take (i := 32) (oi := { dst := some 73, op := Go.Op.unOp Go.UnOp.not 4 (Go.Operand.tmp 72), type := 4, pos := "law.go:30", after := #[{ on := 31, ground := Go.Ground.data }, { on := 29, ground := Go.Ground.guard }], guard := some (29, true) }) (v := ?_) rfl (by kernel_rfl) (by kernel_rfl) (by kernel_rfl) (fun _ _ _ h => h) (Or.inl ⟨by rfl, ?_⟩) (by assumption) ?_
  rotate_left
  · (intro W hSw; (try dsimp only at hSw); go_simp; try with_reducible rfl)
  try simp only [Act.put, List.setIfInBounds_toArray, List.set_cons_zero, List.set_cons_succ]
  refine wpAnyH_take (i := 33) (oi := { dst := some 74, op := Go.Op.pick (Go.Operand.tmp 70) (Go.Operand.tmp 73) (Go.Operand.const (Go.Value.bool false)), type := 4, pos := "law.go:30", after := #[{ on := 29, ground := Go.Ground.data }, { on := 32, ground := Go.Ground.data }], guard := none }) (v := ?_) rfl (by kernel_rfl) (by kernel_rfl) (by kernel_rfl) (fun _ _ _ h => h) (Or.inl ⟨by rfl, ?_⟩) (by assumption) ?_
  rotate_left
  · (intro W hSw; (try dsimp only at hSw); go_simp; try with_reducible rfl)
  try simp only [Act.put, List.setIfInBounds_toArray, List.set_cons_zero, List.set_cons_succ]
  refine wpAnyH_take (i := 34) (oi := { dst := some 75, op := Go.Op.move (Go.Operand.tmp 74), type := 4, pos := "law.go:30", after := #[{ on := 33, ground := Go.Ground.data }, { on := 31, ground := Go.Ground.chain }], guard := none }) (v := ?_) rfl (by kernel_rfl) (by kernel_rfl) (by kernel_rfl) (fun _ _ _ h => h) (Or.inl ⟨by rfl, ?_⟩) (by assumption) ?_
  rotate_left
  · (intro W hSw; (try dsimp only at hSw); go_simp; try with_reducible rfl)
  try simp only [Act.put, List.setIfInBounds_toArray, List.set_cons_zero, List.set_cons_succ]
  refine wpAnyH_take (i := 35) (oi := { dst := some 76, op := Go.Op.load 26 (Go.Operand.tmp 1), type := 26, pos := "law.go:30", after := #[{ on := 34, ground := Go.Ground.guard }], guard := some (34, true) }) (v := ?_) rfl (by kernel_rfl) (by kernel_rfl) (by kernel_rfl) (fun _ _ _ h => h) (Or.inl ⟨by rfl, ?_⟩) (by assumption) ?_
  rotate_left
  · (intro W hSw; (try dsimp only at hSw); go_simp; try with_reducible rfl)
  try simp only [Act.put, List.setIfInBounds_toArray, List.set_cons_zero, List.set_cons_succ]
  refine wpAnyH_ready (rs := [36]) (by kernel_rfl) (by simp) ?_
  refine AllReadyH.cons (o := { dst := some 77, op := Go.Op.call { callee := Go.Callee.value (Go.Operand.func 28), args := #[], argTypes := #[] }, type := 26, pos := "law.go:30", after := #[{ on := 34, ground := Go.Ground.chain }, { on := 34, ground := Go.Ground.guard }], guard := some (34, true) }) rfl (fun K hK => ?_) AllReadyH.nil
  go_simp
  go_at_call 28
  with_reducible refine (KSa.out _ (by assumption)).mono ?_
  rintro e w9 ⟨rfl, hm9, hb⟩
  have hSw9 : AlS w N B1 B2 y vb vc g nb w9 := AlS.on (show AlS w N B1 B2 y vb vc g nb _ by assumption) hb
  clear hb
  refine hK.out _ _ ?_ (fun hHeld => ?_)
  · exact hSw9
  clear hK K
  try simp only [Act.put, List.setIfInBounds_toArray, List.set_cons_zero, List.set_cons_succ]
  refine wpAnyH_ready (rs := [37]) (by kernel_rfl) (by simp) ?_
  refine AllReadyH.cons (o := { dst := some 78, op := Go.Op.call { callee := Go.Callee.value (Go.Operand.func 16), args := #[Go.Operand.tmp 76, Go.Operand.tmp 77], argTypes := #[26, 26] }, type := 4, pos := "law.go:30", after := #[{ on := 35, ground := Go.Ground.data }, { on := 36, ground := Go.Ground.data }, { on := 36, ground := Go.Ground.chain }, { on := 34, ground := Go.Ground.guard }], guard := some (34, true) }) rfl (fun K hK => ?_) AllReadyH.nil
  go_simp
  go_at_call 16
  with_reducible refine (KS1.out _ _ (by assumption) hm9.out).mono ?_
  rintro e w10 ⟨rfl, hb⟩
  have hSw10 : AlS w N B1 B2 y vb vc g nb w10 := AlS.on (show AlS w N B1 B2 y vb vc g nb _ by assumption) hb
  clear hb
  clear hm9
  refine hK.out _ _ ?_ (fun hHeld => ?_)
  · exact hSw10
  clear hK K
  try simp only [Act.put, List.setIfInBounds_toArray, List.set_cons_zero, List.set_cons_succ]
  refine wpAnyH_take (i := 38) (oi := { dst := some 79, op := Go.Op.pick (Go.Operand.tmp 75) (Go.Operand.tmp 78) (Go.Operand.const (Go.Value.bool false)), type := 4, pos := "law.go:30", after := #[{ on := 34, ground := Go.Ground.data }, { on := 37, ground := Go.Ground.data }], guard := none }) (v := ?_) rfl (by kernel_rfl) (by kernel_rfl) (by kernel_rfl) (fun _ _ _ h => h) (Or.inl ⟨by rfl, ?_⟩) (by assumption) ?_
  rotate_left
  · (intro W hSw; (try dsimp only at hSw); go_simp; try with_reducible rfl)
  try simp only [Act.put, List.setIfInBounds_toArray, List.set_cons_zero, List.set_cons_succ]
  refine wpAnyH_take (i := 39) (oi := { dst := some 80, op := Go.Op.move (Go.Operand.tmp 79), type := 4, pos := "law.go:30", after := #[{ on := 38, ground := Go.Ground.data }, { on := 37, ground := Go.Ground.chain }], guard := none }) (v := ?_) rfl (by kernel_rfl) (by kernel_rfl) (by kernel_rfl) (fun _ _ _ h => h) (Or.inl ⟨by rfl, ?_⟩) (by assumption) ?_
  rotate_left
  · (intro W hSw; (try dsimp only at hSw); go_simp; try with_reducible rfl)
  try simp only [Act.put, List.setIfInBounds_toArray, List.set_cons_zero, List.set_cons_succ]
  refine wpAnyH_take (i := 40) (oi := { dst := some 81, op := Go.Op.load 26 (Go.Operand.tmp 1), type := 26, pos := "law.go:30", after := #[{ on := 39, ground := Go.Ground.guard }], guard := some (39, true) }) (v := ?_) rfl (by kernel_rfl) (by kernel_rfl) (by kernel_rfl) (fun _ _ _ h => h) (Or.inl ⟨by rfl, ?_⟩) (by assumption) ?_
  rotate_left
  · (intro W hSw; (try dsimp only at hSw); go_simp; try with_reducible rfl)
  try simp only [Act.put, List.setIfInBounds_toArray, List.set_cons_zero, List.set_cons_succ]
  refine wpAnyH_take (i := 41) (oi := { dst := some 82, op := Go.Op.load 26 (Go.Operand.tmp 2), type := 26, pos := "law.go:30", after := #[{ on := 39, ground := Go.Ground.guard }], guard := some (39, true) }) (v := ?_) rfl (by kernel_rfl) (by kernel_rfl) (by kernel_rfl) (fun _ _ _ h => h) (Or.inl ⟨by rfl, ?_⟩) (by assumption) ?_
  rotate_left
  · (intro W hSw; (try dsimp only at hSw); go_simp; try with_reducible rfl)
  try simp only [Act.put, List.setIfInBounds_toArray, List.set_cons_zero, List.set_cons_succ]
  refine wpAnyH_ready (rs := [42]) (by kernel_rfl) (by simp) ?_
  refine AllReadyH.cons (o := { dst := some 83, op := Go.Op.call { callee := Go.Callee.value (Go.Operand.func 16), args := #[Go.Operand.tmp 81, Go.Operand.tmp 82], argTypes := #[26, 26] }, type := 4, pos := "law.go:30", after := #[{ on := 40, ground := Go.Ground.data }, { on := 41, ground := Go.Ground.data }, { on := 39, ground := Go.Ground.chain }, { on := 39, ground := Go.Ground.guard }], guard := some (39, true) }) rfl (fun K hK => ?_) AllReadyH.nil
  go_simp
  go_at_call 16
  with_reducible refine (KS2.out _ (by assumption)).mono ?_
  rintro e w11 ⟨rfl, hb⟩
  have hSw11 : AlS w N B1 B2 y vb vc g nb w11 := AlS.on (show AlS w N B1 B2 y vb vc g nb _ by assumption) hb
  clear hb
  refine hK.out _ _ ?_ (fun hHeld => ?_)
  · exact hSw11
  clear hK K
  try simp only [Act.put, List.setIfInBounds_toArray, List.set_cons_zero, List.set_cons_succ]
  refine wpAnyH_take (i := 43) (oi := { dst := some 84, op := Go.Op.unOp Go.UnOp.not 4 (Go.Operand.tmp 83), type := 4, pos := "law.go:30", after := #[{ on := 42, ground := Go.Ground.data }, { on := 39, ground := Go.Ground.guard }], guard := some (39, true) }) (v := ?_) rfl (by kernel_rfl) (by kernel_rfl) (by kernel_rfl) (fun _ _ _ h => h) (Or.inl ⟨by rfl, ?_⟩) (by assumption) ?_
  rotate_left
  · (intro W hSw; (try dsimp only at hSw); go_simp; try with_reducible rfl)
  try simp only [Act.put, List.setIfInBounds_toArray, List.set_cons_zero, List.set_cons_succ]
  refine wpAnyH_take (i := 44) (oi := { dst := some 85, op := Go.Op.pick (Go.Operand.tmp 80) (Go.Operand.tmp 84) (Go.Operand.const (Go.Value.bool false)), type := 4, pos := "law.go:30", after := #[{ on := 39, ground := Go.Ground.data }, { on := 43, ground := Go.Ground.data }], guard := none }) (v := ?_) rfl (by kernel_rfl) (by kernel_rfl) (by kernel_rfl) (fun _ _ _ h => h) (Or.inl ⟨by rfl, ?_⟩) (by assumption) ?_
  rotate_left
  · (intro W hSw; (try dsimp only at hSw); go_simp; try with_reducible rfl)
  try simp only [Act.put, List.setIfInBounds_toArray, List.set_cons_zero, List.set_cons_succ]
  refine wpAnyH_take (i := 45) (oi := { dst := some 86, op := Go.Op.move (Go.Operand.tmp 85), type := 4, pos := "law.go:30", after := #[{ on := 44, ground := Go.Ground.data }, { on := 42, ground := Go.Ground.chain }], guard := none }) (v := ?_) rfl (by kernel_rfl) (by kernel_rfl) (by kernel_rfl) (fun _ _ _ h => h) (Or.inl ⟨by rfl, ?_⟩) (by assumption) ?_
  rotate_left
  · (intro W hSw; (try dsimp only at hSw); go_simp; try with_reducible rfl)
  try simp only [Act.put, List.setIfInBounds_toArray, List.set_cons_zero, List.set_cons_succ]
  refine wpAnyH_take (i := 46) (oi := { dst := some 87, op := Go.Op.move (Go.Operand.tmp 4), type := 44, pos := "law.go:30", after := #[{ on := 45, ground := Go.Ground.guard }], guard := some (45, true) }) (v := ?_) rfl (by kernel_rfl) (by kernel_rfl) (by kernel_rfl) (fun _ _ _ h => h) (Or.inl ⟨by rfl, ?_⟩) (by assumption) ?_
  rotate_left
  · (intro W hSw; (try dsimp only at hSw); go_simp; try with_reducible rfl)
  try simp only [Act.put, List.setIfInBounds_toArray, List.set_cons_zero, List.set_cons_succ]
  refine wpAnyH_take (i := 47) (oi := { dst := some 88, op := Go.Op.binOp Go.BinOp.eql 44 (Go.Operand.tmp 87) (Go.Operand.const (Go.Value.int Go.IntKind.i64 0)) 44, type := 4, pos := "law.go:30", after := #[{ on := 46, ground := Go.Ground.data }, { on := 45, ground := Go.Ground.guard }], guard := some (45, true) }) (v := ?_) rfl (by kernel_rfl) (by kernel_rfl) (by kernel_rfl) (fun _ _ _ h => h) (Or.inl ⟨by rfl, ?_⟩) (by assumption) ?_
  rotate_left
  · (intro W hSw; (try dsimp only at hSw); go_simp; try with_reducible rfl)
  try simp only [Act.put, List.setIfInBounds_toArray, List.set_cons_zero, List.set_cons_succ]
  refine wpAnyH_take (i := 48) (oi := { dst := some 89, op := Go.Op.pick (Go.Operand.tmp 86) (Go.Operand.tmp 88) (Go.Operand.const (Go.Value.bool false)), type := 4, pos := "law.go:30", after := #[{ on := 45, ground := Go.Ground.data }, { on := 47, ground := Go.Ground.data }], guard := none }) (v := ?_) rfl (by kernel_rfl) (by kernel_rfl) (by kernel_rfl) (fun _ _ _ h => h) (Or.inl ⟨by rfl, ?_⟩) (by assumption) ?_
  rotate_left
  · (intro W hSw; (try dsimp only at hSw); go_simp; try with_reducible rfl)
  try simp only [Act.put, List.setIfInBounds_toArray, List.set_cons_zero, List.set_cons_succ]
  refine wpAnyH_take (i := 49) (oi := { dst := some 90, op := Go.Op.move (Go.Operand.tmp 89), type := 4, pos := "law.go:30", after := #[{ on := 48, ground := Go.Ground.data }, { on := 45, ground := Go.Ground.chain }], guard := none }) (v := ?_) rfl (by kernel_rfl) (by kernel_rfl) (by kernel_rfl) (fun _ _ _ h => h) (Or.inl ⟨by rfl, ?_⟩) (by assumption) ?_
  rotate_left
  · (intro W hSw; (try dsimp only at hSw); go_simp; try with_reducible rfl)
  try simp only [Act.put, List.setIfInBounds_toArray, List.set_cons_zero, List.set_cons_succ]
  refine wpAnyH_take (i := 50) (oi := { dst := some 91, op := Go.Op.move (Go.Operand.tmp 3), type := 43, pos := "law.go:30", after := #[{ on := 49, ground := Go.Ground.guard }], guard := some (49, true) }) (v := ?_) rfl (by kernel_rfl) (by kernel_rfl) (by kernel_rfl) (fun _ _ _ h => h) (Or.inl ⟨by rfl, ?_⟩) (by assumption) ?_
  rotate_left
  · (intro W hSw; (try dsimp only at hSw); go_simp; try with_reducible rfl)
  try simp only [Act.put, List.setIfInBounds_toArray, List.set_cons_zero, List.set_cons_succ]
  refine wpAnyH_ready (rs := [51]) (by kernel_rfl) (by simp) ?_
  refine AllReadyH.cons (o := { dst := some 92, op := Go.Op.call { callee := Go.Callee.value (Go.Operand.func 19), args := #[Go.Operand.tmp 91], argTypes := #[43] }, type := 3, pos := "law.go:30", after := #[{ on := 50, ground := Go.Ground.data }, { on := 49, ground := Go.Ground.chain }, { on := 49, ground := Go.Ground.guard }], guard := some (49, true) }) rfl (fun K hK => ?_) AllReadyH.nil
  go_simp
  go_at_call 19
  with_reducible refine (KL.out _ (by assumption)).mono ?_
  rintro e w12 ⟨rfl, rfl⟩
  refine hK.out _ _ ?_ (fun hHeld => ?_)
  · exact by assumption
  clear hK K
  try simp only [Act.put, List.setIfInBounds_toArray, List.set_cons_zero, List.set_cons_succ]
  refine wpAnyH_take (i := 52) (oi := { dst := some 93, op := Go.Op.binOp Go.BinOp.eql 3 (Go.Operand.tmp 92) (Go.Operand.const (Go.Value.int Go.IntKind.i64 2)) 3, type := 4, pos := "law.go:30", after := #[{ on := 51, ground := Go.Ground.data }, { on := 49, ground := Go.Ground.guard }], guard := some (49, true) }) (v := ?_) rfl (by kernel_rfl) (by kernel_rfl) (by kernel_rfl) (fun _ _ _ h => h) (Or.inl ⟨by rfl, ?_⟩) (by assumption) ?_
  rotate_left
  · (intro W hSw; (try dsimp only at hSw); go_simp; try with_reducible rfl)
  try simp only [Act.put, List.setIfInBounds_toArray, List.set_cons_zero, List.set_cons_succ]
  refine wpAnyH_take (i := 53) (oi := { dst := some 94, op := Go.Op.pick (Go.Operand.tmp 90) (Go.Operand.tmp 93) (Go.Operand.const (Go.Value.bool false)), type := 4, pos := "law.go:30", after := #[{ on := 49, ground := Go.Ground.data }, { on := 52, ground := Go.Ground.data }], guard := none }) (v := ?_) rfl (by kernel_rfl) (by kernel_rfl) (by kernel_rfl) (fun _ _ _ h => h) (Or.inl ⟨by rfl, ?_⟩) (by assumption) ?_
  rotate_left
  · (intro W hSw; (try dsimp only at hSw); go_simp; try with_reducible rfl)
  try simp only [Act.put, List.setIfInBounds_toArray, List.set_cons_zero, List.set_cons_succ]
  refine wpAnyH_take (i := 54) (oi := { dst := some 95, op := Go.Op.move (Go.Operand.tmp 94), type := 4, pos := "law.go:30", after := #[{ on := 53, ground := Go.Ground.data }, { on := 51, ground := Go.Ground.chain }], guard := none }) (v := ?_) rfl (by kernel_rfl) (by kernel_rfl) (by kernel_rfl) (fun _ _ _ h => h) (Or.inl ⟨by rfl, ?_⟩) (by assumption) ?_
  rotate_left
  · (intro W hSw; (try dsimp only at hSw); go_simp; try with_reducible rfl)
  try simp only [Act.put, List.setIfInBounds_toArray, List.set_cons_zero, List.set_cons_succ]
  refine wpAnyH_take (i := 55) (oi := { dst := some 96, op := Go.Op.move (Go.Operand.tmp 3), type := 43, pos := "law.go:30", after := #[{ on := 54, ground := Go.Ground.guard }], guard := some (54, true) }) (v := ?_) rfl (by kernel_rfl) (by kernel_rfl) (by kernel_rfl) (fun _ _ _ h => h) (Or.inl ⟨by rfl, ?_⟩) (by assumption) ?_
  rotate_left
  · (intro W hSw; (try dsimp only at hSw); go_simp; try with_reducible rfl)
  try simp only [Act.put, List.setIfInBounds_toArray, List.set_cons_zero, List.set_cons_succ]
  refine wpAnyH_ready (rs := [56]) (by kernel_rfl) (by simp) ?_
  refine AllReadyH.cons (o := { dst := some 97, op := Go.Op.call { callee := Go.Callee.value (Go.Operand.func 22), args := #[Go.Operand.tmp 96, Go.Operand.const (Go.Value.int Go.IntKind.i64 0), Go.Operand.const (Go.Value.int Go.IntKind.i64 1)], argTypes := #[43, 3, 3] }, type := 2, pos := "law.go:30", after := #[{ on := 55, ground := Go.Ground.data }, { on := 54, ground := Go.Ground.chain }, { on := 54, ground := Go.Ground.guard }], guard := some (54, true) }) rfl (fun K hK => ?_) AllReadyH.nil
  go_simp
  go_at_call 22
  with_reducible refine (KB.out _ (by assumption)).mono ?_
  rintro e w13 ⟨rfl, hb⟩
  have hSw13 : AlS w N B1 B2 y vb vc g nb w13 := AlS.on (show AlS w N B1 B2 y vb vc g nb _ by assumption) hb
  clear hb
  refine hK.out _ _ ?_ (fun hHeld => ?_)
  · exact hSw13
  clear hK K
  try simp only [Act.put, List.setIfInBounds_toArray, List.set_cons_zero, List.set_cons_succ]
  refine wpAnyH_take (i := 57) (oi := { dst := some 98, op := Go.Op.binOp Go.BinOp.eql 2 (Go.Operand.tmp 97) (Go.Operand.const (Go.Value.int Go.IntKind.i64 4)) 2, type := 4, pos := "law.go:30", after := #[{ on := 56, ground := Go.Ground.data }, { on := 54, ground := Go.Ground.guard }], guard := some (54, true) }) (v := ?_) rfl (by kernel_rfl) (by kernel_rfl) (by kernel_rfl) (fun _ _ _ h => h) (Or.inl ⟨by rfl, ?_⟩) (by assumption) ?_
  rotate_left
  · (intro W hSw; (try dsimp only at hSw); go_simp; try with_reducible rfl)
  try simp only [Act.put, List.setIfInBounds_toArray, List.set_cons_zero, List.set_cons_succ]
  refine wpAnyH_take (i := 58) (oi := { dst := some 99, op := Go.Op.pick (Go.Operand.tmp 95) (Go.Operand.tmp 98) (Go.Operand.const (Go.Value.bool false)), type := 4, pos := "law.go:30", after := #[{ on := 54, ground := Go.Ground.data }, { on := 57, ground := Go.Ground.data }], guard := none }) (v := ?_) rfl (by kernel_rfl) (by kernel_rfl) (by kernel_rfl) (fun _ _ _ h => h) (Or.inl ⟨by rfl, ?_⟩) (by assumption) ?_
  rotate_left
  · (intro W hSw; (try dsimp only at hSw); go_simp; try with_reducible rfl)
  try simp only [Act.put, List.setIfInBounds_toArray, List.set_cons_zero, List.set_cons_succ]
  refine wpAnyH_take (i := 59) (oi := { dst := some 100, op := Go.Op.move (Go.Operand.tmp 99), type := 4, pos := "law.go:30", after := #[{ on := 58, ground := Go.Ground.data }, { on := 56, ground := Go.Ground.chain }], guard := none }) (v := ?_) rfl (by kernel_rfl) (by kernel_rfl) (by kernel_rfl) (fun _ _ _ h => h) (Or.inl ⟨by rfl, ?_⟩) (by assumption) ?_
  rotate_left
  · (intro W hSw; (try dsimp only at hSw); go_simp; try with_reducible rfl)
  try simp only [Act.put, List.setIfInBounds_toArray, List.set_cons_zero, List.set_cons_succ]
  refine wpAnyH_take (i := 60) (oi := { dst := some 101, op := Go.Op.move (Go.Operand.tmp 5), type := 43, pos := "law.go:30", after := #[{ on := 59, ground := Go.Ground.guard }], guard := some (59, true) }) (v := ?_) rfl (by kernel_rfl) (by kernel_rfl) (by kernel_rfl) (fun _ _ _ h => h) (Or.inl ⟨by rfl, ?_⟩) (by assumption) ?_
  rotate_left
  · (intro W hSw; (try dsimp only at hSw); go_simp; try with_reducible rfl)
  try simp only [Act.put, List.setIfInBounds_toArray, List.set_cons_zero, List.set_cons_succ]
  refine wpAnyH_take (i := 61) (oi := { dst := some 102, op := Go.Op.binOp Go.BinOp.eql 43 (Go.Operand.tmp 101) (Go.Operand.const (Go.Value.pointer none)) 43, type := 4, pos := "law.go:30", after := #[{ on := 60, ground := Go.Ground.data }, { on := 59, ground := Go.Ground.guard }], guard := some (59, true) }) (v := ?_) rfl (by kernel_rfl) (by kernel_rfl) (by kernel_rfl) (fun _ _ _ h => h) (Or.inl ⟨by rfl, ?_⟩) (by assumption) ?_
  rotate_left
  · (intro W hSw; (try dsimp only at hSw); go_simp; try with_reducible rfl)
  try simp only [Act.put, List.setIfInBounds_toArray, List.set_cons_zero, List.set_cons_succ]
  refine wpAnyH_take (i := 62) (oi := { dst := some 103, op := Go.Op.pick (Go.Operand.tmp 100) (Go.Operand.tmp 102) (Go.Operand.const (Go.Value.bool false)), type := 4, pos := "law.go:30", after := #[{ on := 59, ground := Go.Ground.data }, { on := 61, ground := Go.Ground.data }], guard := none }) (v := ?_) rfl (by kernel_rfl) (by kernel_rfl) (by kernel_rfl) (fun _ _ _ h => h) (Or.inl ⟨by rfl, ?_⟩) (by assumption) ?_
  rotate_left
  · (intro W hSw; (try dsimp only at hSw); go_simp; try with_reducible rfl)
  try simp only [Act.put, List.setIfInBounds_toArray, List.set_cons_zero, List.set_cons_succ]
  refine wpAnyH_take (i := 63) (oi := { dst := some 104, op := Go.Op.move (Go.Operand.tmp 103), type := 4, pos := "law.go:30", after := #[{ on := 62, ground := Go.Ground.data }, { on := 59, ground := Go.Ground.chain }], guard := none }) (v := ?_) rfl (by kernel_rfl) (by kernel_rfl) (by kernel_rfl) (fun _ _ _ h => h) (Or.inl ⟨by rfl, ?_⟩) (by assumption) ?_
  rotate_left
  · (intro W hSw; (try dsimp only at hSw); go_simp; try with_reducible rfl)
  try simp only [Act.put, List.setIfInBounds_toArray, List.set_cons_zero, List.set_cons_succ]
  refine wpAnyH_take (i := 64) (oi := { dst := some 105, op := Go.Op.move (Go.Operand.tmp 6), type := 44, pos := "law.go:30", after := #[{ on := 63, ground := Go.Ground.guard }], guard := some (63, true) }) (v := ?_) rfl (by kernel_rfl) (by kernel_rfl) (by kernel_rfl) (fun _ _ _ h => h) (Or.inl ⟨by rfl, ?_⟩) (by assumption) ?_
  rotate_left
  · (intro W hSw; (try dsimp only at hSw); go_simp; try with_reducible rfl)
  try simp only [Act.put, List.setIfInBounds_toArray, List.set_cons_zero, List.set_cons_succ]
  refine wpAnyH_take (i := 65) (oi := { dst := some 106, op := Go.Op.binOp Go.BinOp.eql 44 (Go.Operand.tmp 105) (Go.Operand.const (Go.Value.int Go.IntKind.i64 43)) 44, type := 4, pos := "law.go:30", after := #[{ on := 64, ground := Go.Ground.data }, { on := 63, ground := Go.Ground.guard }], guard := some (63, true) }) (v := ?_) rfl (by kernel_rfl) (by kernel_rfl) (by kernel_rfl) (fun _ _ _ h => h) (Or.inl ⟨by rfl, ?_⟩) (by assumption) ?_
  rotate_left
  · (intro W hSw; (try dsimp only at hSw); go_simp; try with_reducible rfl)
  try simp only [Act.put, List.setIfInBounds_toArray, List.set_cons_zero, List.set_cons_succ]
  refine wpAnyH_take (i := 66) (oi := { dst := some 107, op := Go.Op.pick (Go.Operand.tmp 104) (Go.Operand.tmp 106) (Go.Operand.const (Go.Value.bool false)), type := 4, pos := "law.go:30", after := #[{ on := 63, ground := Go.Ground.data }, { on := 65, ground := Go.Ground.data }], guard := none }) (v := ?_) rfl (by kernel_rfl) (by kernel_rfl) (by kernel_rfl) (fun _ _ _ h => h) (Or.inl ⟨by rfl, ?_⟩) (by assumption) ?_
  rotate_left
  · (intro W hSw; (try dsimp only at hSw); go_simp; try with_reducible rfl)
  try simp only [Act.put, List.setIfInBounds_toArray, List.set_cons_zero, List.set_cons_succ]
  refine wpAnyH_take (i := 67) (oi := { dst := some 0, op := Go.Op.assign (Go.Operand.tmp 107), type := 4, pos := "law.go:30", after := ([{ on := 66, ground := Go.Ground.data }, { on := 63, ground := Go.Ground.chain }, { on := 0, ground := Go.Ground.phase }, { on := 1, ground := Go.Ground.phase }, { on := 2, ground := Go.Ground.phase }, { on := 3, ground := Go.Ground.phase }, { on := 4, ground := Go.Ground.phase }, { on := 5, ground := Go.Ground.phase }, { on := 6, ground := Go.Ground.phase }, { on := 7, ground := Go.Ground.phase }, { on := 8, ground := Go.Ground.phase }, { on := 9, ground := Go.Ground.phase }, { on := 10, ground := Go.Ground.phase }, { on := 11, ground := Go.Ground.phase }, { on := 12, ground := Go.Ground.phase }, { on := 13, ground := Go.Ground.phase }, { on := 14, ground := Go.Ground.phase }, { on := 15, ground := Go.Ground.phase }, { on := 16, ground := Go.Ground.phase }, { on := 17, ground := Go.Ground.phase }, { on := 18, ground := Go.Ground.phase }, { on := 19, ground := Go.Ground.phase }, { on := 20, ground := Go.Ground.phase }, { on := 21, ground := Go.Ground.phase }, { on := 22, ground := Go.Ground.phase }, { on := 23, ground := Go.Ground.phase }, { on := 24, ground := Go.Ground.phase }, { on := 25, ground := Go.Ground.phase }, { on := 26, ground := Go.Ground.phase }, { on := 27, ground := Go.Ground.phase }, { on := 28, ground := Go.Ground.phase }, { on := 29, ground := Go.Ground.phase }, { on := 30, ground := Go.Ground.phase }, { on := 31, ground := Go.Ground.phase }, { on := 32, ground := Go.Ground.phase }, { on := 33, ground := Go.Ground.phase }, { on := 34, ground := Go.Ground.phase }, { on := 35, ground := Go.Ground.phase }, { on := 36, ground := Go.Ground.phase }, { on := 37, ground := Go.Ground.phase }, { on := 38, ground := Go.Ground.phase }, { on := 39, ground := Go.Ground.phase }, { on := 40, ground := Go.Ground.phase }, { on := 41, ground := Go.Ground.phase }, { on := 42, ground := Go.Ground.phase }, { on := 43, ground := Go.Ground.phase }, { on := 44, ground := Go.Ground.phase }, { on := 45, ground := Go.Ground.phase }, { on := 46, ground := Go.Ground.phase }, { on := 47, ground := Go.Ground.phase }, { on := 48, ground := Go.Ground.phase }, { on := 49, ground := Go.Ground.phase }, { on := 50, ground := Go.Ground.phase }, { on := 51, ground := Go.Ground.phase }, { on := 52, ground := Go.Ground.phase }, { on := 53, ground := Go.Ground.phase }, { on := 54, ground := Go.Ground.phase }, { on := 55, ground := Go.Ground.phase }, { on := 56, ground := Go.Ground.phase }, { on := 57, ground := Go.Ground.phase }, { on := 58, ground := Go.Ground.phase }, { on := 59, ground := Go.Ground.phase }, { on := 60, ground := Go.Ground.phase }, { on := 61, ground := Go.Ground.phase }, { on := 62, ground := Go.Ground.phase }, { on := 63, ground := Go.Ground.phase }, { on := 64, ground := Go.Ground.phase }, { on := 65, ground := Go.Ground.phase }, { on := 66, ground := Go.Ground.phase }]).toArray, guard := none }) (v := ?_) rfl (by kernel_rfl) (by kernel_rfl) (by kernel_rfl) (fun _ _ _ h => h) (Or.inl ⟨by rfl, ?_⟩) (by assumption) ?_
  rotate_left
  · (intro W hSw; (try dsimp only at hSw); go_simp; try with_reducible rfl)
  try simp only [Act.put, List.setIfInBounds_toArray, List.set_cons_zero, List.set_cons_succ]
  refine wpAnyH_done (by kernel_rfl) ?_ _
  go_wp2
  go_ret
  exact ⟨rfl, hSw13.low⟩
end Go.Proofs.YtjcmeacgfflfmaaGreat.Hk
