/- The walk of ModelChecks. -/
import Derived.Test.YtenjhbibhkjdaaaMeJ
import Derived.Test.YtenjhbibhkjdaaaMdL
import Derived.Test.YtenjhbibhkjdaaaMdO
import Derived.Test.YtenjhbibhkjdaaaMdQ
import Derived.Test.YtenjhbibhkjdaaaMdV
set_option linter.unusedVariables false
set_option linter.unusedSectionVars false
set_option linter.unusedSimpArgs false
namespace Go.Proofs.Ytenjhbibhkjdaaa.Md
open Go.RowKit Go.Shelf

theorem and_15 (n : Int) : bits .and .i64 n 15 = n % 16 := by
  have h511 : (BitVec.ofInt 64 15).toNat = 2 ^ 4 - 1 := by decide
  have key : (BitVec.ofInt 64 n &&& BitVec.ofInt 64 15).toNat = (n % ((2 ^ 64 : Nat) : Int)).toNat % 2 ^ 4 := by
    rw [BitVec.toNat_and, BitVec.toNat_ofInt, h511, Nat.and_two_pow_sub_one_eq_mod]
  show IntKind.i64.wrap ((BitVec.ofInt 64 n &&& BitVec.ofInt 64 15).toNat : Nat) = n % 16
  rw [key, IntKind.wrap_i64]
  omega
theorem few_names {m : ModelM} (h : fewB m = true) : (mdN m).length ≤ 1000 := by
  unfold fewB at h
  simp only [Bool.and_eq_true, decide_eq_true_eq] at h
  obtain ⟨⟨⟨⟨h1, h2⟩, h3⟩, h4⟩, h5⟩ := h
  have := few_len m.procs h4
  unfold mdN nmsL
  rw [List.length_append, List.length_map]
  omega
theorem names_row2 {W : World} {base : Nat} {v : Value} {xs : List ByteArray} (h : Gath W base 9 1 v xs.length (sv xs)) (hs : xs.length ≤ maxLen) : ∃ a c g, v = .slice a xs.length c ∧ xs.length ≤ c ∧ Ic.TxtAt W a g 0 xs ∧ (xs.length = 0 ∨ g < W.heap.size) := by
  have hc : ∀ a c, v = .slice a xs.length c → xs.length ≤ c := by
    intro a c e
    by_cases h0 : xs.length = 0
    · omega
    · rcases h with ⟨h1, _, ao, rfl⟩ | h
      · exact absurd h1 h0
      · rcases h.2 with ⟨rfl, h1⟩ | ⟨g, cap, cur, rfl, hb, hg, hnc, hcm, hcs, htake⟩
        · exact absurd h1 h0
        · injection e with e1 e2 e3
          omega
  obtain ⟨a, c, g, rfl, ha, hgb, hcell⟩ := names_row h
  exact ⟨a, c, g, rfl, hc _ _ rfl, ⟨ha, hs, fun i y hi => by rw [Nat.zero_add]; exact hcell i y hi⟩, hgb.imp id (fun h => h.2)⟩
theorem nm_same {w : World} {x : ModelV} (hM : ModelAt w.heap.size w x) (hs : (mdN x.m).length ≤ 1000000) {most : Int} {T : List ByteArray} (hT : upTo most (mdN x.m) = T) {aU : Option Addr} {gU : Nat} (hU : Ic.TxtAt w aU gU 0 T) (hgU : T.length = 0 ∨ gU < w.heap.size) {n : Nat} (hn : T.length = n) :
    ∀ W, Below w.heap.size w W → Calls Try.prog 25 #[.agg #[.int .i64 x.ver, .slice x.pa x.procs.length x.pc, .slice x.la x.links.length x.lc, .slice x.ea x.events.length x.ec], .int .i64 most] W (fun e w7 => ∃ ad c, e = .returned (.slice ad n c) ∧ Hid (Below w.heap.size w w7) ∧ Hid (∀ W8, Below w7.heap.size w7 W8 → ∀ cU, Calls Try.prog 24 #[.slice ad n c, .slice aU n cU] W8 (fun e w8 => e = .returned (.bool true) ∧ Hid (Below w.heap.size w w8)))) := fun W hW => by
  refine (lnames_any (hM.on hW) hs most).mono ?_
  rintro e w7 ⟨hb, v, rfl, hg⟩
  rw [hT] at hg
  obtain ⟨a, c, g, rfl, ha, hgb, hc⟩ := names_row hg
  have h7 := hW.trans (hb.mono hW.size)
  have hsm := hU.small
  rw [hn] at ha hgb ⊢
  refine ⟨a, c, rfl, Lib.hid h7, Lib.hid fun W8 hW8 cU => ?_⟩
  have h8 := h7.trans (hW8.mono h7.size)
  have hA : Ic.TxtAt w7 a g 0 T := ⟨by rw [hn]; exact ha, hsm, fun i y hi => by rw [Nat.zero_add]; exact hc i y hi⟩
  refine (Ic.xsame_txt (hA.on hW8 (by rw [hn]; exact hgb.imp id (fun h => h.2))) (hU.on h8 hgU) hn hn).mono ?_
  rintro e w8 ⟨rfl, n, rfl⟩
  exact ⟨by rw [decide_eq_true (rfl : T = T)], Lib.hid (h8.trans (below_drewN _ _ n))⟩
set_option maxRecDepth 100000 in
set_option maxHeartbeats 8000000 in
theorem walk_ModelChecks (x : ModelV) (s : ByteArray) (i most : Int) (w : World) (h : ModelAt w.heap.size w x) (hw : (Lit.int .i64 x.ver).wf = true) (hs : s.size ≤ maxLen) (hi : (Lit.int .i64 i).wf = true) (hmo : (Lit.int .i64 most).wf = true) : Calls Try.prog 3 #[.agg #[.int .i64 x.ver, .slice x.pa x.procs.length x.pc, .slice x.la x.links.length x.lc, .slice x.ea x.events.length x.ec], .string s, .int .i64 i, .int .i64 most] w fun e w' => e = .returned (.bool true) ∧ Below w.heap.size w w' := by
  have HM := Lib.hid h
  have HT : Hid (Kb x w (w.alloc (.cells #[.int .i64 x.ver, .slice x.pa x.procs.length x.pc, .slice x.la x.links.length x.lc, .slice x.ea x.events.length x.ec] 26))) := Lib.hid ⟨heap_new (w := w) _ rfl, below_one w _⟩
  obtain ⟨c, hc15, hand⟩ : ∃ c : Nat, c ≤ 15 ∧ bits .and .i64 most 15 = (c : Int) := ⟨(most % 16).toNat, by omega, by rw [and_15]; omega⟩
  clear h hw hs hi hmo
  go_enter Try.func3, Try.ntmps3
  go_wp2_with fail
  generalize w.alloc (.cells #[.int .i64 x.ver, .slice x.pa x.procs.length x.pc, .slice x.la x.links.length x.lc, .slice x.ea x.events.length x.ec] 26) = w1 at *
  refine (alive_any _).mono ?_
  rintro e w2 ⟨rfl, hb⟩
  replace HT := Lib.hid (HT.out.on hb)
  clear hb
  have c0 : w2.cell? ⟨w.heap.size, 0, none⟩ = some (.int .i64 x.ver) := heap_cell HT.out.a rfl
  have c1 : w2.cell? ⟨w.heap.size, 1, none⟩ = some (.slice x.pa x.procs.length x.pc) := heap_cell HT.out.a rfl
  have c2 : w2.cell? ⟨w.heap.size, 2, none⟩ = some (.slice x.la x.links.length x.lc) := heap_cell HT.out.a rfl
  have c3 : w2.cell? ⟨w.heap.size, 3, none⟩ = some (.slice x.ea x.events.length x.ec) := heap_cell HT.out.a rfl
  go_wp2_with fail
  clear c0 c1 c2 c3
  refine (few_any (HM.out.on HT.out.low)).mono ?_
  rintro e w3 ⟨rfl, hb⟩
  replace HT := Lib.hid (HT.out.on hb)
  clear hb
  obtain ⟨b, hb⟩ : ∃ b, fewB x.m = b := ⟨_, rfl⟩
  rw [hb]
  cases b with
  | false =>
    clear hb
    go_wp2
    go_ret
    exact ⟨rfl, HT.out.low⟩
  | true =>
    have HF := Lib.hid hb
    have HS : Hid ((mdN x.m).length ≤ 1000) := Lib.hid (few_names hb)
    have hsP : x.procs.length ≤ 12 := by
      unfold fewB ModelV.m at hb
      simp at hb
      omega
    clear hb
    have c0 : w3.cell? ⟨w.heap.size, 0, none⟩ = some (.int .i64 x.ver) := heap_cell HT.out.a rfl
    have c1 : w3.cell? ⟨w.heap.size, 1, none⟩ = some (.slice x.pa x.procs.length x.pc) := heap_cell HT.out.a rfl
    have c2 : w3.cell? ⟨w.heap.size, 2, none⟩ = some (.slice x.la x.links.length x.lc) := heap_cell HT.out.a rfl
    have c3 : w3.cell? ⟨w.heap.size, 3, none⟩ = some (.slice x.ea x.events.length x.ec) := heap_cell HT.out.a rfl
    go_wp2_with fail
    clear c0 c1 c2 c3
    refine (rcheck_any (HM.out.on HT.out.low)).mono ?_
    rintro e w4 ⟨rfl, hb⟩
    replace HT := Lib.hid (HT.out.on hb)
    clear hb
    obtain ⟨E, hE⟩ : ∃ E, mdE x.m = E := ⟨_, rfl⟩
    rw [hE]
    have HE := Lib.hid hE
    clear hE
    obtain ⟨e1, e2⟩ := E
    dsimp only
    have c0 : w4.cell? ⟨w.heap.size, 0, none⟩ = some (.int .i64 x.ver) := heap_cell HT.out.a rfl
    have c1 : w4.cell? ⟨w.heap.size, 1, none⟩ = some (.slice x.pa x.procs.length x.pc) := heap_cell HT.out.a rfl
    have c2 : w4.cell? ⟨w.heap.size, 2, none⟩ = some (.slice x.la x.links.length x.lc) := heap_cell HT.out.a rfl
    have c3 : w4.cell? ⟨w.heap.size, 3, none⟩ = some (.slice x.ea x.events.length x.ec) := heap_cell HT.out.a rfl
    go_wp2_with fail
    clear c0 c1 c2 c3
    refine (check_any (HM.out.on HT.out.low)).mono ?_
    rw [HE.out]
    dsimp only
    rintro e w5 ⟨rfl, hb⟩
    replace HT := Lib.hid (HT.out.on hb)
    clear hb HE
    have hn1 : (e1 != e1) = false := by simp
    have hn2 : (e2 != e2) = false := by simp
    have HT6 : Hid (Kb x w (w5.alloc (.cells #[.int .i64 e1, .int .i64 e2] 33))) := Lib.hid (HT.out.on (below_one _ _))
    go_upto_region 7 with fail
    clear HT
    have f0 : (w5.alloc (.cells #[.int .i64 e1, .int .i64 e2] 33)).cell? ⟨w5.heap.size, 0, none⟩ = some (.int .i64 e1) := heap_cell (heap_new _ rfl) rfl
    have f1 : (w5.alloc (.cells #[.int .i64 e1, .int .i64 e2] 33)).cell? ⟨w5.heap.size, 1, none⟩ = some (.int .i64 e2) := heap_cell (heap_new _ rfl) rfl
    generalize w5.alloc (.cells #[.int .i64 e1, .int .i64 e2] 33) = w6 at *
    have HT := HT6
    clear HT6
    go_upto_region 9 with fail
    clear f0 f1 hn1 hn2
    go_cut [61] from 36 to 61 (fun v wx => v = .bool false ∧ Hid (Kb x w wx))
    case first =>
      have c0 : w6.cell? ⟨w.heap.size, 0, none⟩ = some (.int .i64 x.ver) := heap_cell HT.out.a rfl
      have c1 : w6.cell? ⟨w.heap.size, 1, none⟩ = some (.slice x.pa x.procs.length x.pc) := heap_cell HT.out.a rfl
      have c2 : w6.cell? ⟨w.heap.size, 2, none⟩ = some (.slice x.la x.links.length x.lc) := heap_cell HT.out.a rfl
      have c3 : w6.cell? ⟨w.heap.size, 3, none⟩ = some (.slice x.ea x.events.length x.ec) := heap_cell HT.out.a rfl
      by_cases hin : 0 ≤ i ∧ i < (x.procs.length : Int)
      · obtain ⟨k, rfl⟩ : ∃ k : Nat, i = (k : Int) := ⟨i.toNat, by omega⟩
        have hlt : k < x.procs.length := by omega
        obtain ⟨p, hp⟩ : ∃ p, x.procs[k]? = some p := ⟨_, List.getElem?_eq_getElem hlt⟩
        have hki : (k : Int) < (x.procs.length : Int) := hin.2
        have hk0 : (0 : Int) ≤ (k : Int) := hin.1
        have hI := (HM.out.on HT.out.low).procs
        have ha := hI.addr.resolve_left (by omega)
        have hlA : w.heap.size < w6.heap.size := heap_lt HT.out.a
        have hlR : x.pb < w6.heap.size := by have := hI.below; omega
        have d1 : ∀ W, Hid (Below w6.heap.size w6 W) → W.cell? ⟨w.heap.size, 1, none⟩ = some (.slice (some ⟨x.pb, x.po, none⟩) x.procs.length x.pc) := fun W hW => by rw [hW.out.cell (by exact hlA), c1, ha]
        have q0 : ∀ W, Hid (Below w6.heap.size w6 W) → W.cell? ⟨x.pb, x.po + k * 4, none⟩ = some (.string p.p.name) := fun W hW => by rw [hW.out.cell (by exact hlR)]; exact hI.cell k p hp 0 _ rfl
        have q1 : ∀ W, Hid (Below w6.heap.size w6 W) → W.cell? ⟨x.pb, x.po + k * 4 + 1, none⟩ = some (.int .i64 p.p.weight) := fun W hW => by rw [hW.out.cell (by exact hlR)]; exact hI.cell k p hp 1 _ rfl
        have q2 : ∀ W, Hid (Below w6.heap.size w6 W) → W.cell? ⟨x.pb, x.po + k * 4 + 2, none⟩ = some (.slice p.va p.p.vars.length p.vc) := fun W hW => by rw [hW.out.cell (by exact hlR)]; exact hI.cell k p hp 2 _ rfl
        have q3 : ∀ W, Hid (Below w6.heap.size w6 W) → W.cell? ⟨x.pb, x.po + k * 4 + 3, none⟩ = some (.slice p.sa p.p.steps.length p.sc) := fun W hW => by rw [hW.out.cell (by exact hlR)]; exact hI.cell k p hp 3 _ rfl
        have HPi := HM.out.inner p (List.mem_of_getElem? hp)
        have HV1 : Hid (∀ W, Below w6.heap.size w6 W → Calls Try.prog 16 #[.agg #[.string p.p.name, .int .i64 p.p.weight, .slice p.va p.p.vars.length p.vc, .slice p.sa p.p.steps.length p.sc], .string s] W (fun e w' => e = .returned (.int .i64 (plcI (vNames p.p) s)) ∧ Hid (Below w6.heap.size w6 w'))) := Lib.hid (fun W hW => (var_at ((HPi.on HT.out.low).on hW) s).mono (fun e w' ⟨h1, h2⟩ => ⟨h1, Lib.hid (hW.trans (h2.mono hW.size))⟩))
        have HV2 : Hid (∀ W, Below w6.heap.size w6 W → Calls Try.prog 17 #[.agg #[.string p.p.name, .int .i64 p.p.weight, .slice p.va p.p.vars.length p.vc, .slice p.sa p.p.steps.length p.sc], .string s] W (fun e w' => e = .returned (.int .i64 (plcI (vNames p.p) s)) ∧ Hid (Below w6.heap.size w6 w'))) := Lib.hid (fun W hW => (rvar_any ((HPi.on HT.out.low).on hW) s).mono (fun e w' ⟨h1, h2⟩ => ⟨h1, Lib.hid (hW.trans (h2.mono hW.size))⟩))
        generalize plcI (vNames p.p) s = pv at *
        have hpv : (pv != pv) = false := by simp
        have g1 : decide ((0 : Int) ≤ (k : Int)) = true := decide_eq_true hk0
        have g2 : decide ((k : Int) < (x.procs.length : Int)) = true := decide_eq_true hki
        clear c0 c1 c2 c3 hI ha HPi hp hin
        go_region_held3 (fun W => Hid (Below w6.heap.size w6 W)) (first | assumption | exact Lib.hid (Below.refl _ _) | exact Lib.hid (Below.refl _ _).drew | exact Lib.hid hB9.out.drew | exact Lib.hid hB8.out.drew | exact Lib.hid hB7.out.drew | exact Lib.hid hB6.out.drew | exact Lib.hid hB5.out.drew | exact Lib.hid hB4.out.drew) (first
          | (go_at_call 16; refine (HV1.out _ (by first | exact Below.refl _ _ | exact (Below.refl _ _).drew | exact hB9.out | exact hB9.out.drew | exact hB8.out | exact hB8.out.drew | exact hB7.out | exact hB7.out.drew | exact hB6.out | exact hB6.out.drew | exact hB5.out | exact hB5.out.drew | exact hB4.out | exact hB4.out.drew)).mono ?_; clear HV1; rintro e w7 ⟨rfl, hB7⟩)
          | (go_at_call 17; refine (HV2.out _ (by first | exact Below.refl _ _ | exact (Below.refl _ _).drew | exact hB9.out | exact hB9.out.drew | exact hB8.out | exact hB8.out.drew | exact hB7.out | exact hB7.out.drew | exact hB6.out | exact hB6.out.drew | exact hB5.out | exact hB5.out.drew | exact hB4.out | exact hB4.out.drew)).mono ?_; clear HV2; rintro e w8 ⟨rfl, hB8⟩))
        all_goals
          go_wp2_with fail
          go_meet
          exact ⟨rfl, Lib.hid (HT.out.on hB8.out)⟩
      · by_cases h0 : 0 ≤ i
        · have g1 : decide ((0 : Int) ≤ i) = true := decide_eq_true h0
          have g2 : decide (i < (x.procs.length : Int)) = false := decide_eq_false (by omega)
          clear hin h0
          go_quiet (fail)
          go_wp2_with fail
          go_meet
          exact ⟨rfl, Lib.hid (HT.out.on (below_drewN _ _ nq))⟩
        · have g1 : decide ((0 : Int) ≤ i) = false := decide_eq_false h0
          clear hin h0
          go_quiet (fail)
          go_wp2_with fail
          go_meet
          exact ⟨rfl, Lib.hid (HT.out.on (below_drewN _ _ nq))⟩
    case rest =>
      obtain ⟨rfl, HT⟩ := hcut
      have c0 : wc.cell? ⟨w.heap.size, 0, none⟩ = some (.int .i64 x.ver) := heap_cell HT.out.a rfl
      have c1 : wc.cell? ⟨w.heap.size, 1, none⟩ = some (.slice x.pa x.procs.length x.pc) := heap_cell HT.out.a rfl
      have c2 : wc.cell? ⟨w.heap.size, 2, none⟩ = some (.slice x.la x.links.length x.lc) := heap_cell HT.out.a rfl
      have c3 : wc.cell? ⟨w.heap.size, 3, none⟩ = some (.slice x.ea x.events.length x.ec) := heap_cell HT.out.a rfl
      go_wp2_with fail
      clear c0 c1 c2 c3
      refine (rnames_any (HM.out.on HT.out.low) (by have := HS.out; omega)).mono ?_
      rintro e w7 ⟨hb, v, rfl, hg⟩
      replace HT := Lib.hid (HT.out.on hb)
      clear hb
      obtain ⟨aU, cU, gU, rfl, hcU, hU, hgU⟩ := names_row2 hg (by have := HS.out; unfold maxLen; omega)
      have HMx := Lib.hid (HM.out.on HT.out.low)
      have D1 := Lib.hid (nm_same HMx.out (by have := HS.out; omega) (most := 10000) (T := mdN x.m) (by unfold upTo; exact List.take_of_length_le (by have := HS.out; show _ ≤ 10000; omega)) hU hgU (n := (mdN x.m).length) rfl)
      have D2 := Lib.hid (nm_same HMx.out (by have := HS.out; omega) (most := (c : Int)) (T := (mdN x.m).take (min c (mdN x.m).length)) (by unfold upTo; rw [Int.toNat_natCast]; exact List.take_eq_take_min ..) (hU.take _) (hgU.imp (fun h => by rw [List.length_take]; omega) id) (n := min c (mdN x.m).length) (by rw [List.length_take]; omega))
      have CP1 : Hid (∀ W, Below w7.heap.size w7 W → Calls Try.prog 20 #[.agg #[.int .i64 x.ver, .slice x.pa x.procs.length x.pc, .slice x.la x.links.length x.lc, .slice x.ea x.events.length x.ec], .string s] W (fun e w' => e = .returned (.int .i64 (plcI (nmsP x.m) s)) ∧ Hid (Below w7.heap.size w7 w'))) := Lib.hid (fun W hW => (proc_at (HMx.out.on hW) s).mono (fun e w' ⟨h1, h2⟩ => ⟨h1, Lib.hid (hW.trans (h2.mono hW.size))⟩))
      have CP2 : Hid (∀ W, Below w7.heap.size w7 W → Calls Try.prog 21 #[.agg #[.int .i64 x.ver, .slice x.pa x.procs.length x.pc, .slice x.la x.links.length x.lc, .slice x.ea x.events.length x.ec], .string s] W (fun e w' => e = .returned (.int .i64 (plcI (nmsP x.m) s)) ∧ Hid (Below w7.heap.size w7 w'))) := Lib.hid (fun W hW => (rproc_any (HMx.out.on hW) s).mono (fun e w' ⟨h1, h2⟩ => ⟨h1, Lib.hid (hW.trans (h2.mono hW.size))⟩))
      have CL1 : Hid (∀ W, Below w7.heap.size w7 W → Calls Try.prog 22 #[.agg #[.int .i64 x.ver, .slice x.pa x.procs.length x.pc, .slice x.la x.links.length x.lc, .slice x.ea x.events.length x.ec], .string s] W (fun e w' => e = .returned (.int .i64 (plcI (nmsL x.m) s)) ∧ Hid (Below w7.heap.size w7 w'))) := Lib.hid (fun W hW => (link_at (HMx.out.on hW) s).mono (fun e w' ⟨h1, h2⟩ => ⟨h1, Lib.hid (hW.trans (h2.mono hW.size))⟩))
      have CL2 : Hid (∀ W, Below w7.heap.size w7 W → Calls Try.prog 23 #[.agg #[.int .i64 x.ver, .slice x.pa x.procs.length x.pc, .slice x.la x.links.length x.lc, .slice x.ea x.events.length x.ec], .string s] W (fun e w' => e = .returned (.int .i64 (plcI (nmsL x.m) s)) ∧ Hid (Below w7.heap.size w7 w'))) := Lib.hid (fun W hW => (rlink_any (HMx.out.on hW) s).mono (fun e w' ⟨h1, h2⟩ => ⟨h1, Lib.hid (hW.trans (h2.mono hW.size))⟩))
      generalize plcI (nmsP x.m) s = pv at *
      generalize plcI (nmsL x.m) s = lv at *
      have HSl := HS.out
      clear HMx hg hU hgU HS HF
      generalize (mdN x.m).length = L at *
      obtain ⟨m, hm⟩ : ∃ m, min c L = m := ⟨_, rfl⟩
      rw [hm] at D2
      have CH : Hid (∀ W, Calls Try.prog 19 #[.int .i64 (c : Int), .int .i64 0, .int .i64 (L : Int)] W fun e w' => e = .returned (.int .i64 (m : Int)) ∧ W = w') := Lib.hid (fun W => by
        have := Ic.held0_any (c : Int) L W
        rw [Int.toNat_natCast, hm] at this
        exact this)
      have hmc : (m : Int) ≤ (cU : Int) := by omega
      have hm0 : (0 : Int) ≤ (m : Int) := by omega
      clear hm hcU
      go_wp2_with fail
      refine (CH.out _).mono ?_
      rintro e w' ⟨rfl, rfl⟩
      clear CH
      have hlA : w.heap.size < w7.heap.size := heap_lt HT.out.a
      have b0 : ∀ W, Hid (Below w7.heap.size w7 W) → W.cell? ⟨w.heap.size, 0, none⟩ = some (.int .i64 x.ver) := fun W hW => by rw [hW.out.cell (by exact hlA)]; exact heap_cell HT.out.a rfl
      have b1 : ∀ W, Hid (Below w7.heap.size w7 W) → W.cell? ⟨w.heap.size, 1, none⟩ = some (.slice x.pa x.procs.length x.pc) := fun W hW => by rw [hW.out.cell (by exact hlA)]; exact heap_cell HT.out.a rfl
      have b2 : ∀ W, Hid (Below w7.heap.size w7 W) → W.cell? ⟨w.heap.size, 2, none⟩ = some (.slice x.la x.links.length x.lc) := fun W hW => by rw [hW.out.cell (by exact hlA)]; exact heap_cell HT.out.a rfl
      have b3 : ∀ W, Hid (Below w7.heap.size w7 W) → W.cell? ⟨w.heap.size, 3, none⟩ = some (.slice x.ea x.events.length x.ec) := fun W hW => by rw [hW.out.cell (by exact hlA)]; exact heap_cell HT.out.a rfl
      have hpq : (pv == pv) = true := by simp
      have hlq : (lv == lv) = true := by simp
      go_upto_region 13 with fail
      go_region_held3 (fun W => Hid (Below w7.heap.size w7 W)) (first | assumption | exact Lib.hid (Below.refl _ _) | exact Lib.hid (Below.refl _ _).drew | exact Lib.hid hB18.out.drew | exact Lib.hid hB17.out.drew | exact Lib.hid hB16.out.drew | exact Lib.hid hB15.out.drew | exact Lib.hid hB14.out.drew | exact Lib.hid hB13.out.drew | exact Lib.hid hB12.out.drew | exact Lib.hid hB11.out.drew) (first
        | (go_at_call 20; refine (CP1.out _ (by first | exact Below.refl _ _ | exact (Below.refl _ _).drew | exact hB18.out | exact hB18.out.drew | exact hB17.out | exact hB17.out.drew | exact hB16.out | exact hB16.out.drew | exact hB15.out | exact hB15.out.drew | exact hB14.out | exact hB14.out.drew | exact hB13.out | exact hB13.out.drew | exact hB12.out | exact hB12.out.drew | exact hB11.out | exact hB11.out.drew)).mono ?_; clear CP1; rintro e w11 ⟨rfl, hB11⟩)
        | (go_at_call 21; refine (CP2.out _ (by first | exact Below.refl _ _ | exact (Below.refl _ _).drew | exact hB18.out | exact hB18.out.drew | exact hB17.out | exact hB17.out.drew | exact hB16.out | exact hB16.out.drew | exact hB15.out | exact hB15.out.drew | exact hB14.out | exact hB14.out.drew | exact hB13.out | exact hB13.out.drew | exact hB12.out | exact hB12.out.drew | exact hB11.out | exact hB11.out.drew)).mono ?_; clear CP2; rintro e w12 ⟨rfl, hB12⟩)
        | (go_at_call 22; refine (CL1.out _ (by first | exact Below.refl _ _ | exact (Below.refl _ _).drew | exact hB18.out | exact hB18.out.drew | exact hB17.out | exact hB17.out.drew | exact hB16.out | exact hB16.out.drew | exact hB15.out | exact hB15.out.drew | exact hB14.out | exact hB14.out.drew | exact hB13.out | exact hB13.out.drew | exact hB12.out | exact hB12.out.drew | exact hB11.out | exact hB11.out.drew)).mono ?_; clear CL1; rintro e w13 ⟨rfl, hB13⟩)
        | (go_at_call 23; refine (CL2.out _ (by first | exact Below.refl _ _ | exact (Below.refl _ _).drew | exact hB18.out | exact hB18.out.drew | exact hB17.out | exact hB17.out.drew | exact hB16.out | exact hB16.out.drew | exact hB15.out | exact hB15.out.drew | exact hB14.out | exact hB14.out.drew | exact hB13.out | exact hB13.out.drew | exact hB12.out | exact hB12.out.drew | exact hB11.out | exact hB11.out.drew)).mono ?_; clear CL2; rintro e w14 ⟨rfl, hB14⟩)
        | (go_at_call 25; refine (D1.out _ (by first | exact Below.refl _ _ | exact (Below.refl _ _).drew | exact hB18.out | exact hB18.out.drew | exact hB17.out | exact hB17.out.drew | exact hB16.out | exact hB16.out.drew | exact hB15.out | exact hB15.out.drew | exact hB14.out | exact hB14.out.drew | exact hB13.out | exact hB13.out.drew | exact hB12.out | exact hB12.out.drew | exact hB11.out | exact hB11.out.drew)).mono ?_; clear D1; rintro e w15 ⟨ad7, c7, rfl, hB15, hS7⟩)
        | (go_at_call 24; refine (hS7.out _ (by first | exact Below.refl _ _ | exact (Below.refl _ _).drew) _).mono ?_; clear hS7; rintro e w16 ⟨rfl, hB16⟩)
        | (go_at_call 25; refine (D2.out _ (by first | exact Below.refl _ _ | exact (Below.refl _ _).drew | exact hB18.out | exact hB18.out.drew | exact hB17.out | exact hB17.out.drew | exact hB16.out | exact hB16.out.drew | exact hB15.out | exact hB15.out.drew | exact hB14.out | exact hB14.out.drew | exact hB13.out | exact hB13.out.drew | exact hB12.out | exact hB12.out.drew | exact hB11.out | exact hB11.out.drew)).mono ?_; clear D2; rintro e w17 ⟨ad9, c9, rfl, hB17, hS9⟩)
        | (go_at_call 24; refine (hS9.out _ (by first | exact Below.refl _ _ | exact (Below.refl _ _).drew) _).mono ?_; clear hS9; rintro e w18 ⟨rfl, hB18⟩))
      all_goals
        go_wp2_with fail
        go_ret
        exact ⟨by simp, (HT.out.on hB18.out).low⟩
end Go.Proofs.Ytenjhbibhkjdaaa.Md
