/- canon: walk of CanonSames. -/
import Derived.Test.YtjcmeacgfflfmaaGreatCni
import Derived.Test.YtjcmeacgfflfmaaGreatCnh
import Derived.Test.YtjcmeacgfflfmaaGreatUx
import Derived.Deep.RegionHeld3
set_option linter.unusedVariables false
set_option linter.unusedSectionVars false
set_option linter.unusedSimpArgs false
namespace Go.Proofs.YtjcmeacgfflfmaaGreat.Md
open Go.RowKit Go.Shelf
theorem OwnM.setE {base : Nat} {W : World} {x : ModelV} (h : OwnM base W x) {k : Nat} {l l2 : EventM} (hk : x.events[k]? = some l) {q : Nat} (hq : q < 3) {v : Value} (h' : ∀ r u, (encE l2)[r]? = some u → (r = q ∧ u = v) ∨ (r ≠ q ∧ (encE l)[r]? = some u)) (hf : fitE l2) : OwnM base (W.setCell ⟨x.eb, k * 3 + q, none⟩ v) { x with events := x.events.set k l2 } := by
  obtain ⟨ha, hb, hr⟩ := h.events.own.resolve_left (fun e => by rw [e] at hk; simp at hk)
  have hT := Turned.one W x.eb (k * 3 + q) v
  refine ⟨h.procs.other hr hT (by decide), h.po, fun p hp => ⟨(h.inner p hp).vars.other hr hT (by decide), (h.inner p hp).vo, (h.inner p hp).steps.other hr hT (by decide), (h.inner p hp).so⟩, h.links.other hr hT (by decide), h.lo, ⟨.inr ⟨ha, hb, RowC.set (enc := encE) (fun _ => rfl) hr hk hq h'⟩, by rw [List.length_set]; exact h.events.small, fun y hy => ?_⟩, h.eo⟩
  rcases List.mem_or_eq_of_mem_set hy with h1 | h1
  · exact h.events.fits y h1
  · rw [h1]
    exact hf
theorem encE_val (l : EventM) (n : Int) : ∀ r u, (encE { l with val := n })[r]? = some u → (r = 2 ∧ u = .int .i64 n) ∨ (r ≠ 2 ∧ (encE l)[r]? = some u) := by
  intro r u hu
  rcases r with _ | _ | _ | r
  · exact .inr ⟨by decide, hu⟩
  · exact .inr ⟨by decide, hu⟩
  · refine .inl ⟨rfl, ?_⟩
    simpa [encE] using hu.symm
  · simp [encE] at hu
end Go.Proofs.YtjcmeacgfflfmaaGreat.Md
namespace Go.Proofs.YtjcmeacgfflfmaaGreat.Hk
open Go.RowKit Go.Shelf Go.Proofs.YtjcmeacgfflfmaaGreat.Md

set_option maxRecDepth 100000 in
set_option maxHeartbeats 16000000 in
theorem walk_CanonSames (x : ModelV) (n : ModelV) (t : Int) (w : World) (h : ModelAt w.heap.size w x) (hw : (Lit.int .i64 x.ver).wf = true) (k : ModelAt w.heap.size w n) (kw : (Lit.int .i64 n.ver).wf = true) (htw : (Lit.int .i64 t).wf = true) : Calls Tryz.prog 7 #[.agg #[.int .i64 x.ver, .slice x.pa x.procs.length x.pc, .slice x.la x.links.length x.lc, .slice x.ea x.events.length x.ec], .agg #[.int .i64 n.ver, .slice n.pa n.procs.length n.pc, .slice n.la n.links.length n.lc, .slice n.ea n.events.length n.ec], .int .i64 t] w fun e w' => e = .returned (.bool true) ∧ Below w.heap.size w w' := by
  have HS := Lib.hid (S2.mk' h k)
  have HW := Lib.hid (And.intro hw htw)
  clear h k hw kw htw
  go_enter Tryz.func7, Tryz.ntmps7
  go_wp2_with fail
  generalize ((w.alloc (.cells #[.int .i64 x.ver, .slice x.pa x.procs.length x.pc, .slice x.la x.links.length x.lc, .slice x.ea x.events.length x.ec] 26)).alloc (.cells #[.int .i64 n.ver, .slice n.pa n.procs.length n.pc, .slice n.la n.links.length n.lc, .slice n.ea n.events.length n.ec] 26)) = w1 at *
  refine (alive_any w1).mono ?_
  rintro e w2 ⟨rfl, hb⟩
  have HB := Lib.hid hb
  clear hb
  have a0 : w2.cell? ⟨w.heap.size, 0, none⟩ = some (.int .i64 x.ver) := heap_cell (HS.out.xb HB.out) rfl
  have a1 : w2.cell? ⟨w.heap.size, 1, none⟩ = some (.slice x.pa x.procs.length x.pc) := heap_cell (HS.out.xb HB.out) rfl
  have a2 : w2.cell? ⟨w.heap.size, 2, none⟩ = some (.slice x.la x.links.length x.lc) := heap_cell (HS.out.xb HB.out) rfl
  have a3 : w2.cell? ⟨w.heap.size, 3, none⟩ = some (.slice x.ea x.events.length x.ec) := heap_cell (HS.out.xb HB.out) rfl
  go_wp2_with fail
  refine (few_any (HS.out.xa HB.out)).mono ?_
  rintro e w3 ⟨rfl, hb⟩
  replace HB := Lib.hid (further HB.out hb)
  clear hb a0 a1 a2 a3
  cases hf : fewB x.m with
  | false =>
    clear hf
    go_wp2
    go_ret
    exact ⟨rfl, HS.out.fin HB.out⟩
  | true =>
  have HSz := Lib.hid (few_sized hf)
  clear hf
  have b0 : w3.cell? ⟨w.heap.size + 1, 0, none⟩ = some (.int .i64 n.ver) := heap_cell (HS.out.nb HB.out) rfl
  have b1 : w3.cell? ⟨w.heap.size + 1, 1, none⟩ = some (.slice n.pa n.procs.length n.pc) := heap_cell (HS.out.nb HB.out) rfl
  have b2 : w3.cell? ⟨w.heap.size + 1, 2, none⟩ = some (.slice n.la n.links.length n.lc) := heap_cell (HS.out.nb HB.out) rfl
  have b3 : w3.cell? ⟨w.heap.size + 1, 3, none⟩ = some (.slice n.ea n.events.length n.ec) := heap_cell (HS.out.nb HB.out) rfl
  go_wp2_with fail
  refine (few_any (HS.out.na HB.out)).mono ?_
  rintro e w4 ⟨rfl, hb⟩
  replace HB := Lib.hid (further HB.out hb)
  clear hb b0 b1 b2 b3
  cases hf : fewB n.m with
  | false =>
    clear hf
    go_wp2
    go_ret
    exact ⟨rfl, HS.out.fin HB.out⟩
  | true =>
  clear hf
  go_upto_region 5 with fail
  obtain ⟨sm, hsm⟩ := tells (x.m = n.m)
  have hlA : w.heap.size < w1.heap.size := heap_lt HS.out.xbox
  have hlN : w.heap.size + 1 < w1.heap.size := heap_lt HS.out.nbox
  have da0 : ∀ W, Below w1.heap.size w1 W → W.cell? ⟨w.heap.size, 0, none⟩ = some (.int .i64 x.ver) := fun W hW => by rw [hW.cell (by exact hlA)]; exact heap_cell HS.out.xbox rfl
  have da1 : ∀ W, Below w1.heap.size w1 W → W.cell? ⟨w.heap.size, 1, none⟩ = some (.slice x.pa x.procs.length x.pc) := fun W hW => by rw [hW.cell (by exact hlA)]; exact heap_cell HS.out.xbox rfl
  have da2 : ∀ W, Below w1.heap.size w1 W → W.cell? ⟨w.heap.size, 2, none⟩ = some (.slice x.la x.links.length x.lc) := fun W hW => by rw [hW.cell (by exact hlA)]; exact heap_cell HS.out.xbox rfl
  have da3 : ∀ W, Below w1.heap.size w1 W → W.cell? ⟨w.heap.size, 3, none⟩ = some (.slice x.ea x.events.length x.ec) := fun W hW => by rw [hW.cell (by exact hlA)]; exact heap_cell HS.out.xbox rfl
  have db0 : ∀ W, Below w1.heap.size w1 W → W.cell? ⟨w.heap.size + 1, 0, none⟩ = some (.int .i64 n.ver) := fun W hW => by rw [hW.cell (by exact hlN)]; exact heap_cell HS.out.nbox rfl
  have db1 : ∀ W, Below w1.heap.size w1 W → W.cell? ⟨w.heap.size + 1, 1, none⟩ = some (.slice n.pa n.procs.length n.pc) := fun W hW => by rw [hW.cell (by exact hlN)]; exact heap_cell HS.out.nbox rfl
  have db2 : ∀ W, Below w1.heap.size w1 W → W.cell? ⟨w.heap.size + 1, 2, none⟩ = some (.slice n.la n.links.length n.lc) := fun W hW => by rw [hW.cell (by exact hlN)]; exact heap_cell HS.out.nbox rfl
  have db3 : ∀ W, Below w1.heap.size w1 W → W.cell? ⟨w.heap.size + 1, 3, none⟩ = some (.slice n.ea n.events.length n.ec) := fun W hW => by rw [hW.cell (by exact hlN)]; exact heap_cell HS.out.nbox rfl
  have KS1 : Hid (∀ W, Below w1.heap.size w1 W → Calls Tryz.prog 16 #[.agg #[.int .i64 x.ver, .slice x.pa x.procs.length x.pc, .slice x.la x.links.length x.lc, .slice x.ea x.events.length x.ec], .agg #[.int .i64 n.ver, .slice n.pa n.procs.length n.pc, .slice n.la n.links.length n.lc, .slice n.ea n.events.length n.ec]] W fun e w' => e = .returned (.bool sm) ∧ Below W.heap.size W w') := Lib.hid (fun W hW => told (t := sm) (hsm) (csame_any (HS.out.xa hW) (HS.out.na hW)))
  have KS2 : Hid (∀ W, Below w1.heap.size w1 W → Calls Tryz.prog 16 #[.agg #[.int .i64 n.ver, .slice n.pa n.procs.length n.pc, .slice n.la n.links.length n.lc, .slice n.ea n.events.length n.ec], .agg #[.int .i64 x.ver, .slice x.pa x.procs.length x.pc, .slice x.la x.links.length x.lc, .slice x.ea x.events.length x.ec]] W fun e w' => e = .returned (.bool sm) ∧ Below W.heap.size W w') := Lib.hid (fun W hW => told (t := sm) (hsm.trans eq_comm) (csame_any (HS.out.na hW) (HS.out.xa hW)))
  have KS3 : Hid (∀ W, Below w1.heap.size w1 W → Calls Tryz.prog 16 #[.agg #[.int .i64 x.ver, .slice x.pa x.procs.length x.pc, .slice x.la x.links.length x.lc, .slice x.ea x.events.length x.ec], .agg #[.int .i64 x.ver, .slice x.pa x.procs.length x.pc, .slice x.la x.links.length x.lc, .slice x.ea x.events.length x.ec]] W fun e w' => e = .returned (.bool true) ∧ Below W.heap.size W w') := Lib.hid (fun W hW => told (t := true) (by simp) (csame_any (HS.out.xa hW) (HS.out.xa hW)))
  have hne : (sm != sm) = false := by simp
  have hS4 := HB.out
  clear hsm
  go_region_held3 (fun W => Below w1.heap.size w1 W) (first | assumption | exact Below.drew (by assumption)) (first
    | (go_at_call 16; with_reducible refine (KS1.out _ (by assumption)).mono ?_; rintro e w5 ⟨rfl, hb⟩; have hSw5 : Below w1.heap.size w1 w5 := further (show Below w1.heap.size w1 _ by assumption) hb; clear hb)
    | (go_at_call 16; with_reducible refine (KS2.out _ (by assumption)).mono ?_; rintro e w6 ⟨rfl, hb⟩; have hSw6 : Below w1.heap.size w1 w6 := further (show Below w1.heap.size w1 _ by assumption) hb; clear hb)
    | (go_at_call 16; with_reducible refine (KS3.out _ (by assumption)).mono ?_; rintro e w7 ⟨rfl, hb⟩; have hSw7 : Below w1.heap.size w1 w7 := further (show Below w1.heap.size w1 _ by assumption) hb; clear hb))
  clear da0 da1 da2 da3 db0 db1 db2 db3 KS1 KS2 KS3
  replace HB := Lib.hid hSw7
  have HM0 := Lib.hid hSw7.size
  clear hS4 hSw5 hSw6 hSw7
  have a0 : w7.cell? ⟨w.heap.size, 0, none⟩ = some (.int .i64 x.ver) := heap_cell (HS.out.xb HB.out) rfl
  have a1 : w7.cell? ⟨w.heap.size, 1, none⟩ = some (.slice x.pa x.procs.length x.pc) := heap_cell (HS.out.xb HB.out) rfl
  have a2 : w7.cell? ⟨w.heap.size, 2, none⟩ = some (.slice x.la x.links.length x.lc) := heap_cell (HS.out.xb HB.out) rfl
  have a3 : w7.cell? ⟨w.heap.size, 3, none⟩ = some (.slice x.ea x.events.length x.ec) := heap_cell (HS.out.xb HB.out) rfl
  go_wp2_with fail
  clear a0 a1 a2 a3
  refine (rcopy_any (HS.out.xa HB.out) HSz.out).mono ?_
  rintro e w8 ⟨z, rfl, hz, hoz, hb⟩
  replace HB := Lib.hid (further HB.out hb)
  have HZ := Lib.hid hz
  have HO := Lib.hid hoz
  have HM : Hid (w1.heap.size ≤ w7.heap.size) := Lib.hid (by exact HM0.out)
  have HC : Hid (w1.heap.size ≤ w8.heap.size) := Lib.hid HB.out.size
  clear HM0 hz hoz hb
  go_upto_region 8 with fail
  have HV : Hid (Below w1.heap.size w1 (w8.alloc (.cells #[.int .i64 z.ver, .slice z.pa z.procs.length z.pc, .slice z.la z.links.length z.lc, .slice z.ea z.events.length z.ec] 26)) ∧ OwnM w7.heap.size (w8.alloc (.cells #[.int .i64 z.ver, .slice z.pa z.procs.length z.pc, .slice z.la z.links.length z.lc, .slice z.ea z.events.length z.ec] 26)) z ∧ (w8.alloc (.cells #[.int .i64 z.ver, .slice z.pa z.procs.length z.pc, .slice z.la z.links.length z.lc, .slice z.ea z.events.length z.ec] 26)).heap[w8.heap.size]? = some (.cells #[.int .i64 z.ver, .slice z.pa z.procs.length z.pc, .slice z.la z.links.length z.lc, .slice z.ea z.events.length z.ec] 26 (0, 0))) := Lib.hid ⟨HB.out.alloc HB.out.size _, HO.out.on (below_one w8 _), heap_new _ rfl⟩
  clear HB HO
  generalize w8.alloc (.cells #[.int .i64 z.ver, .slice z.pa z.procs.length z.pc, .slice z.la z.links.length z.lc, .slice z.ea z.events.length z.ec] 26) = w9 at *
  generalize w8.heap.size = C at *
  generalize w7.heap.size = M at *
  obtain ⟨hB, hO, hX⟩ := HV.out
  have HB := Lib.hid hB
  have HO := Lib.hid hO
  have HX := Lib.hid hX
  clear HV hB hO hX HSz
  have a0 : w9.cell? ⟨w.heap.size, 0, none⟩ = some (.int .i64 x.ver) := heap_cell (HS.out.xb HB.out) rfl
  have a1 : w9.cell? ⟨w.heap.size, 1, none⟩ = some (.slice x.pa x.procs.length x.pc) := heap_cell (HS.out.xb HB.out) rfl
  have a2 : w9.cell? ⟨w.heap.size, 2, none⟩ = some (.slice x.la x.links.length x.lc) := heap_cell (HS.out.xb HB.out) rfl
  have a3 : w9.cell? ⟨w.heap.size, 3, none⟩ = some (.slice x.ea x.events.length x.ec) := heap_cell (HS.out.xb HB.out) rfl
  have c0 : w9.cell? ⟨C, 0, none⟩ = some (.int .i64 z.ver) := heap_cell (HX.out) rfl
  have c1 : w9.cell? ⟨C, 1, none⟩ = some (.slice z.pa z.procs.length z.pc) := heap_cell (HX.out) rfl
  have c2 : w9.cell? ⟨C, 2, none⟩ = some (.slice z.la z.links.length z.lc) := heap_cell (HX.out) rfl
  have c3 : w9.cell? ⟨C, 3, none⟩ = some (.slice z.ea z.events.length z.ec) := heap_cell (HX.out) rfl
  by_cases ht0 : t = 0
  · have hq : (t == 0) = true := by simpa using ht0
    clear ht0
    go_wp2_with fail
    refine (told (t := true) ⟨fun _ => HZ.out, fun _ => rfl⟩ (csame_any HO.out.at_ (HS.out.xa HB.out))).mono ?_
    rintro e w11 ⟨rfl, hb⟩
    go_wp2
    go_ret
    exact ⟨rfl, HS.out.fin (further HB.out hb)⟩
  have hq : (t == 0) = false := by simpa using ht0
  have HT := Lib.hid ht0
  clear ht0
  by_cases hE : 0 < z.events.length
  · obtain ⟨e0, he0⟩ : ∃ e0, z.events[0]? = some e0 := ⟨_, List.getElem?_eq_getElem hE⟩
    obtain ⟨ha, hbb, hr⟩ := HO.out.events.own.resolve_left (fun e => by rw [e] at hE; simp at hE)
    have hgt : decide (0 < (z.events.length : Int)) = true := by simp; exact hE
    rw [ha] at c3
    have v2 : w9.cell? ⟨z.eb, 2, none⟩ = some (.int .i64 e0.val) := hr.cell (i := 0) he0 (r := 2) rfl
    have fz := hr.frozen 2
    have HA := Lib.hid ha
    have HE := Lib.hid (And.intro he0 (And.intro hbb hr))
    have hE' : (0 : Int) < (z.events.length : Int) := by omega
    clear ha hbb hr he0 hE
    go_upto_region 12 with fail
    clear a0 a1 a2 a3 c0 c1 c2 c3 v2 fz hq hgt hE'
    obtain ⟨he0, hbb, hr⟩ := HE.out
    obtain ⟨v, hv⟩ : ∃ v, bits .xor .i64 e0.val t = v := ⟨_, rfl⟩
    have hvn : v ≠ e0.val := by rw [← hv]; exact xor_ne HW.out.2 HT.out
    have hne' : C ≠ z.eb := fun e => by
      obtain ⟨cur, hcur, _⟩ := hr
      rw [← e, HX.out] at hcur
      have h1 := Option.some.inj hcur
      injection h1 with _ h2 _
      exact absurd h2 (by decide)
    rw [hv]
    have HB2 := Lib.hid (HB.out.setCell (p := ⟨z.eb, 2, none⟩) (Nat.le_trans HM.out hbb) (.int .i64 v))
    have HO2 := Lib.hid (OwnM.setE (k := 0) (q := 2) HO.out he0 (by decide) (encE_val e0 v) (HO.out.events.fits e0 (List.mem_of_getElem? he0)))
    have HX2 := Lib.hid (((Turned.one w9 z.eb 2 (.int .i64 v)).block C (heap_lt HX.out) hne').trans HX.out)
    generalize (w9.setCell ⟨z.eb, 2, none⟩ (.int .i64 v)) = w10 at *
    have hns : ¬ ({ z with events := z.events.set 0 { e0 with val := v } } : ModelV).m = x.m := fun e => by
      have e1 : z.events.set 0 { e0 with val := v } = z.events := congrArg ModelM.events (e.trans HZ.out.symm)
      have e2 := congrArg (fun l => l[0]?) e1
      obtain ⟨h0, _⟩ := List.getElem?_eq_some_iff.1 he0
      simp only [List.getElem?_set_self h0, he0] at e2
      exact hvn (congrArg EventM.val (Option.some.inj e2))
    have KZ := told (t := false) (by simp only [Bool.false_eq_true, false_iff]; exact hns) (csame_any (x := { z with events := z.events.set 0 { e0 with val := v } }) (y := x) HO2.out.at_ (HS.out.xa HB2.out))
    simp only [List.length_set] at KZ
    replace KZ := Lib.hid KZ
    clear hns hvn hne' he0 hbb hr HE HB HX HO hv
    have a0 : w10.cell? ⟨w.heap.size, 0, none⟩ = some (.int .i64 x.ver) := heap_cell (HS.out.xb HB2.out) rfl
    have a1 : w10.cell? ⟨w.heap.size, 1, none⟩ = some (.slice x.pa x.procs.length x.pc) := heap_cell (HS.out.xb HB2.out) rfl
    have a2 : w10.cell? ⟨w.heap.size, 2, none⟩ = some (.slice x.la x.links.length x.lc) := heap_cell (HS.out.xb HB2.out) rfl
    have a3 : w10.cell? ⟨w.heap.size, 3, none⟩ = some (.slice x.ea x.events.length x.ec) := heap_cell (HS.out.xb HB2.out) rfl
    have c0 : w10.cell? ⟨C, 0, none⟩ = some (.int .i64 z.ver) := heap_cell (HX2.out) rfl
    have c1 : w10.cell? ⟨C, 1, none⟩ = some (.slice z.pa z.procs.length z.pc) := heap_cell (HX2.out) rfl
    have c2 : w10.cell? ⟨C, 2, none⟩ = some (.slice z.la z.links.length z.lc) := heap_cell (HX2.out) rfl
    have c3 : w10.cell? ⟨C, 3, none⟩ = some (.slice z.ea z.events.length z.ec) := heap_cell (HX2.out) rfl
    go_wp2_with fail
    refine KZ.out.mono ?_
    rintro e w11 ⟨rfl, hb⟩
    go_wp2
    go_ret
    exact ⟨rfl, HS.out.fin (further HB2.out hb)⟩
  have hE0 : ¬ (0 : Int) < (z.events.length : Int) := by omega
  by_cases hP : 0 < z.procs.length
  · obtain ⟨p0, hp0⟩ : ∃ p0, z.procs[0]? = some p0 := ⟨_, List.getElem?_eq_getElem hP⟩
    obtain ⟨ha, hbb, hr⟩ := HO.out.procs.own.resolve_left (fun e => by rw [e] at hP; simp at hP)
    have hgt : decide (0 < (z.procs.length : Int)) = true := by simp; exact hP
    rw [ha] at c1
    have v2 : w9.cell? ⟨z.pb, 1, none⟩ = some (.int .i64 p0.p.weight) := hr.cell (i := 0) hp0 (r := 1) rfl
    have fz := hr.frozen 1
    have HA := Lib.hid ha
    have HE := Lib.hid (And.intro hp0 (And.intro hbb hr))
    have hE' : (0 : Int) < (z.procs.length : Int) := by omega
    clear ha hbb hr hp0
    go_upto_region 15 with fail
    clear a0 a1 a2 a3 c0 c1 c2 c3 v2 fz hq hgt hE' hE hE0
    obtain ⟨hp0, hbb, hr⟩ := HE.out
    obtain ⟨v, hv⟩ : ∃ v, bits .xor .i64 p0.p.weight t = v := ⟨_, rfl⟩
    have hvn : v ≠ p0.p.weight := by rw [← hv]; exact xor_ne HW.out.2 HT.out
    have hne' : C ≠ z.pb := fun e => by
      obtain ⟨cur, hcur, _⟩ := hr
      rw [← e, HX.out] at hcur
      have h1 := Option.some.inj hcur
      injection h1 with _ h2 _
      exact absurd h2 (by decide)
    rw [hv]
    have HB2 := Lib.hid (HB.out.setCell (p := ⟨z.pb, 1, none⟩) (Nat.le_trans HM.out hbb) (.int .i64 v))
    have HO2 := Lib.hid (OwnM.setP (k := 0) HO.out hp0 v)
    have HX2 := Lib.hid (((Turned.one w9 z.pb 1 (.int .i64 v)).block C (heap_lt HX.out) hne').trans HX.out)
    generalize (w9.setCell ⟨z.pb, 1, none⟩ (.int .i64 v)) = w10 at *
    have hns : ¬ ({ z with procs := z.procs.set 0 { p0 with p := { p0.p with weight := v } } } : ModelV).m = x.m := fun e => by
      have e1 : (z.procs.set 0 { p0 with p := { p0.p with weight := v } }).map (·.p) = z.procs.map (·.p) := congrArg ModelM.procs (e.trans HZ.out.symm)
      have e2 := congrArg (fun l => l[0]?) e1
      simp only [List.getElem?_map, List.getElem?_set_self hP, hp0, Option.map_some] at e2
      exact hvn (congrArg ProcM.weight (Option.some.inj e2))
    have KZ := told (t := false) (by simp only [Bool.false_eq_true, false_iff]; exact hns) (csame_any (x := { z with procs := z.procs.set 0 { p0 with p := { p0.p with weight := v } } }) (y := x) HO2.out.at_ (HS.out.xa HB2.out))
    simp only [List.length_set] at KZ
    replace KZ := Lib.hid KZ
    clear hns hvn hne' hp0 hbb hr HE HB HX HO hv hP
    have a0 : w10.cell? ⟨w.heap.size, 0, none⟩ = some (.int .i64 x.ver) := heap_cell (HS.out.xb HB2.out) rfl
    have a1 : w10.cell? ⟨w.heap.size, 1, none⟩ = some (.slice x.pa x.procs.length x.pc) := heap_cell (HS.out.xb HB2.out) rfl
    have a2 : w10.cell? ⟨w.heap.size, 2, none⟩ = some (.slice x.la x.links.length x.lc) := heap_cell (HS.out.xb HB2.out) rfl
    have a3 : w10.cell? ⟨w.heap.size, 3, none⟩ = some (.slice x.ea x.events.length x.ec) := heap_cell (HS.out.xb HB2.out) rfl
    have c0 : w10.cell? ⟨C, 0, none⟩ = some (.int .i64 z.ver) := heap_cell (HX2.out) rfl
    have c1 : w10.cell? ⟨C, 1, none⟩ = some (.slice z.pa z.procs.length z.pc) := heap_cell (HX2.out) rfl
    have c2 : w10.cell? ⟨C, 2, none⟩ = some (.slice z.la z.links.length z.lc) := heap_cell (HX2.out) rfl
    have c3 : w10.cell? ⟨C, 3, none⟩ = some (.slice z.ea z.events.length z.ec) := heap_cell (HX2.out) rfl
    go_wp2_with fail
    refine KZ.out.mono ?_
    rintro e w11 ⟨rfl, hb⟩
    go_wp2
    go_ret
    exact ⟨rfl, HS.out.fin (further HB2.out hb)⟩
  have hP0 : ¬ (0 : Int) < (z.procs.length : Int) := by omega
  have fz : w9.frozen? ⟨C, 0, none⟩ = false := heap_frozen HX.out 0
  go_upto_region 17 with fail
  clear a0 a1 a2 a3 c0 c1 c2 c3 fz hq hE hE0 hP hP0
  obtain ⟨v, hv⟩ : ∃ v, wrap64 (z.ver + 1) = v := ⟨_, rfl⟩
  have hvn : v ≠ z.ver := by
    have h1 : z.ver = x.ver := congrArg ModelM.ver HZ.out
    have h2 := bounds_i64 HW.out.1
    rw [← hv]
    unfold wrap64
    omega
  rw [hv]
  have HB2 := Lib.hid (HB.out.setCell (p := ⟨C, 0, none⟩) HC.out (.int .i64 v))
  have HO2 : Hid (OwnM M (w9.setCell ⟨C, 0, none⟩ (.int .i64 v)) { z with ver := v }) := Lib.hid (by
    have h1 := OwnM.box HO.out HX.out (by decide) 0 (.int .i64 v)
    exact ⟨h1.procs, h1.po, h1.inner, h1.links, h1.lo, h1.events, h1.eo⟩)
  have HX2 : Hid ((w9.setCell ⟨C, 0, none⟩ (.int .i64 v)).heap[C]? = some (.cells #[.int .i64 v, .slice z.pa z.procs.length z.pc, .slice z.la z.links.length z.lc, .slice z.ea z.events.length z.ec] 26 (0, 0))) := Lib.hid (heap_set HX.out 0 (.int .i64 v))
  generalize (w9.setCell ⟨C, 0, none⟩ (.int .i64 v)) = w10 at *
  have hns : ¬ ({ z with ver := v } : ModelV).m = x.m := fun e => hvn (congrArg ModelM.ver (e.trans HZ.out.symm))
  have KZ := Lib.hid (told (t := false) (by simp only [Bool.false_eq_true, false_iff]; exact hns) (csame_any (x := { z with ver := v }) (y := x) HO2.out.at_ (HS.out.xa HB2.out)))
  clear hns hvn HB HX HO hv
  have a0 : w10.cell? ⟨w.heap.size, 0, none⟩ = some (.int .i64 x.ver) := heap_cell (HS.out.xb HB2.out) rfl
  have a1 : w10.cell? ⟨w.heap.size, 1, none⟩ = some (.slice x.pa x.procs.length x.pc) := heap_cell (HS.out.xb HB2.out) rfl
  have a2 : w10.cell? ⟨w.heap.size, 2, none⟩ = some (.slice x.la x.links.length x.lc) := heap_cell (HS.out.xb HB2.out) rfl
  have a3 : w10.cell? ⟨w.heap.size, 3, none⟩ = some (.slice x.ea x.events.length x.ec) := heap_cell (HS.out.xb HB2.out) rfl
  have c0 : w10.cell? ⟨C, 0, none⟩ = some (.int .i64 v) := heap_cell (HX2.out) rfl
  have c1 : w10.cell? ⟨C, 1, none⟩ = some (.slice z.pa z.procs.length z.pc) := heap_cell (HX2.out) rfl
  have c2 : w10.cell? ⟨C, 2, none⟩ = some (.slice z.la z.links.length z.lc) := heap_cell (HX2.out) rfl
  have c3 : w10.cell? ⟨C, 3, none⟩ = some (.slice z.ea z.events.length z.ec) := heap_cell (HX2.out) rfl
  go_wp2_with fail
  refine KZ.out.mono ?_
  rintro e w11 ⟨rfl, hb⟩
  go_wp2
  go_ret
  exact ⟨rfl, HS.out.fin (further HB2.out hb)⟩

end Go.Proofs.YtjcmeacgfflfmaaGreat.Hk
