/- canon: walk of CanonOrders. -/
import Derived.Test.YtjcmeacgfflfmaaGreatCni
import Derived.Test.YtjcmeacgfflfmaaGreatCnh
import Derived.Test.YtjcmeacgfflfmaaGreatAw
import Derived.Deep.RegionHeld3
import Derived.Deep.RegionLaw
import Derived.Deep.QuietTactic
set_option linter.unusedVariables false
set_option linter.unusedSectionVars false
set_option linter.unusedSimpArgs false
namespace Go.Proofs.YtjcmeacgfflfmaaGreat.Hk
open Go.RowKit Go.Shelf Go.Proofs.YtjcmeacgfflfmaaGreat.Md

theorem few_len3 {m : ModelM} (h : fewB m = true) : m.procs.length ≤ 12 ∧ m.links.length ≤ 24 ∧ m.events.length ≤ 24 := by
  unfold fewB at h
  simp only [Bool.and_eq_true, decide_eq_true_eq, List.all_eq_true] at h
  exact ⟨h.1.1.1.1, h.1.1.1.2, h.1.1.2⟩
theorem sized_can {m : ModelM} (h : Sized m) : Sized (canM m) := by
  refine ⟨?_, ?_, ?_, fun p hp => ?_⟩
  · unfold canM; rw [List.length_map, Hg.srt_length]; exact h.procs
  · unfold canM; rw [Hg.srt_length]; exact h.links
  · unfold canM; rw [Hg.srt_length]; exact h.events
  · obtain ⟨q, hq, rfl⟩ := List.mem_map.1 hp
    have h1 := h.inner q (Hg.srt_mem hq)
    refine ⟨?_, h1.2⟩
    show (Hg.srt HeV.ord q.vars).length ≤ _
    rw [Hg.srt_length]
    exact h1.1
/-- A row of one's own stays while one of another type grows. -/
theorem own_other {W W' : World} {base : Nat} {t t' : TypeId} {sz sz' n n' : Nat} {v v' : Value} {xs xs' : List Value} (h : W.ownsRow base t sz v n xs) (h' : W.ownsRow base t' sz' v' n' xs') (ht : t ≠ t') (hg : W.grownBy W' v'.ownBlock) : W'.ownsRow base t sz v n xs := by
  refine h.kept hg ?_
  cases hv : v.ownBlock with
  | none => exact .inl rfl
  | some g =>
    refine .inr fun e => ?_
    obtain ⟨_, c1, h1⟩ := Hg.owns_block' h hv
    obtain ⟨_, c2, h2⟩ := Hg.owns_block' h' e.symm
    rw [h1] at h2
    have h3 := Option.some.inj h2
    injection h3 with _ h4 _
    exact ht h4
theorem own_box {W : World} {base : Nat} {t : TypeId} {sz n : Nat} {v : Value} {xs : List Value} (h : W.ownsRow base t sz v n xs) {K : Nat} (hK : K < base) (i : Nat) (u : Value) : (W.setCell ⟨K, i, none⟩ u).ownsRow base t sz v n xs := by
  refine h.kept (grown_set W K i u) ?_
  cases hv : v.ownBlock with
  | none => exact .inl rfl
  | some g => exact .inr fun e => by have := (h.lt g hv).1; cases e; omega
/-- What is turned round, in a box. -/
structure Bk (u0 : World) (ver : Int) (P : List ProcV) (L : List LinkM) (E : List EventM) (vP vL vE : Value) (W : World) : Prop where
  box : W.heap[u0.heap.size]? = some (.cells #[.int .i64 ver, vP, vL, vE] 26 (0, 0))
  ps : W.ownsRow (u0.heap.size + 1) 34 4 vP P.length (P.flatMap Md.encP)
  ls : W.ownsRow (u0.heap.size + 1) 42 5 vL L.length (L.flatMap encL)
  es : W.ownsRow (u0.heap.size + 1) 57 3 vE E.length (E.flatMap encE)
  low : Below u0.heap.size u0 W
theorem Bk.size {u0 : World} {ver : Int} {P : List ProcV} {L : List LinkM} {E : List EventM} {vP vL vE : Value} {W : World} (h : Bk u0 ver P L E vP vL vE W) : u0.heap.size + 1 ≤ W.heap.size := heap_lt h.box
theorem own_on {W W' : World} {base : Nat} {t : TypeId} {sz n : Nat} {v : Value} {xs : List Value} (h : W.ownsRow base t sz v n xs) (hb : Below W.heap.size W W') : W'.ownsRow base t sz v n xs :=
  h.kept (grown_below hb none) (by cases hv : v.ownBlock with | none => exact .inl rfl | some g => exact .inr (by simp))
theorem Bk.on {u0 : World} {ver : Int} {P : List ProcV} {L : List LinkM} {E : List EventM} {vP vL vE : Value} {W W' : World} (h : Bk u0 ver P L E vP vL vE W) (hb : Below W.heap.size W W') : Bk u0 ver P L E vP vL vE W' :=
  ⟨heap_below h.box hb (heap_lt h.box), own_on h.ps hb, own_on h.ls hb, own_on h.es hb, h.low.trans (hb.mono h.low.size)⟩
theorem Bk.start (u0 : World) (ver : Int) : Bk u0 ver [] [] [] (.slice none 0 0) (.slice none 0 0) (.slice none 0 0) (u0.alloc (.cells #[.int .i64 ver, .slice none 0 0, .slice none 0 0, .slice none 0 0] 26)) :=
  ⟨heap_new _ rfl, World.ownsRow_nil _ _ _ _, World.ownsRow_nil _ _ _ _, World.ownsRow_nil _ _ _ _, below_one u0 _⟩
theorem bk_ne {u0 W : World} {t : TypeId} {sz n : Nat} {v : Value} {xs : List Value} (h : W.ownsRow (u0.heap.size + 1) t sz v n xs) : some u0.heap.size ≠ v.ownBlock := fun e => by have := (h.lt _ e.symm).1; omega

theorem Bk.appP {u0 : World} {ver : Int} {P : List ProcV} {L : List LinkM} {E : List EventM} {vP vL vE v' : Value} {W W' : World} {q : ProcV} (h : Bk u0 ver P L E vP vL vE W) (hown : W'.ownsRow (u0.heap.size + 1) 34 4 v' (P.length + 1) (P.flatMap Md.encP ++ Md.encP q)) (hg : W.grownBy W' vP.ownBlock) :
    W'.heap[u0.heap.size]? = some (.cells #[.int .i64 ver, vP, vL, vE] 26 (0, 0)) ∧ Bk u0 ver (P ++ [q]) L E v' vL vE (W'.setCell ⟨u0.heap.size, 1, none⟩ v') := by
  have hbx := heap_kept h.box hg (bk_ne h.ps)
  refine ⟨hbx, heap_set hbx 1 v', by rw [List.length_append, List.length_singleton, List.flatMap_append, List.flatMap_singleton]; exact own_box hown (by omega) _ _, own_box (own_other h.ls h.ps (by decide) hg) (by omega) _ _, own_box (own_other h.es h.ps (by decide) hg) (by omega) _ _, ?_⟩
  exact (h.low.grown hg h.low.size (fun r e => by have := (h.ps.lt r e).1; omega)).setCell (p := ⟨u0.heap.size, 1, none⟩) (Nat.le_refl _) v'

theorem Bk.appL {u0 : World} {ver : Int} {P : List ProcV} {L : List LinkM} {E : List EventM} {vP vL vE v' : Value} {W W' : World} {q : LinkM} (h : Bk u0 ver P L E vP vL vE W) (hown : W'.ownsRow (u0.heap.size + 1) 42 5 v' (L.length + 1) (L.flatMap encL ++ encL q)) (hg : W.grownBy W' vL.ownBlock) :
    W'.heap[u0.heap.size]? = some (.cells #[.int .i64 ver, vP, vL, vE] 26 (0, 0)) ∧ Bk u0 ver P (L ++ [q]) E vP v' vE (W'.setCell ⟨u0.heap.size, 2, none⟩ v') := by
  have hbx := heap_kept h.box hg (bk_ne h.ls)
  refine ⟨hbx, heap_set hbx 2 v', own_box (own_other h.ps h.ls (by decide) hg) (by omega) _ _, by rw [List.length_append, List.length_singleton, List.flatMap_append, List.flatMap_singleton]; exact own_box hown (by omega) _ _, own_box (own_other h.es h.ls (by decide) hg) (by omega) _ _, ?_⟩
  exact (h.low.grown hg h.low.size (fun r e => by have := (h.ls.lt r e).1; omega)).setCell (p := ⟨u0.heap.size, 2, none⟩) (Nat.le_refl _) v'

theorem Bk.appE {u0 : World} {ver : Int} {P : List ProcV} {L : List LinkM} {E : List EventM} {vP vL vE v' : Value} {W W' : World} {q : EventM} (h : Bk u0 ver P L E vP vL vE W) (hown : W'.ownsRow (u0.heap.size + 1) 57 3 v' (E.length + 1) (E.flatMap encE ++ encE q)) (hg : W.grownBy W' vE.ownBlock) :
    W'.heap[u0.heap.size]? = some (.cells #[.int .i64 ver, vP, vL, vE] 26 (0, 0)) ∧ Bk u0 ver P L (E ++ [q]) vP vL v' (W'.setCell ⟨u0.heap.size, 3, none⟩ v') := by
  have hbx := heap_kept h.box hg (bk_ne h.es)
  refine ⟨hbx, heap_set hbx 3 v', own_box (own_other h.ps h.es (by decide) hg) (by omega) _ _, own_box (own_other h.ls h.es (by decide) hg) (by omega) _ _, by rw [List.length_append, List.length_singleton, List.flatMap_append, List.flatMap_singleton]; exact own_box hown (by omega) _ _, ?_⟩
  exact (h.low.grown hg h.low.size (fun r e => by have := (h.es.lt r e).1; omega)).setCell (p := ⟨u0.heap.size, 3, none⟩) (Nat.le_refl _) v'

theorem rev_next {α : Type} {X P : List α} {q : α} (hP : P = X.reverse.take P.length) (h : P.length < X.length) (hq : X[X.length - 1 - P.length]? = some q) : P ++ [q] = X.reverse.take (P ++ [q]).length := by
  rw [List.length_append, List.length_singleton, List.take_add_one, ← hP, List.getElem?_reverse h, hq]
  rfl
theorem rev_all {α : Type} {X P : List α} (hP : P = X.reverse.take P.length) (h : P.length = X.length) : P = X.reverse := by
  rw [hP, h, ← List.length_reverse, List.take_length]

set_option maxRecDepth 100000 in
set_option maxHeartbeats 40000000 in
theorem walk_CanonOrders (x : ModelV) (w : World) (h : ModelAt w.heap.size w x) (hw : (Lit.int .i64 x.ver).wf = true) : Calls Tryz.prog 5 #[.agg #[.int .i64 x.ver, .slice x.pa x.procs.length x.pc, .slice x.la x.links.length x.lc, .slice x.ea x.events.length x.ec]] w fun e w' => e = .returned (.bool true) ∧ Below w.heap.size w w' := by
  have HS := Lib.hid (S1.mk' h)
  clear h hw
  go_enter Tryz.func5, Tryz.ntmps5
  go_wp2_with fail
  generalize w.alloc (.cells #[.int .i64 x.ver, .slice x.pa x.procs.length x.pc, .slice x.la x.links.length x.lc, .slice x.ea x.events.length x.ec] 26) = w1 at *
  refine (alive_any w1).mono ?_
  rintro e w2 ⟨rfl, hb⟩
  have HB := Lib.hid hb
  clear hb
  have a0 : w2.cell? ⟨w.heap.size, 0, none⟩ = some (.int .i64 x.ver) := heap_cell (HS.out.xb HB.out) rfl
  have a1 : w2.cell? ⟨w.heap.size, 1, none⟩ = some (.slice x.pa x.procs.length x.pc) := heap_cell (HS.out.xb HB.out) rfl
  have a2 : w2.cell? ⟨w.heap.size, 2, none⟩ = some (.slice x.la x.links.length x.lc) := heap_cell (HS.out.xb HB.out) rfl
  have a3 : w2.cell? ⟨w.heap.size, 3, none⟩ = some (.slice x.ea x.events.length x.ec) := heap_cell (HS.out.xb HB.out) rfl
  go_wp2_with fail
  refine (few_any (HS.out.xa HB.out)).mono ?_
  rintro e w3 ⟨rfl, hb⟩
  replace HB := Lib.hid (further HB.out hb)
  clear hb a0 a1 a2 a3
  cases hf : fewB x.m with
  | false =>
    clear hf
    go_wp2
    go_ret
    exact ⟨rfl, HS.out.fin HB.out⟩
  | true =>
  have HSz := Lib.hid (few_sized hf)
  have HFw := Lib.hid (few_len3 hf)
  clear hf
  have a0 : w3.cell? ⟨w.heap.size, 0, none⟩ = some (.int .i64 x.ver) := heap_cell (HS.out.xb HB.out) rfl
  have a1 : w3.cell? ⟨w.heap.size, 1, none⟩ = some (.slice x.pa x.procs.length x.pc) := heap_cell (HS.out.xb HB.out) rfl
  have a2 : w3.cell? ⟨w.heap.size, 2, none⟩ = some (.slice x.la x.links.length x.lc) := heap_cell (HS.out.xb HB.out) rfl
  have a3 : w3.cell? ⟨w.heap.size, 3, none⟩ = some (.slice x.ea x.events.length x.ec) := heap_cell (HS.out.xb HB.out) rfl
  have HC := Lib.hid (canon_any (HS.out.xa HB.out) HSz.out)
  go_wp2_with fail
  clear a0 a1 a2 a3
  refine HC.out.mono ?_
  clear HC
  rintro e wq ⟨y, rfl, hym, hyo, hb⟩
  have HYM := Lib.hid hym
  have HV : Hid (Below w1.heap.size w1 (wq.alloc (.cells #[.int .i64 y.ver, .slice y.pa y.procs.length y.pc, .slice y.la y.links.length y.lc, .slice y.ea y.events.length y.ec] 26)) ∧ ModelAt (wq.alloc (.cells #[.int .i64 y.ver, .slice y.pa y.procs.length y.pc, .slice y.la y.links.length y.lc, .slice y.ea y.events.length y.ec] 26)).heap.size (wq.alloc (.cells #[.int .i64 y.ver, .slice y.pa y.procs.length y.pc, .slice y.la y.links.length y.lc, .slice y.ea y.events.length y.ec] 26)) y ∧ (wq.alloc (.cells #[.int .i64 y.ver, .slice y.pa y.procs.length y.pc, .slice y.la y.links.length y.lc, .slice y.ea y.events.length y.ec] 26)).heap[wq.heap.size]? = some (.cells #[.int .i64 y.ver, .slice y.pa y.procs.length y.pc, .slice y.la y.links.length y.lc, .slice y.ea y.events.length y.ec] 26 (0, 0))) := Lib.hid (by
    have hbx := below_one wq (.cells #[.int .i64 y.ver, .slice y.pa y.procs.length y.pc, .slice y.la y.links.length y.lc, .slice y.ea y.events.length y.ec] 26)
    exact ⟨further (further HB.out hb) hbx, hyo.at_.on hbx, heap_new _ rfl⟩)
  clear hb hym hyo HB
  go_upto_region 6 with fail
  generalize wq.alloc (.cells #[.int .i64 y.ver, .slice y.pa y.procs.length y.pc, .slice y.la y.links.length y.lc, .slice y.ea y.events.length y.ec] 26) = w5 at *
  generalize wq.heap.size = C at *
  obtain ⟨hB, hYa, hYb⟩ := HV.out
  have HB := Lib.hid hB
  have HYa := Lib.hid hYa
  have HYb := Lib.hid hYb
  have HYs : Hid (Sized y.m) := Lib.hid (by rw [HYM.out]; exact sized_can HSz.out)
  clear HV hB hYa hYb
  have dy0 : ∀ W, Below w5.heap.size w5 W → W.cell? ⟨C, 0, none⟩ = some (.int .i64 y.ver) := fun W hW => heap_cell (heap_below HYb.out hW (heap_lt HYb.out)) rfl
  have dy1 : ∀ W, Below w5.heap.size w5 W → W.cell? ⟨C, 1, none⟩ = some (.slice y.pa y.procs.length y.pc) := fun W hW => heap_cell (heap_below HYb.out hW (heap_lt HYb.out)) rfl
  have dy2 : ∀ W, Below w5.heap.size w5 W → W.cell? ⟨C, 2, none⟩ = some (.slice y.la y.links.length y.lc) := fun W hW => heap_cell (heap_below HYb.out hW (heap_lt HYb.out)) rfl
  have dy3 : ∀ W, Below w5.heap.size w5 W → W.cell? ⟨C, 3, none⟩ = some (.slice y.ea y.events.length y.ec) := fun W hW => heap_cell (heap_below HYb.out hW (heap_lt HYb.out)) rfl
  have KI : Hid (∀ W, Below w5.heap.size w5 W → Calls Tryz.prog 15 #[.agg #[.int .i64 y.ver, .slice y.pa y.procs.length y.pc, .slice y.la y.links.length y.lc, .slice y.ea y.events.length y.ec]] W fun e w' => e = .returned (.bool true) ∧ Below W.heap.size W w') := Lib.hid (fun W hW => told (t := true) (by rw [HYM.out, canM_idem]; simp) (cis_any (x := y) ((HYa.out.kept hW (Nat.le_refl _)).mono hW.size) HYs.out))
  have KC : Hid (∀ W, Below w5.heap.size w5 W → Calls Tryz.prog 12 #[.agg #[.int .i64 y.ver, .slice y.pa y.procs.length y.pc, .slice y.la y.links.length y.lc, .slice y.ea y.events.length y.ec]] W fun e w' => ∃ z : ModelV, e = .returned (.agg #[.int .i64 z.ver, .slice z.pa z.procs.length z.pc, .slice z.la z.links.length z.lc, .slice z.ea z.events.length z.ec]) ∧ Hid (z.m = y.m) ∧ Hid (ModelAt w'.heap.size w' z) ∧ Below W.heap.size W w') := Lib.hid (fun W hW => (canon_any (x := y) ((HYa.out.kept hW (Nat.le_refl _)).mono hW.size) HYs.out).mono (fun e w' h => by
    obtain ⟨z, h1, h2, h3, h4⟩ := h
    exact ⟨z, h1, Lib.hid (h2.trans (by rw [HYM.out, canM_idem])), Lib.hid h3.at_, h4⟩))
  have KS : Hid (∀ W (z : ModelV), Below w5.heap.size w5 W → z.m = y.m → ModelAt W.heap.size W z → Calls Tryz.prog 16 #[.agg #[.int .i64 z.ver, .slice z.pa z.procs.length z.pc, .slice z.la z.links.length z.lc, .slice z.ea z.events.length z.ec], .agg #[.int .i64 y.ver, .slice y.pa y.procs.length y.pc, .slice y.la y.links.length y.lc, .slice y.ea y.events.length y.ec]] W fun e w' => e = .returned (.bool true) ∧ Below W.heap.size W w') := Lib.hid (fun W z hW hz hza => told (t := true) (by simp [hz]) (csame_any (x := z) (y := y) hza ((HYa.out.kept hW (Nat.le_refl _)).mono hW.size)))
  have hS5 := Below.refl w5.heap.size w5
  go_cut [25] from 16 to 25 (fun c wx => c = .bool false ∧ Hid (Below w5.heap.size w5 wx))
  case first =>
    go_region_held3 (fun W => Below w5.heap.size w5 W) (first | assumption | exact Below.drew (by assumption)) (first
      | (go_at_call 15; with_reducible refine (KI.out _ (by assumption)).mono ?_; rintro e w6 ⟨rfl, hb⟩; have hS6 : Below w5.heap.size w5 w6 := further (show Below w5.heap.size w5 _ by assumption) hb; clear hb)
      | (go_at_call 12; with_reducible refine (KC.out _ (by assumption)).mono ?_; rintro e w7 ⟨z, rfl, hzm, hza, hb⟩; have hS7 : Below w5.heap.size w5 w7 := further (show Below w5.heap.size w5 _ by assumption) hb; clear hb)
      | (go_at_call 16; with_reducible refine (KS.out _ z (by assumption) hzm.out hza.out).mono ?_; rintro e w8 ⟨rfl, hb⟩; have hS8 : Below w5.heap.size w5 w8 := further (show Below w5.heap.size w5 _ by assumption) hb; clear hb))
    all_goals
      go_wp2_with fail
      go_meet
      exact ⟨rfl, Lib.hid hS8⟩
  case rest =>
  obtain ⟨rfl, HB8⟩ := hcut
  generalize wc = w8 at *
  clear KI KC KS hS5 dy0 dy1 dy2 dy3
  obtain ⟨E1, hE1⟩ : ∃ E, (mdE x.m).1 = E := ⟨_, rfl⟩
  obtain ⟨E2, hE2⟩ : ∃ E, (mdE x.m).2 = E := ⟨_, rfl⟩
  obtain ⟨E3, hE3⟩ : ∃ E, (mdE y.m).1 = E := ⟨_, rfl⟩
  obtain ⟨E4, hE4⟩ : ∃ E, (mdE y.m).2 = E := ⟨_, rfl⟩
  have hfd := field0 E1 E2
  have hfe := field0 E3 E4
  obtain ⟨rt, hrt⟩ : ∃ b, (E1 == 0) = b := ⟨_, rfl⟩
  have hrt2 : (E3 == 0) = rt := by
    rw [← hrt, ← hE1, ← hE3, HYM.out, Bool.eq_iff_iff]
    simp only [beq_iff_eq]
    exact (can_zero x.m).symm
  have HRt := Lib.hid (show rt = true → Right x.m from fun h => right_of (by rw [hE1]; rw [h] at hrt; simpa using hrt))
  have hrr : (rt != rt) = false := by simp
  have HC := Lib.hid (check_any (HS.out.xa (further HB.out HB8.out)))
  rw [hE1, hE2] at HC
  have HY8 := Lib.hid (HYa.out.on HB8.out)
  clear hE1 hE2
  have a0 : w8.cell? ⟨w.heap.size, 0, none⟩ = some (.int .i64 x.ver) := heap_cell (HS.out.xb (further HB.out HB8.out)) rfl
  have a1 : w8.cell? ⟨w.heap.size, 1, none⟩ = some (.slice x.pa x.procs.length x.pc) := heap_cell (HS.out.xb (further HB.out HB8.out)) rfl
  have a2 : w8.cell? ⟨w.heap.size, 2, none⟩ = some (.slice x.la x.links.length x.lc) := heap_cell (HS.out.xb (further HB.out HB8.out)) rfl
  have a3 : w8.cell? ⟨w.heap.size, 3, none⟩ = some (.slice x.ea x.events.length x.ec) := heap_cell (HS.out.xb (further HB.out HB8.out)) rfl
  go_wp2_with fail
  refine HC.out.mono ?_
  clear HC a0 a1 a2 a3
  rintro e w9 ⟨rfl, hb⟩
  have HB9 := Lib.hid (further HB8.out hb)
  have HC := Lib.hid (check_any (HY8.out.on hb))
  rw [hE3, hE4] at HC
  clear hb hE3 hE4 HY8 HB8
  have c0 : w9.cell? ⟨C, 0, none⟩ = some (.int .i64 y.ver) := heap_cell (heap_below HYb.out HB9.out (heap_lt HYb.out)) rfl
  have c1 : w9.cell? ⟨C, 1, none⟩ = some (.slice y.pa y.procs.length y.pc) := heap_cell (heap_below HYb.out HB9.out (heap_lt HYb.out)) rfl
  have c2 : w9.cell? ⟨C, 2, none⟩ = some (.slice y.la y.links.length y.lc) := heap_cell (heap_below HYb.out HB9.out (heap_lt HYb.out)) rfl
  have c3 : w9.cell? ⟨C, 3, none⟩ = some (.slice y.ea y.events.length y.ec) := heap_cell (heap_below HYb.out HB9.out (heap_lt HYb.out)) rfl
  go_wp2_with fail
  refine HC.out.mono ?_
  clear HC c0 c1 c2 c3
  rintro e wu ⟨rfl, hb⟩
  have HBu := Lib.hid (further HB9.out hb)
  clear hb HB9
  have a0 : wu.cell? ⟨w.heap.size, 0, none⟩ = some (.int .i64 x.ver) := heap_cell (HS.out.xb (further HB.out HBu.out)) rfl
  go_upto_region 12 with fail
  clear a0 hfd hfe hrt hrt2 hrr
  have HK := Lib.hid (Bk.start wu x.ver)
  have HUx : Hid (∀ W, Below wu.heap.size wu W → Below w1.heap.size w1 W) := Lib.hid (fun W hW => further (further HB.out HBu.out) hW)
  have HKC : Hid (w.heap.size < wu.heap.size) := Lib.hid (Nat.lt_of_lt_of_le (heap_lt (HS.out.xb HB.out)) HBu.out.size)
  generalize wu.alloc (.cells #[.int .i64 x.ver, .slice none 0 0, .slice none 0 0, .slice none 0 0] 26) = wv at *
  have hn12 : x.procs.length ≤ 12 := by have := HFw.out.1; unfold ModelV.m at this; simpa using this
  have hl24 : x.links.length ≤ 24 := HFw.out.2.1
  have he24 : x.events.length ≤ 24 := HFw.out.2.2
  have a1 : wv.cell? ⟨w.heap.size, 1, none⟩ = some (.slice x.pa x.procs.length x.pc) := heap_cell (HS.out.xb (HUx.out _ HK.out.low)) rfl
  go_wp2_with fail
  clear a1
  obtain ⟨I0, hI0⟩ : ∃ I : Int, (x.procs.length : Int) - 1 = I := ⟨_, rfl⟩
  have HI0 := Lib.hid hI0
  simp only [hI0]
  clear hI0
  go_loopw [6] (fun i wr => ∃ (I : Int) (P0 : List ProcV) (v : Value), i = .int .i64 I ∧ Hid (I = I0 - P0.length) ∧ P0.length ≤ x.procs.length ∧ Hid (P0 = x.procs.reverse.take P0.length) ∧ Hid (Bk wu x.ver P0 [] [] v (.slice none 0 0) (.slice none 0 0) wr)) (fun i _ => (intOf i + 1).toNat)
  case atStart => exact ⟨I0, [], _, rfl, Lib.hid (by simp), Nat.zero_le _, Lib.hid rfl, HK⟩
  case round =>
    clear HK
    obtain ⟨I, P0, v, rfl, HIe, hPl, HP, HR⟩ := hrel
    by_cases hlt : 0 ≤ I
    · have hPlt : P0.length < x.procs.length := by have := HIe.out; have := HI0.out; omega
      have HIn : Hid (I.toNat = x.procs.length - 1 - P0.length) := Lib.hid (by have := HIe.out; have := HI0.out; omega)
      have hIl : I < (x.procs.length : Int) := by have := HIe.out; have := HI0.out; omega
      obtain ⟨q, hq⟩ : ∃ q, x.procs[x.procs.length - 1 - P0.length]? = some q := ⟨_, List.getElem?_eq_getElem (by omega)⟩
      have hI := (HS.out.xa (HUx.out _ HR.out.low)).procs
      have hxa : x.pa = some ⟨x.pb, x.po, none⟩ := hI.addr.resolve_left (by omega)
      have r0 : wr.cell? ⟨x.pb, x.po + I.toNat * 4, none⟩ = some (.string q.p.name) := by rw [HIn.out]; exact hI.cell _ q hq 0 _ rfl
      have r1 : wr.cell? ⟨x.pb, x.po + I.toNat * 4 + 1, none⟩ = some (.int .i64 q.p.weight) := by rw [HIn.out]; exact hI.cell _ q hq 1 _ rfl
      have r2 : wr.cell? ⟨x.pb, x.po + I.toNat * 4 + 2, none⟩ = some (.slice q.va q.p.vars.length q.vc) := by rw [HIn.out]; exact hI.cell _ q hq 2 _ rfl
      have r3 : wr.cell? ⟨x.pb, x.po + I.toNat * 4 + 3, none⟩ = some (.slice q.sa q.p.steps.length q.sc) := by rw [HIn.out]; exact hI.cell _ q hq 3 _ rfl
      have HPn := Lib.hid (rev_next HP.out hPlt hq)
      have HFit := Lib.hid (hI.fits q (List.mem_of_getElem? hq))
      have d1 : wr.cell? ⟨w.heap.size, 1, none⟩ = some (.slice (some ⟨x.pb, x.po, none⟩) x.procs.length x.pc) := by rw [← hxa]; exact heap_cell (HS.out.xb (HUx.out _ HR.out.low)) rfl
      have d2 : wr.cell? ⟨wu.heap.size, 1, none⟩ = some v := heap_cell HR.out.box rfl
      have hwr : w.heap.size < wr.heap.size := Nat.lt_of_lt_of_le HKC.out HR.out.low.size
      have hwv : wu.heap.size < wr.heap.size := HR.out.size
      have hxl : x.pb < wr.heap.size := hI.below.resolve_left (by omega)
      have e2 : (wr.alloc (.cells #[.string q.p.name, .int .i64 q.p.weight, .slice q.va q.p.vars.length q.vc, .slice q.sa q.p.steps.length q.sc] 34)).cell? ⟨wu.heap.size, 1, none⟩ = some v := heap_cell (heap_alloc HR.out.box _) rfl
      have HM := Lib.hid (HR.out.on (((Below.refl _ wr).drew).alloc (Nat.le_refl _) (.cells #[.string q.p.name, .int .i64 q.p.weight, .slice q.va q.p.vars.length q.vc, .slice q.sa q.p.steps.length q.sc] 34)))
      have HNEW : Hid (∀ j u, (Md.encP q)[j]? = some u → (wr.drew.alloc (.cells #[.string q.p.name, .int .i64 q.p.weight, .slice q.va q.p.vars.length q.vc, .slice q.sa q.p.steps.length q.sc] 34)).cell? ((⟨wr.heap.size, 0, none⟩ : Addr).add j) = some u) := Lib.hid (fun j u hj => by
        rw [addr_add]
        exact heap_cell (heap_new (w := wr.drew) (Obj.cells #[.string q.p.name, .int .i64 q.p.weight, .slice q.va q.p.vars.length q.vc, .slice q.sa q.p.steps.length q.sc] 34) rfl) (by rw [Nat.zero_add, ← Array.getElem?_toList]; exact hj))
      have HONE : Hid (∀ u ∈ Md.encP q, u.oneCell' = true) := Lib.hid (fun u hu => onePU [q] u (by simpa using hu))
      have HAP : Hid (∀ (g5 cap5 : Nat) (w5 : World), w5.ownsRow (wu.heap.size + 1) 34 4 (.slice (some ⟨g5, 0, none⟩) (P0.length + 1) cap5) (P0.length + 1) (P0.flatMap Md.encP ++ Md.encP q) → (wr.drew.alloc (.cells #[.string q.p.name, .int .i64 q.p.weight, .slice q.va q.p.vars.length q.vc, .slice q.sa q.p.steps.length q.sc] 34)).grownBy w5 v.ownBlock → w5.heap[wu.heap.size]? = some (.cells #[.int .i64 x.ver, v, (.slice none 0 0), (.slice none 0 0)] 26 (0, 0)) ∧ Bk wu x.ver (P0 ++ [q]) [] [] (.slice (some ⟨g5, 0, none⟩) (P0.length + 1) cap5) (.slice none 0 0) (.slice none 0 0) (w5.setCell ⟨wu.heap.size, 1, none⟩ (.slice (some ⟨g5, 0, none⟩) (P0.length + 1) cap5))) := Lib.hid (fun g5 cap5 w5 h1 h2 => HM.out.appP h1 h2)
      have HOWN := Lib.hid HM.out.ps
      have HSZ : Hid (wu.heap.size + 1 ≤ wr.heap.size) := Lib.hid hwv
      obtain ⟨i0, hi, hz0, hz1, hz2⟩ := info_parts Tryz.infoP
      have HJ := Lib.hid hi
      have HZ0 := Lib.hid hz0
      have HZ1 := Lib.hid hz1
      have HZ2 := Lib.hid hz2
      clear hi hz0 hz1 hz2 hI hxa hq HP HR HM
      go_wp2
      go_region_law (refine step_append_where rfl (.tmp 48) (.tmp 54) 22 rfl (wu.heap.size + 1) 34 i0 (.agg zP) 4 72 Tryz.underlying22 HJ.out HZ0.out HZ1.out HZ2.out rfl (by decide) v P0.length (P0.flatMap Md.encP) (by simp [Act.eval]) HOWN.out ⟨wr.heap.size, 0, none⟩ 1 1 (Md.encP q) (by simp [Act.eval]) rfl HNEW.out HONE.out (by decide) (by unfold maxLen; omega) (by omega) (by have := HSZ.out; simp; omega) ?_; intro g5 cap5 w5 hown5 hg5 hc5 hw5; obtain ⟨hbx5, hpu⟩ := HAP.out g5 cap5 w5 hown5 hg5; have p1 := heap_cell hbx5 (i := 1) rfl; have q1 := heap_frozen hbx5 1; have HE := Lib.hid hpu; clear hpu hown5 hg5 hc5 hw5 hbx5)
      all_goals
        clear d1 d2 e2 hxl hwv hwr HNEW HONE HAP HOWN HSZ HJ HZ0 HZ1 HZ2 r0
        go_wp2
        go_roundw
        case rel => exact ⟨I - 1, P0 ++ [q], _, rfl, Lib.hid (by rw [List.length_append, HIe.out]; simp; omega), by simp; omega, HPn, HE⟩
        case measure => simp [intOf]; omega
    · have hPn : P0.length = x.procs.length := by have := HIe.out; have := HI0.out; omega
      have hPr := rev_all HP.out hPn
      subst hPr
      clear HP HIe hPl hPn
      generalize v = vPf at *
      generalize wr = wv at *
      have HK := HR
      clear HR
      have a2 : wv.cell? ⟨w.heap.size, 2, none⟩ = some (.slice x.la x.links.length x.lc) := heap_cell (HS.out.xb (HUx.out _ HK.out.low)) rfl
      go_wp2_with fail
      clear a2
      obtain ⟨I0, hI0⟩ : ∃ I : Int, (x.links.length : Int) - 1 = I := ⟨_, rfl⟩
      have HI0 := Lib.hid hI0
      simp only [hI0]
      clear hI0
      go_loopw [7] (fun i wr => ∃ (I : Int) (P0 : List LinkM) (v : Value), i = .int .i64 I ∧ Hid (I = I0 - P0.length) ∧ P0.length ≤ x.links.length ∧ Hid (P0 = x.links.reverse.take P0.length) ∧ Hid (Bk wu x.ver x.procs.reverse P0 [] vPf v (.slice none 0 0) wr)) (fun i _ => (intOf i + 1).toNat)
      case atStart => exact ⟨I0, [], _, rfl, Lib.hid (by simp), Nat.zero_le _, Lib.hid rfl, HK⟩
      case round =>
        clear HK
        obtain ⟨I, P0, v, rfl, HIe, hPl, HP, HR⟩ := hrel
        by_cases hlt : 0 ≤ I
        · have hPlt : P0.length < x.links.length := by have := HIe.out; have := HI0.out; omega
          have HIn : Hid (I.toNat = x.links.length - 1 - P0.length) := Lib.hid (by have := HIe.out; have := HI0.out; omega)
          have hIl : I < (x.links.length : Int) := by have := HIe.out; have := HI0.out; omega
          obtain ⟨q, hq⟩ : ∃ q, x.links[x.links.length - 1 - P0.length]? = some q := ⟨_, List.getElem?_eq_getElem (by omega)⟩
          have hI := (HS.out.xa (HUx.out _ HR.out.low)).links
          have hxa : x.la = some ⟨x.lb, x.lo, none⟩ := hI.addr.resolve_left (by omega)
          have r0 : wr.cell? ⟨x.lb, x.lo + I.toNat * 5, none⟩ = some (.string q.name) := by rw [HIn.out]; exact hI.cell _ q hq 0 _ rfl
          have r1 : wr.cell? ⟨x.lb, x.lo + I.toNat * 5 + 1, none⟩ = some (.string q.frm) := by rw [HIn.out]; exact hI.cell _ q hq 1 _ rfl
          have r2 : wr.cell? ⟨x.lb, x.lo + I.toNat * 5 + 2, none⟩ = some (.string q.to_) := by rw [HIn.out]; exact hI.cell _ q hq 2 _ rfl
          have r3 : wr.cell? ⟨x.lb, x.lo + I.toNat * 5 + 3, none⟩ = some (.int .i64 q.delay) := by rw [HIn.out]; exact hI.cell _ q hq 3 _ rfl
          have r4 : wr.cell? ⟨x.lb, x.lo + I.toNat * 5 + 4, none⟩ = some (.int .i64 q.weight) := by rw [HIn.out]; exact hI.cell _ q hq 4 _ rfl
          have HPn := Lib.hid (rev_next HP.out hPlt hq)
          have HFit := Lib.hid (hI.fits q (List.mem_of_getElem? hq))
          have d1 : wr.cell? ⟨w.heap.size, 2, none⟩ = some (.slice (some ⟨x.lb, x.lo, none⟩) x.links.length x.lc) := by rw [← hxa]; exact heap_cell (HS.out.xb (HUx.out _ HR.out.low)) rfl
          have d2 : wr.cell? ⟨wu.heap.size, 2, none⟩ = some v := heap_cell HR.out.box rfl
          have hwr : w.heap.size < wr.heap.size := Nat.lt_of_lt_of_le HKC.out HR.out.low.size
          have hwv : wu.heap.size < wr.heap.size := HR.out.size
          have hxl : x.lb < wr.heap.size := hI.below.resolve_left (by omega)
          have e2 : (wr.alloc (.cells #[.string q.name, .string q.frm, .string q.to_, .int .i64 q.delay, .int .i64 q.weight] 42)).cell? ⟨wu.heap.size, 2, none⟩ = some v := heap_cell (heap_alloc HR.out.box _) rfl
          have HM := Lib.hid (HR.out.on (((Below.refl _ wr).drew).alloc (Nat.le_refl _) (.cells #[.string q.name, .string q.frm, .string q.to_, .int .i64 q.delay, .int .i64 q.weight] 42)))
          have HNEW : Hid (∀ j u, (encL q)[j]? = some u → (wr.drew.alloc (.cells #[.string q.name, .string q.frm, .string q.to_, .int .i64 q.delay, .int .i64 q.weight] 42)).cell? ((⟨wr.heap.size, 0, none⟩ : Addr).add j) = some u) := Lib.hid (fun j u hj => by
            rw [addr_add]
            exact heap_cell (heap_new (w := wr.drew) (Obj.cells #[.string q.name, .string q.frm, .string q.to_, .int .i64 q.delay, .int .i64 q.weight] 42) rfl) (by rw [Nat.zero_add, ← Array.getElem?_toList]; exact hj))
          have HONE : Hid (∀ u ∈ encL q, u.oneCell' = true) := Lib.hid (fun u hu => oneLU [q] u (by simpa using hu))
          have HAP : Hid (∀ (g5 cap5 : Nat) (w5 : World), w5.ownsRow (wu.heap.size + 1) 42 5 (.slice (some ⟨g5, 0, none⟩) (P0.length + 1) cap5) (P0.length + 1) (P0.flatMap encL ++ encL q) → (wr.drew.alloc (.cells #[.string q.name, .string q.frm, .string q.to_, .int .i64 q.delay, .int .i64 q.weight] 42)).grownBy w5 v.ownBlock → w5.heap[wu.heap.size]? = some (.cells #[.int .i64 x.ver, vPf, v, (.slice none 0 0)] 26 (0, 0)) ∧ Bk wu x.ver x.procs.reverse (P0 ++ [q]) [] vPf (.slice (some ⟨g5, 0, none⟩) (P0.length + 1) cap5) (.slice none 0 0) (w5.setCell ⟨wu.heap.size, 2, none⟩ (.slice (some ⟨g5, 0, none⟩) (P0.length + 1) cap5))) := Lib.hid (fun g5 cap5 w5 h1 h2 => HM.out.appL h1 h2)
          have HOWN := Lib.hid HM.out.ls
          have HSZ : Hid (wu.heap.size + 1 ≤ wr.heap.size) := Lib.hid hwv
          obtain ⟨i0, hi, hz0, hz1, hz2⟩ := info_parts Tryz.infoL
          have HJ := Lib.hid hi
          have HZ0 := Lib.hid hz0
          have HZ1 := Lib.hid hz1
          have HZ2 := Lib.hid hz2
          clear hi hz0 hz1 hz2 hI hxa hq HP HR HM
          go_wp2
          go_region_law (refine step_append_where rfl (.tmp 66) (.tmp 72) 23 rfl (wu.heap.size + 1) 42 i0 (.agg zL) 5 64 Tryz.underlying23 HJ.out HZ0.out HZ1.out HZ2.out rfl (by decide) v P0.length (P0.flatMap encL) (by simp [Act.eval]) HOWN.out ⟨wr.heap.size, 0, none⟩ 1 1 (encL q) (by simp [Act.eval]) rfl HNEW.out HONE.out (by decide) (by unfold maxLen; omega) (by omega) (by have := HSZ.out; simp; omega) ?_; intro g5 cap5 w5 hown5 hg5 hc5 hw5; obtain ⟨hbx5, hpu⟩ := HAP.out g5 cap5 w5 hown5 hg5; have p1 := heap_cell hbx5 (i := 2) rfl; have q1 := heap_frozen hbx5 2; have HE := Lib.hid hpu; clear hpu hown5 hg5 hc5 hw5 hbx5)
          all_goals
            clear d1 d2 e2 hxl hwv hwr HNEW HONE HAP HOWN HSZ HJ HZ0 HZ1 HZ2 r0
            go_wp2
            go_roundw
            case rel => exact ⟨I - 1, P0 ++ [q], _, rfl, Lib.hid (by rw [List.length_append, HIe.out]; simp; omega), by simp; omega, HPn, HE⟩
            case measure => simp [intOf]; omega
        · have hPn : P0.length = x.links.length := by have := HIe.out; have := HI0.out; omega
          have hPr := rev_all HP.out hPn
          subst hPr
          clear HP HIe hPl hPn
          generalize v = vLf at *
          generalize wr = wv at *
          have HK := HR
          clear HR
          have a3 : wv.cell? ⟨w.heap.size, 3, none⟩ = some (.slice x.ea x.events.length x.ec) := heap_cell (HS.out.xb (HUx.out _ HK.out.low)) rfl
          go_wp2_with fail
          clear a3
          obtain ⟨I0, hI0⟩ : ∃ I : Int, (x.events.length : Int) - 1 = I := ⟨_, rfl⟩
          have HI0 := Lib.hid hI0
          simp only [hI0]
          clear hI0
          go_loopw [8] (fun i wr => ∃ (I : Int) (P0 : List EventM) (v : Value), i = .int .i64 I ∧ Hid (I = I0 - P0.length) ∧ P0.length ≤ x.events.length ∧ Hid (P0 = x.events.reverse.take P0.length) ∧ Hid (Bk wu x.ver x.procs.reverse x.links.reverse P0 vPf vLf v wr)) (fun i _ => (intOf i + 1).toNat)
          case atStart => exact ⟨I0, [], _, rfl, Lib.hid (by simp), Nat.zero_le _, Lib.hid rfl, HK⟩
          case round =>
            clear HK
            obtain ⟨I, P0, v, rfl, HIe, hPl, HP, HR⟩ := hrel
            by_cases hlt : 0 ≤ I
            · have hPlt : P0.length < x.events.length := by have := HIe.out; have := HI0.out; omega
              have HIn : Hid (I.toNat = x.events.length - 1 - P0.length) := Lib.hid (by have := HIe.out; have := HI0.out; omega)
              have hIl : I < (x.events.length : Int) := by have := HIe.out; have := HI0.out; omega
              obtain ⟨q, hq⟩ : ∃ q, x.events[x.events.length - 1 - P0.length]? = some q := ⟨_, List.getElem?_eq_getElem (by omega)⟩
              have hI := (HS.out.xa (HUx.out _ HR.out.low)).events
              have hxa : x.ea = some ⟨x.eb, x.eo, none⟩ := hI.addr.resolve_left (by omega)
              have r0 : wr.cell? ⟨x.eb, x.eo + I.toNat * 3, none⟩ = some (.string q.to_) := by rw [HIn.out]; exact hI.cell _ q hq 0 _ rfl
              have r1 : wr.cell? ⟨x.eb, x.eo + I.toNat * 3 + 1, none⟩ = some (.int .i64 q.at_) := by rw [HIn.out]; exact hI.cell _ q hq 1 _ rfl
              have r2 : wr.cell? ⟨x.eb, x.eo + I.toNat * 3 + 2, none⟩ = some (.int .i64 q.val) := by rw [HIn.out]; exact hI.cell _ q hq 2 _ rfl
              have HPn := Lib.hid (rev_next HP.out hPlt hq)
              have HFit := Lib.hid (hI.fits q (List.mem_of_getElem? hq))
              have d1 : wr.cell? ⟨w.heap.size, 3, none⟩ = some (.slice (some ⟨x.eb, x.eo, none⟩) x.events.length x.ec) := by rw [← hxa]; exact heap_cell (HS.out.xb (HUx.out _ HR.out.low)) rfl
              have d2 : wr.cell? ⟨wu.heap.size, 3, none⟩ = some v := heap_cell HR.out.box rfl
              have hwr : w.heap.size < wr.heap.size := Nat.lt_of_lt_of_le HKC.out HR.out.low.size
              have hwv : wu.heap.size < wr.heap.size := HR.out.size
              have hxl : x.eb < wr.heap.size := hI.below.resolve_left (by omega)
              have e2 : (wr.alloc (.cells #[.string q.to_, .int .i64 q.at_, .int .i64 q.val] 57)).cell? ⟨wu.heap.size, 3, none⟩ = some v := heap_cell (heap_alloc HR.out.box _) rfl
              have HM := Lib.hid (HR.out.on (((Below.refl _ wr).drew).alloc (Nat.le_refl _) (.cells #[.string q.to_, .int .i64 q.at_, .int .i64 q.val] 57)))
              have HNEW : Hid (∀ j u, (encE q)[j]? = some u → (wr.drew.alloc (.cells #[.string q.to_, .int .i64 q.at_, .int .i64 q.val] 57)).cell? ((⟨wr.heap.size, 0, none⟩ : Addr).add j) = some u) := Lib.hid (fun j u hj => by
                rw [addr_add]
                exact heap_cell (heap_new (w := wr.drew) (Obj.cells #[.string q.to_, .int .i64 q.at_, .int .i64 q.val] 57) rfl) (by rw [Nat.zero_add, ← Array.getElem?_toList]; exact hj))
              have HONE : Hid (∀ u ∈ encE q, u.oneCell' = true) := Lib.hid (fun u hu => oneEU [q] u (by simpa using hu))
              have HAP : Hid (∀ (g5 cap5 : Nat) (w5 : World), w5.ownsRow (wu.heap.size + 1) 57 3 (.slice (some ⟨g5, 0, none⟩) (P0.length + 1) cap5) (P0.length + 1) (P0.flatMap encE ++ encE q) → (wr.drew.alloc (.cells #[.string q.to_, .int .i64 q.at_, .int .i64 q.val] 57)).grownBy w5 v.ownBlock → w5.heap[wu.heap.size]? = some (.cells #[.int .i64 x.ver, vPf, vLf, v] 26 (0, 0)) ∧ Bk wu x.ver x.procs.reverse x.links.reverse (P0 ++ [q]) vPf vLf (.slice (some ⟨g5, 0, none⟩) (P0.length + 1) cap5) (w5.setCell ⟨wu.heap.size, 3, none⟩ (.slice (some ⟨g5, 0, none⟩) (P0.length + 1) cap5))) := Lib.hid (fun g5 cap5 w5 h1 h2 => HM.out.appE h1 h2)
              have HOWN := Lib.hid HM.out.es
              have HSZ : Hid (wu.heap.size + 1 ≤ wr.heap.size) := Lib.hid hwv
              obtain ⟨i0, hi, hz0, hz1, hz2⟩ := info_parts Tryz.infoE
              have HJ := Lib.hid hi
              have HZ0 := Lib.hid hz0
              have HZ1 := Lib.hid hz1
              have HZ2 := Lib.hid hz2
              clear hi hz0 hz1 hz2 hI hxa hq HP HR HM
              go_wp2
              go_region_law (refine step_append_where rfl (.tmp 84) (.tmp 90) 24 rfl (wu.heap.size + 1) 57 i0 (.agg zE) 3 32 Tryz.underlying24 HJ.out HZ0.out HZ1.out HZ2.out rfl (by decide) v P0.length (P0.flatMap encE) (by simp [Act.eval]) HOWN.out ⟨wr.heap.size, 0, none⟩ 1 1 (encE q) (by simp [Act.eval]) rfl HNEW.out HONE.out (by decide) (by unfold maxLen; omega) (by omega) (by have := HSZ.out; simp; omega) ?_; intro g5 cap5 w5 hown5 hg5 hc5 hw5; obtain ⟨hbx5, hpu⟩ := HAP.out g5 cap5 w5 hown5 hg5; have p1 := heap_cell hbx5 (i := 3) rfl; have q1 := heap_frozen hbx5 3; have HE := Lib.hid hpu; clear hpu hown5 hg5 hc5 hw5 hbx5)
              all_goals
                clear d1 d2 e2 hxl hwv hwr HNEW HONE HAP HOWN HSZ HJ HZ0 HZ1 HZ2 r0
                go_wp2
                go_roundw
                case rel => exact ⟨I - 1, P0 ++ [q], _, rfl, Lib.hid (by rw [List.length_append, HIe.out]; simp; omega), by simp; omega, HPn, HE⟩
                case measure => simp [intOf]; omega
            · have hPn : P0.length = x.events.length := by have := HIe.out; have := HI0.out; omega
              have hPr := rev_all HP.out hPn
              subst hPr
              clear HP HIe hPl hPn
              generalize v = vEf at *
              generalize wr = wv at *
              have HK := HR
              clear HR
              have hp1 := HS.out.xat.procs.small
              have hp2 := HS.out.xat.links.small
              have hp3 := HS.out.xat.events.small
              have HXw := Lib.hid (HS.out.xa (HUx.out _ HK.out.low))
              obtain ⟨pa, pc, pb, hvp, hrp⟩ := rows_gath (enc := Md.encP) (fit := fitP) (fun _ => rfl) (Or.inr HK.out.ps) (by rw [List.length_reverse]; unfold maxLen; omega) (fun q hq => HXw.out.procs.fits q (List.mem_reverse.1 hq))
              obtain ⟨la, lc, lb, hvl, hrl⟩ := rows_gath (enc := encL) (fit := fitL) (fun _ => rfl) (Or.inr HK.out.ls) (by rw [List.length_reverse]; unfold maxLen; omega) (fun q hq => HXw.out.links.fits q (List.mem_reverse.1 hq))
              obtain ⟨ea, ec, eb, hve, hre⟩ := rows_gath (enc := encE) (fit := fitE) (fun _ => rfl) (Or.inr HK.out.es) (by rw [List.length_reverse]; unfold maxLen; omega) (fun q hq => HXw.out.events.fits q (List.mem_reverse.1 hq))
              subst hvp hvl hve
              have HVa : Hid (ModelAt wv.heap.size wv ⟨x.ver, x.procs.reverse, x.links.reverse, x.events.reverse, pa, pb, 0, pc, la, lb, 0, lc, ea, eb, 0, ec⟩) := Lib.hid ⟨hrp, fun q hq => HXw.out.inner q (List.mem_reverse.1 hq), hrl, hre⟩
              have HVs : Hid (Sized (⟨x.ver, x.procs.reverse, x.links.reverse, x.events.reverse, pa, pb, 0, pc, la, lb, 0, lc, ea, eb, 0, ec⟩ : ModelV).m) := Lib.hid ⟨by have := HSz.out.procs; unfold ModelV.m at *; simpa using this, by have := HSz.out.links; unfold ModelV.m at *; simpa using this, by have := HSz.out.events; unfold ModelV.m at *; simpa using this, fun q hq => HSz.out.inner q (by unfold ModelV.m at *; simpa using hq)⟩
              have HVm : Hid (rt = true → canM (⟨x.ver, x.procs.reverse, x.links.reverse, x.events.reverse, pa, pb, 0, pc, la, lb, 0, lc, ea, eb, 0, ec⟩ : ModelV).m = y.m) := Lib.hid (fun e => by
                rw [HYM.out]
                refine can_perm (HRt.out e) rfl ?_ ?_ ?_
                · unfold ModelV.m; rw [List.map_reverse]; exact (List.reverse_perm _).symm
                · exact (List.reverse_perm _).symm
                · exact (List.reverse_perm _).symm)
              have HYw := Lib.hid (HBu.out.trans (HK.out.low.mono HBu.out.size))
              have HKx : Hid (wv.heap[wu.heap.size]? = some (.cells #[.int .i64 x.ver, .slice pa x.procs.length pc, .slice la x.links.length lc, .slice ea x.events.length ec] 26 (0, 0))) := Lib.hid (by have h1 := HK.out.box; simpa only [List.length_reverse] using h1)
              have HLw := Lib.hid HK.out.low
              have hdn : ¬ ((0 : Int) ≤ I) := by omega
              cases rt with
              | false =>
                clear HXw HK HVa HVs HVm hrp hrl hre
                go_wp2
                go_quiet (fail)
                go_wp2
                go_ret
                exact ⟨rfl, HS.out.fin ((HUx.out _ HLw.out).trans ⟨rfl, rfl, rfl, Nat.le_refl _, fun _ _ => rfl⟩)⟩
              | true =>
                have HVe := Lib.hid (HVm.out rfl)
                have KC : Hid (∀ W, Below wv.heap.size wv W → Calls Tryz.prog 12 #[.agg #[.int .i64 x.ver, .slice pa x.procs.length pc, .slice la x.links.length lc, .slice ea x.events.length ec]] W fun e w' => ∃ z : ModelV, e = .returned (.agg #[.int .i64 z.ver, .slice z.pa z.procs.length z.pc, .slice z.la z.links.length z.lc, .slice z.ea z.events.length z.ec]) ∧ Hid (z.m = y.m) ∧ Hid (ModelAt w'.heap.size w' z) ∧ Below W.heap.size W w') := Lib.hid (fun W hW => by
                  have h0 := canon_any (x := ⟨x.ver, x.procs.reverse, x.links.reverse, x.events.reverse, pa, pb, 0, pc, la, lb, 0, lc, ea, eb, 0, ec⟩) (HVa.out.on hW) HVs.out
                  simp only [List.length_reverse] at h0
                  refine h0.mono (fun e w' h => ?_)
                  obtain ⟨z, h1, h2, h3, h4⟩ := h
                  exact ⟨z, h1, Lib.hid (h2.trans HVe.out), Lib.hid h3.at_, h4⟩)
                have KS : Hid (∀ W (z : ModelV), Below wv.heap.size wv W → z.m = y.m → ModelAt W.heap.size W z → Calls Tryz.prog 16 #[.agg #[.int .i64 z.ver, .slice z.pa z.procs.length z.pc, .slice z.la z.links.length z.lc, .slice z.ea z.events.length z.ec], .agg #[.int .i64 y.ver, .slice y.pa y.procs.length y.pc, .slice y.la y.links.length y.lc, .slice y.ea y.events.length y.ec]] W fun e w' => e = .returned (.bool true) ∧ Below W.heap.size W w') := Lib.hid (fun W z hW hz hza => told (t := true) (by simp [hz]) (csame_any (x := z) (y := y) hza ((HYa.out.kept (HYw.out.trans (hW.mono HYw.out.size)) (Nat.le_refl _)).mono (Nat.le_trans HYw.out.size hW.size))))
                have fb0 : ∀ W, Below wv.heap.size wv W → W.cell? ⟨wu.heap.size, 0, none⟩ = some (.int .i64 x.ver) := fun W hW => heap_cell (heap_below HKx.out hW (heap_lt HKx.out)) rfl
                have fb1 : ∀ W, Below wv.heap.size wv W → W.cell? ⟨wu.heap.size, 1, none⟩ = some (.slice pa x.procs.length pc) := fun W hW => heap_cell (heap_below HKx.out hW (heap_lt HKx.out)) rfl
                have fb2 : ∀ W, Below wv.heap.size wv W → W.cell? ⟨wu.heap.size, 2, none⟩ = some (.slice la x.links.length lc) := fun W hW => heap_cell (heap_below HKx.out hW (heap_lt HKx.out)) rfl
                have fb3 : ∀ W, Below wv.heap.size wv W → W.cell? ⟨wu.heap.size, 3, none⟩ = some (.slice ea x.events.length ec) := fun W hW => heap_cell (heap_below HKx.out hW (heap_lt HKx.out)) rfl
                have fy0 : ∀ W, Below wv.heap.size wv W → W.cell? ⟨C, 0, none⟩ = some (.int .i64 y.ver) := fun W hW => heap_cell (heap_below HYb.out (HYw.out.trans (hW.mono HYw.out.size)) (heap_lt HYb.out)) rfl
                have fy1 : ∀ W, Below wv.heap.size wv W → W.cell? ⟨C, 1, none⟩ = some (.slice y.pa y.procs.length y.pc) := fun W hW => heap_cell (heap_below HYb.out (HYw.out.trans (hW.mono HYw.out.size)) (heap_lt HYb.out)) rfl
                have fy2 : ∀ W, Below wv.heap.size wv W → W.cell? ⟨C, 2, none⟩ = some (.slice y.la y.links.length y.lc) := fun W hW => heap_cell (heap_below HYb.out (HYw.out.trans (hW.mono HYw.out.size)) (heap_lt HYb.out)) rfl
                have fy3 : ∀ W, Below wv.heap.size wv W → W.cell? ⟨C, 3, none⟩ = some (.slice y.ea y.events.length y.ec) := fun W hW => heap_cell (heap_below HYb.out (HYw.out.trans (hW.mono HYw.out.size)) (heap_lt HYb.out)) rfl
                have hSv := Below.refl wv.heap.size wv
                clear HXw HK HVa HVs HVm hrp hrl hre
                go_upto_region 24 with fail
                go_region_held3 (fun W => Below wv.heap.size wv W) (first | assumption | exact Below.drew (by assumption)) (first
                  | (go_at_call 12; with_reducible refine (KC.out _ (by assumption)).mono ?_; rintro e wa ⟨z, rfl, hzm, hza, hb⟩; have hSa : Below wv.heap.size wv wa := further (show Below wv.heap.size wv _ by assumption) hb; clear hb)
                  | (go_at_call 16; with_reducible refine (KS.out _ z (by assumption) hzm.out hza.out).mono ?_; rintro e wb ⟨rfl, hb⟩; have hSb : Below wv.heap.size wv wb := further (show Below wv.heap.size wv _ by assumption) hb; clear hb))
                all_goals go_wp2
                all_goals go_ret
                all_goals exact ⟨rfl, HS.out.fin (HUx.out _ (HLw.out.trans (hSb.mono HLw.out.size)))⟩


end Go.Proofs.YtjcmeacgfflfmaaGreat.Hk
