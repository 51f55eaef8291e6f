/- Contracts: canon.Same, canon.Is. -/
import Derived.Test.YtjcmeacgfflfmaaGreatEqs
import Derived.Test.YtjcmeacgfflfmaaGreatCnb
set_option linter.unusedVariables false
set_option linter.unusedSectionVars false
set_option linter.unusedSimpArgs false
namespace Go.Proofs.YtjcmeacgfflfmaaGreat.Hk
open Go.RowKit Go.Shelf Go.Proofs.YtjcmeacgfflfmaaGreat.Md

/-- A Boolean that tells whether. -/
theorem tells (p : Prop) : ∃ t : Bool, t = true ↔ p := by
  by_cases h : p
  · exact ⟨true, by simp [h]⟩
  · exact ⟨false, by simp [h]⟩
def Tq (p : Prop) (w : World) (e : Ending) (w' : World) : Prop := (∃ t : Bool, e = .returned (.bool t) ∧ (t = true ↔ p)) ∧ Below w.heap.size w w'
theorem Tq.intro {p : Prop} {w w' : World} {e : Ending} (t : Bool) (he : e = .returned (.bool t)) (h : t = true ↔ p) (hb : Below w.heap.size w w') : Tq p w e w' := ⟨⟨t, he, h⟩, hb⟩
theorem Tq.split {P : Program} {f : Nat} {args : Array Value} {w : World} {p : Prop} (h : Calls P f args w (Tq p w)) : Calls P f args w fun e w' => ∃ t : Bool, e = .returned (.bool t) ∧ Hid (t = true ↔ p) ∧ Hid (Below w.heap.size w w') :=
  h.mono fun e w' h => by
    obtain ⟨⟨t, h1, h2⟩, h3⟩ := h
    exact ⟨t, h1, Lib.hid h2, Lib.hid h3⟩
theorem told {P : Program} {f : Nat} {args : Array Value} {w : World} {p : Prop} {t : Bool} (ht : t = true ↔ p) (h : Calls P f args w fun e w' => (∃ t : Bool, e = .returned (.bool t) ∧ (t = true ↔ p)) ∧ Below w.heap.size w w') : Calls P f args w fun e w' => e = .returned (.bool t) ∧ Below w.heap.size w w' :=
  h.mono fun e w' ⟨⟨u, h1, h2⟩, h3⟩ => ⟨by rw [h1, Bool.eq_iff_iff.2 (h2.trans ht.symm)], h3⟩
theorem procM_eq {p q : ProcM} (h1 : p.name = q.name) (h2 : p.weight = q.weight) (h3 : p.vars = q.vars) (h4 : p.steps = q.steps) : p = q := by
  cases p
  cases q
  simp_all

set_option maxRecDepth 100000 in
set_option maxHeartbeats 4000000 in
theorem csp_any {w : World} {p q : ProcV} (hp : ProcIn w.heap.size w p) (hq : ProcIn w.heap.size w q) : Calls Tryz.prog 45 #[.agg #[.string p.p.name, .int .i64 p.p.weight, .slice p.va p.p.vars.length p.vc, .slice p.sa p.p.steps.length p.sc], .agg #[.string q.p.name, .int .i64 q.p.weight, .slice q.va q.p.vars.length q.vc, .slice q.sa q.p.steps.length q.sc]] w (Tq (p.p = q.p) w) := by
  have hb0 : Below w.heap.size w ((w.alloc (.cells #[.string p.p.name, .int .i64 p.p.weight, .slice p.va p.p.vars.length p.vc, .slice p.sa p.p.steps.length p.sc] 34)).alloc (.cells #[.string q.p.name, .int .i64 q.p.weight, .slice q.va q.p.vars.length q.vc, .slice q.sa q.p.steps.length q.sc] 34)) := (below_one w _).alloc (by simp) _
  have HA : Hid (((w.alloc (.cells #[.string p.p.name, .int .i64 p.p.weight, .slice p.va p.p.vars.length p.vc, .slice p.sa p.p.steps.length p.sc] 34)).alloc (.cells #[.string q.p.name, .int .i64 q.p.weight, .slice q.va q.p.vars.length q.vc, .slice q.sa q.p.steps.length q.sc] 34)).heap[w.heap.size]? = some (.cells #[.string p.p.name, .int .i64 p.p.weight, .slice p.va p.p.vars.length p.vc, .slice p.sa p.p.steps.length p.sc] 34 (0, 0))) := Lib.hid (heap_alloc (heap_new _ rfl) _)
  have HQ : Hid (((w.alloc (.cells #[.string p.p.name, .int .i64 p.p.weight, .slice p.va p.p.vars.length p.vc, .slice p.sa p.p.steps.length p.sc] 34)).alloc (.cells #[.string q.p.name, .int .i64 q.p.weight, .slice q.va q.p.vars.length q.vc, .slice q.sa q.p.steps.length q.sc] 34)).heap[w.heap.size + 1]? = some (.cells #[.string q.p.name, .int .i64 q.p.weight, .slice q.va q.p.vars.length q.vc, .slice q.sa q.p.steps.length q.sc] 34 (0, 0))) := Lib.hid (heap_new _ (by simp))
  have HB0 := Lib.hid hb0
  have HP := Lib.hid (hp.on hb0)
  have HPq := Lib.hid (hq.on hb0)
  clear hb0 hp hq
  obtain ⟨tv, htv⟩ := tells (p.p.vars = q.p.vars)
  obtain ⟨ts, hts⟩ := tells (p.p.steps = q.p.steps)
  have HTV := Lib.hid htv
  have HTS := Lib.hid hts
  clear htv hts
  go_enter Tryz.func45, Tryz.ntmps45
  go_upto_region 1 with fail
  generalize ((w.alloc (.cells #[.string p.p.name, .int .i64 p.p.weight, .slice p.va p.p.vars.length p.vc, .slice p.sa p.p.steps.length p.sc] 34)).alloc (.cells #[.string q.p.name, .int .i64 q.p.weight, .slice q.va q.p.vars.length q.vc, .slice q.sa q.p.steps.length q.sc] 34)) = w1 at *
  have a0 : w1.cell? ⟨w.heap.size, 0, none⟩ = some (.string p.p.name) := heap_cell HA.out rfl
  have b0 : w1.cell? ⟨w.heap.size + 1, 0, none⟩ = some (.string q.p.name) := heap_cell HQ.out rfl
  have a1 : w1.cell? ⟨w.heap.size, 1, none⟩ = some (.int .i64 p.p.weight) := heap_cell HA.out rfl
  have b1 : w1.cell? ⟨w.heap.size + 1, 1, none⟩ = some (.int .i64 q.p.weight) := heap_cell HQ.out rfl
  have a2 : w1.cell? ⟨w.heap.size, 2, none⟩ = some (.slice p.va p.p.vars.length p.vc) := heap_cell HA.out rfl
  have b2 : w1.cell? ⟨w.heap.size + 1, 2, none⟩ = some (.slice q.va q.p.vars.length q.vc) := heap_cell HQ.out rfl
  have a3 : w1.cell? ⟨w.heap.size, 3, none⟩ = some (.slice p.sa p.p.steps.length p.sc) := heap_cell HA.out rfl
  have b3 : w1.cell? ⟨w.heap.size + 1, 3, none⟩ = some (.slice q.sa q.p.steps.length q.sc) := heap_cell HQ.out rfl
  have HEV : Hid (∀ W, Below w1.heap.size w1 W → Calls Tryz.prog 84 #[.slice p.va p.p.vars.length p.vc, .slice q.va q.p.vars.length q.vc] W fun e w' => e = .returned (.bool tv) ∧ Below W.heap.size W w') := Lib.hid (fun W hW => told HTV.out (eqV_any (HP.out.on hW).vars (HPq.out.on hW).vars))
  have HES : Hid (∀ W, Below w1.heap.size w1 W → Calls Tryz.prog 85 #[.slice p.sa p.p.steps.length p.sc, .slice q.sa q.p.steps.length q.sc] W fun e w' => e = .returned (.bool ts) ∧ Below W.heap.size W w') := Lib.hid (fun W hW => told HTS.out (eqS_any (HP.out.on hW).steps (HPq.out.on hW).steps))
  by_cases hn : p.p.name = q.p.name
  · have hnc : (p.p.name.toList == q.p.name.toList) = true := by rw [bytes_eq, decide_eq_true hn]
    have HN := Lib.hid hn
    clear hn
    by_cases hw : p.p.weight = q.p.weight
    · have hwc : (p.p.weight == q.p.weight) = true := by simpa using hw
      have HW := Lib.hid hw
      clear hw
      cases tv with
      | false =>
        go_wp2_with (go_at_call 84; refine (HEV.out _ (Below.refl _ _)).mono ?_; rintro e w5 ⟨rfl, hb5⟩; have HB5 := Lib.hid hb5; clear hb5)
        go_ret
        refine Tq.intro _ rfl ?_ (HB0.out.trans (HB5.out.mono HB0.out.size))
        simp
        intro e
        exact absurd (HTV.out.2 (congrArg ProcM.vars e)) (by simp)
      | true =>
        go_wp2_with (first
          | (go_at_call 84; refine (HEV.out _ (Below.refl _ _)).mono ?_; rintro e w5 ⟨rfl, hb⟩; have hbw5 := hb; clear hb;
              have a3 : w5.cell? ⟨w.heap.size, 3, none⟩ = some (.slice p.sa p.p.steps.length p.sc) := heap_cell (heap_on HA.out hbw5) rfl;
              have b3 : w5.cell? ⟨w.heap.size + 1, 3, none⟩ = some (.slice q.sa q.p.steps.length q.sc) := heap_cell (heap_on HQ.out hbw5) rfl)
          | (go_at_call 85; refine (HES.out _ hbw5).mono ?_; rintro e w6 ⟨rfl, hb⟩; have HB6 := Lib.hid (hbw5.trans (hb.mono hbw5.size)); clear hb))
        go_ret
        refine Tq.intro _ rfl ?_ (HB0.out.trans (HB6.out.mono HB0.out.size))
        rw [HTS.out]
        exact ⟨fun e => procM_eq HN.out HW.out (HTV.out.1 (by simp)) e, fun e => congrArg ProcM.steps e⟩
    · have hwc : (p.p.weight == q.p.weight) = false := by simpa using hw
      have HW := Lib.hid hw
      clear hw
      go_wp2
      go_ret
      exact Tq.intro _ rfl (by simp; intro e; exact HW.out (congrArg ProcM.weight e)) (HB0.out)
  · have hnc : (p.p.name.toList == q.p.name.toList) = false := by rw [bytes_eq, decide_eq_false hn]
    have HN := Lib.hid hn
    clear hn
    go_wp2
    go_ret
    exact Tq.intro _ rfl (by simp; intro e; exact HN.out (congrArg ProcM.name e)) (HB0.out)

set_option maxRecDepth 100000 in
set_option maxHeartbeats 4000000 in
theorem cef_any {w : World} {a a' : Option Addr} {b b' off off' len len' cap cap' : Nat} {L M : List ProcV} (h : RowsAt encP fitP 4 w.heap.size w a b off len L) (h' : RowsAt encP fitP 4 w.heap.size w a' b' off' len' M) (hi : ∀ p ∈ L, ProcIn w.heap.size w p) (hi' : ∀ p ∈ M, ProcIn w.heap.size w p) :
    Calls Tryz.prog 44 #[.slice a len cap, .slice a' len' cap', .func (.func 45) #[] #[]] w (Tq (L.map (·.p) = M.map (·.p)) w) := by
  have hL := h.length
  have hM := h'.length
  have hsm : (len : Int) ≤ 9223372036854775807 := by have := h.small; unfold maxLen at this; omega
  have HI := Lib.hid h
  have HJ := Lib.hid h'
  have HIi := Lib.hid hi
  have HJi := Lib.hid hi'
  clear h h' hi hi'
  by_cases hl : len = len'
  · obtain rfl := hl
    have hlb : ((len : Int) != (len : Int)) = false := by simp
    go_enter Tryz.func44, Tryz.ntmps44
    go_wp2
    go_loopw [17] (fun i wr => ∃ k : Nat, i = .int .i64 (k : Int) ∧ k ≤ len ∧ Hid ((L.map (·.p)).take k = (M.map (·.p)).take k) ∧ Hid (Below w.heap.size w wr)) (fun i _ => len - (intOf i).toNat)
    case atStart => exact ⟨0, rfl, Nat.zero_le _, Lib.hid rfl, Lib.hid (Below.refl _ _)⟩
    case round =>
      obtain ⟨k, rfl, hk, HE, HB⟩ := hrel
      have hk0 : (0 : Int) ≤ (k : Int) := Int.natCast_nonneg k
      by_cases hlt : k < len
      · have hki : (k : Int) < (len : Int) := by omega
        obtain ⟨p, hp⟩ : ∃ p, L[k]? = some p := ⟨_, List.getElem?_eq_getElem (by omega)⟩
        obtain ⟨q, hq⟩ : ∃ q, M[k]? = some q := ⟨_, List.getElem?_eq_getElem (by omega)⟩
        have hIp := HI.out.kept HB.out (Nat.le_refl _)
        have hIq := HJ.out.kept HB.out (Nat.le_refl _)
        obtain rfl := hIp.addr.resolve_left (by omega)
        obtain rfl := hIq.addr.resolve_left (by omega)
        have HX : Hid ((L.map (·.p))[k]? = some p.p) := Lib.hid (by rw [List.getElem?_map, hp]; rfl)
        have HY : Hid ((M.map (·.p))[k]? = some q.p) := Lib.hid (by rw [List.getElem?_map, hq]; rfl)
        have r0 : wr.cell? ⟨b, off + k * 4, none⟩ = some (.string p.p.name) := hIp.cell k p hp 0 _ rfl
        have r1 : wr.cell? ⟨b, off + k * 4 + 1, none⟩ = some (.int .i64 p.p.weight) := hIp.cell k p hp 1 _ rfl
        have r2 : wr.cell? ⟨b, off + k * 4 + 2, none⟩ = some (.slice p.va p.p.vars.length p.vc) := hIp.cell k p hp 2 _ rfl
        have r3 : wr.cell? ⟨b, off + k * 4 + 3, none⟩ = some (.slice p.sa p.p.steps.length p.sc) := hIp.cell k p hp 3 _ rfl
        have s0 : wr.cell? ⟨b', off' + k * 4, none⟩ = some (.string q.p.name) := hIq.cell k q hq 0 _ rfl
        have s1 : wr.cell? ⟨b', off' + k * 4 + 1, none⟩ = some (.int .i64 q.p.weight) := hIq.cell k q hq 1 _ rfl
        have s2 : wr.cell? ⟨b', off' + k * 4 + 2, none⟩ = some (.slice q.va q.p.vars.length q.vc) := hIq.cell k q hq 2 _ rfl
        have s3 : wr.cell? ⟨b', off' + k * 4 + 3, none⟩ = some (.slice q.sa q.p.steps.length q.sc) := hIq.cell k q hq 3 _ rfl
        have s0 : (wr.alloc (.cells #[.string p.p.name, .int .i64 p.p.weight, .slice p.va p.p.vars.length p.vc, .slice p.sa p.p.steps.length p.sc] 34)).cell? ⟨b', off' + k * 4, none⟩ = some (.string q.p.name) := (Below.cell (below_one wr _) (p := ⟨b', off' + k * 4, none⟩) (by have := hIq.below.resolve_left (by omega); have := HB.out.size; show b' < wr.heap.size; omega)).trans s0
        have s1 : (wr.alloc (.cells #[.string p.p.name, .int .i64 p.p.weight, .slice p.va p.p.vars.length p.vc, .slice p.sa p.p.steps.length p.sc] 34)).cell? ⟨b', off' + k * 4 + 1, none⟩ = some (.int .i64 q.p.weight) := (Below.cell (below_one wr _) (p := ⟨b', off' + k * 4 + 1, none⟩) (by have := hIq.below.resolve_left (by omega); have := HB.out.size; show b' < wr.heap.size; omega)).trans s1
        have s2 : (wr.alloc (.cells #[.string p.p.name, .int .i64 p.p.weight, .slice p.va p.p.vars.length p.vc, .slice p.sa p.p.steps.length p.sc] 34)).cell? ⟨b', off' + k * 4 + 2, none⟩ = some (.slice q.va q.p.vars.length q.vc) := (Below.cell (below_one wr _) (p := ⟨b', off' + k * 4 + 2, none⟩) (by have := hIq.below.resolve_left (by omega); have := HB.out.size; show b' < wr.heap.size; omega)).trans s2
        have s3 : (wr.alloc (.cells #[.string p.p.name, .int .i64 p.p.weight, .slice p.va p.p.vars.length p.vc, .slice p.sa p.p.steps.length p.sc] 34)).cell? ⟨b', off' + k * 4 + 3, none⟩ = some (.slice q.sa q.p.steps.length q.sc) := (Below.cell (below_one wr _) (p := ⟨b', off' + k * 4 + 3, none⟩) (by have := hIq.below.resolve_left (by omega); have := HB.out.size; show b' < wr.heap.size; omega)).trans s3
        have hbb : Below wr.heap.size wr ((wr.alloc (.cells #[.string p.p.name, .int .i64 p.p.weight, .slice p.va p.p.vars.length p.vc, .slice p.sa p.p.steps.length p.sc] 34)).alloc (.cells #[.string q.p.name, .int .i64 q.p.weight, .slice q.va q.p.vars.length q.vc, .slice q.sa q.p.steps.length q.sc] 34)) := (below_one wr _).alloc (by simp) _
        obtain ⟨t, ht⟩ := tells (p.p = q.p)
        have HSP : Hid (Calls Tryz.prog 45 #[.agg #[.string p.p.name, .int .i64 p.p.weight, .slice p.va p.p.vars.length p.vc, .slice p.sa p.p.steps.length p.sc], .agg #[.string q.p.name, .int .i64 q.p.weight, .slice q.va q.p.vars.length q.vc, .slice q.sa q.p.steps.length q.sc]] ((wr.alloc (.cells #[.string p.p.name, .int .i64 p.p.weight, .slice p.va p.p.vars.length p.vc, .slice p.sa p.p.steps.length p.sc] 34)).alloc (.cells #[.string q.p.name, .int .i64 q.p.weight, .slice q.va q.p.vars.length q.vc, .slice q.sa q.p.steps.length q.sc] 34)) fun e w' => e = .returned (.bool t) ∧ Below ((wr.alloc (.cells #[.string p.p.name, .int .i64 p.p.weight, .slice p.va p.p.vars.length p.vc, .slice p.sa p.p.steps.length p.sc] 34)).alloc (.cells #[.string q.p.name, .int .i64 q.p.weight, .slice q.va q.p.vars.length q.vc, .slice q.sa q.p.steps.length q.sc] 34)).heap.size ((wr.alloc (.cells #[.string p.p.name, .int .i64 p.p.weight, .slice p.va p.p.vars.length p.vc, .slice p.sa p.p.steps.length p.sc] 34)).alloc (.cells #[.string q.p.name, .int .i64 q.p.weight, .slice q.va q.p.vars.length q.vc, .slice q.sa q.p.steps.length q.sc] 34)) w') := Lib.hid (told ht (csp_any ((HIi.out p (List.mem_of_getElem? hp)).kept (HB.out.trans (hbb.mono HB.out.size)) (Nat.le_refl _) |>.mono (by have := hbb.size; have := HB.out.size; omega)) ((HJi.out q (List.mem_of_getElem? hq)).kept (HB.out.trans (hbb.mono HB.out.size)) (Nat.le_refl _) |>.mono (by have := hbb.size; have := HB.out.size; omega))))
        have HBB := Lib.hid hbb
        have HT := Lib.hid ht
        clear hp hq hIp hIq hbb ht
        cases t with
        | true =>
          go_wp2_with (go_at_call 45; refine HSP.out.mono ?_; rintro e w5 ⟨rfl, hb⟩; have HB5 := Lib.hid (HB.out.trans ((HBB.out.trans (hb.mono HBB.out.size)).mono HB.out.size)); clear hb)
          go_roundw
          case rel => exact ⟨k + 1, by go_num, by omega, Lib.hid (by rw [List.take_add_one, List.take_add_one, HE.out, HX.out, HY.out, HT.out.1 (by simp)]), HB5⟩
          case measure => simp [intOf]; omega
        | false =>
          go_wp2_with (go_at_call 45; refine HSP.out.mono ?_; rintro e w5 ⟨rfl, hb⟩; have HB5 := Lib.hid (HB.out.trans ((HBB.out.trans (hb.mono HBB.out.size)).mono HB.out.size)); clear hb)
          go_ret
          refine Tq.intro _ rfl ?_ (HB5.out)
          simp
          intro e
          have h1 := HX.out
          rw [e, HY.out] at h1
          exact absurd (HT.out.2 (Option.some.inj h1).symm) (by simp)
      · obtain rfl : k = len := by omega
        rw [List.take_of_length_le (by rw [List.length_map]; omega), List.take_of_length_le (by rw [List.length_map]; omega)] at HE
        go_wp2
        go_ret
        exact Tq.intro _ rfl (by simp [HE.out]) (HB.out)
  · have hlb : ((len : Int) != (len' : Int)) = true := by simp; omega
    go_enter Tryz.func44, Tryz.ntmps44
    go_wp2
    go_ret
    exact Tq.intro _ rfl (by simp; intro e; have := congrArg List.length e; simp at this; omega) (Below.refl _ _)

set_option maxRecDepth 100000 in
set_option maxHeartbeats 4000000 in
theorem csame_any {w : World} {x y : ModelV} (hx : ModelAt w.heap.size w x) (hy : ModelAt w.heap.size w y) : Calls Tryz.prog 16 #[.agg #[.int .i64 x.ver, .slice x.pa x.procs.length x.pc, .slice x.la x.links.length x.lc, .slice x.ea x.events.length x.ec], .agg #[.int .i64 y.ver, .slice y.pa y.procs.length y.pc, .slice y.la y.links.length y.lc, .slice y.ea y.events.length y.ec]] w (Tq (x.m = y.m) w) := by
  have hb0 : Below w.heap.size w ((w.alloc (.cells #[.int .i64 x.ver, .slice x.pa x.procs.length x.pc, .slice x.la x.links.length x.lc, .slice x.ea x.events.length x.ec] 26)).alloc (.cells #[.int .i64 y.ver, .slice y.pa y.procs.length y.pc, .slice y.la y.links.length y.lc, .slice y.ea y.events.length y.ec] 26)) := (below_one w _).alloc (by simp) _
  have HA : Hid (((w.alloc (.cells #[.int .i64 x.ver, .slice x.pa x.procs.length x.pc, .slice x.la x.links.length x.lc, .slice x.ea x.events.length x.ec] 26)).alloc (.cells #[.int .i64 y.ver, .slice y.pa y.procs.length y.pc, .slice y.la y.links.length y.lc, .slice y.ea y.events.length y.ec] 26)).heap[w.heap.size]? = some (.cells #[.int .i64 x.ver, .slice x.pa x.procs.length x.pc, .slice x.la x.links.length x.lc, .slice x.ea x.events.length x.ec] 26 (0, 0))) := Lib.hid (heap_alloc (heap_new _ rfl) _)
  have HQ : Hid (((w.alloc (.cells #[.int .i64 x.ver, .slice x.pa x.procs.length x.pc, .slice x.la x.links.length x.lc, .slice x.ea x.events.length x.ec] 26)).alloc (.cells #[.int .i64 y.ver, .slice y.pa y.procs.length y.pc, .slice y.la y.links.length y.lc, .slice y.ea y.events.length y.ec] 26)).heap[w.heap.size + 1]? = some (.cells #[.int .i64 y.ver, .slice y.pa y.procs.length y.pc, .slice y.la y.links.length y.lc, .slice y.ea y.events.length y.ec] 26 (0, 0))) := Lib.hid (heap_new _ (by simp))
  have HB0 := Lib.hid hb0
  have HP := Lib.hid (hx.on hb0)
  have HPq := Lib.hid (hy.on hb0)
  clear hb0 hx hy
  obtain ⟨tp, htp⟩ := tells (x.procs.map (·.p) = y.procs.map (·.p))
  obtain ⟨tl, htl⟩ := tells (x.links = y.links)
  obtain ⟨te, hte⟩ := tells (x.events = y.events)
  have HTp := Lib.hid htp
  have HTl := Lib.hid htl
  have HTe := Lib.hid hte
  clear htp htl hte
  go_enter Tryz.func16, Tryz.ntmps16
  go_upto_region 1 with fail
  generalize ((w.alloc (.cells #[.int .i64 x.ver, .slice x.pa x.procs.length x.pc, .slice x.la x.links.length x.lc, .slice x.ea x.events.length x.ec] 26)).alloc (.cells #[.int .i64 y.ver, .slice y.pa y.procs.length y.pc, .slice y.la y.links.length y.lc, .slice y.ea y.events.length y.ec] 26)) = w1 at *
  have a0 : w1.cell? ⟨w.heap.size, 0, none⟩ = some (.int .i64 x.ver) := heap_cell HA.out rfl
  have b0 : w1.cell? ⟨w.heap.size + 1, 0, none⟩ = some (.int .i64 y.ver) := heap_cell HQ.out rfl
  have a1 : w1.cell? ⟨w.heap.size, 1, none⟩ = some (.slice x.pa x.procs.length x.pc) := heap_cell HA.out rfl
  have b1 : w1.cell? ⟨w.heap.size + 1, 1, none⟩ = some (.slice y.pa y.procs.length y.pc) := heap_cell HQ.out rfl
  have a2 : w1.cell? ⟨w.heap.size, 2, none⟩ = some (.slice x.la x.links.length x.lc) := heap_cell HA.out rfl
  have b2 : w1.cell? ⟨w.heap.size + 1, 2, none⟩ = some (.slice y.la y.links.length y.lc) := heap_cell HQ.out rfl
  have a3 : w1.cell? ⟨w.heap.size, 3, none⟩ = some (.slice x.ea x.events.length x.ec) := heap_cell HA.out rfl
  have b3 : w1.cell? ⟨w.heap.size + 1, 3, none⟩ = some (.slice y.ea y.events.length y.ec) := heap_cell HQ.out rfl
  have HEP : Hid (∀ W, Below w1.heap.size w1 W → Calls Tryz.prog 44 #[.slice x.pa x.procs.length x.pc, .slice y.pa y.procs.length y.pc, .func (.func 45) #[] #[]] W fun e w' => e = .returned (.bool tp) ∧ Below W.heap.size W w') := Lib.hid (fun W hW => told HTp.out (cef_any (HP.out.on hW).procs (HPq.out.on hW).procs (HP.out.on hW).inner (HPq.out.on hW).inner))
  have HEL : Hid (∀ W, Below w1.heap.size w1 W → Calls Tryz.prog 46 #[.slice x.la x.links.length x.lc, .slice y.la y.links.length y.lc] W fun e w' => e = .returned (.bool tl) ∧ Below W.heap.size W w') := Lib.hid (fun W hW => told HTl.out (eqL_any (HP.out.on hW).links (HPq.out.on hW).links))
  have HEE : Hid (∀ W, Below w1.heap.size w1 W → Calls Tryz.prog 47 #[.slice x.ea x.events.length x.ec, .slice y.ea y.events.length y.ec] W fun e w' => e = .returned (.bool te) ∧ Below W.heap.size W w') := Lib.hid (fun W hW => told HTe.out (eqE_any (HP.out.on hW).events (HPq.out.on hW).events))
  by_cases hw : x.ver = y.ver
  · have hwc : (x.ver == y.ver) = true := by simpa using hw
    have HW := Lib.hid hw
    clear hw
    cases tp with
    | false =>
      go_wp2_with (go_at_call 44; refine (HEP.out _ (Below.refl _ _)).mono ?_; rintro e w5 ⟨rfl, hb5⟩; have HB5 := Lib.hid hb5; clear hb5)
      go_ret
      refine Tq.intro _ rfl ?_ (HB0.out.trans (HB5.out.mono HB0.out.size))
      simp
      intro e
      exact absurd (HTp.out.2 (congrArg ModelM.procs e)) (by simp)
    | true =>
      cases tl with
      | false =>
        go_wp2_with (first
          | (go_at_call 44; refine (HEP.out _ (Below.refl _ _)).mono ?_; rintro e w5 ⟨rfl, hb⟩; have hbw5 := hb; clear hb; have a2 : w5.cell? ⟨w.heap.size, 2, none⟩ = some (.slice x.la x.links.length x.lc) := heap_cell (heap_on HA.out hbw5) rfl; have b2 : w5.cell? ⟨w.heap.size + 1, 2, none⟩ = some (.slice y.la y.links.length y.lc) := heap_cell (heap_on HQ.out hbw5) rfl; have a3 : w5.cell? ⟨w.heap.size, 3, none⟩ = some (.slice x.ea x.events.length x.ec) := heap_cell (heap_on HA.out hbw5) rfl; have b3 : w5.cell? ⟨w.heap.size + 1, 3, none⟩ = some (.slice y.ea y.events.length y.ec) := heap_cell (heap_on HQ.out hbw5) rfl)
          | (go_at_call 46; refine (HEL.out _ hbw5).mono ?_; rintro e w6 ⟨rfl, hb⟩; have HB6 := Lib.hid (hbw5.trans (hb.mono hbw5.size)); clear hb))
        go_ret
        refine Tq.intro _ rfl ?_ (HB0.out.trans (HB6.out.mono HB0.out.size))
        simp
        intro e
        exact absurd (HTl.out.2 (congrArg ModelM.links e)) (by simp)
      | true =>
        go_wp2_with (first
          | (go_at_call 44; refine (HEP.out _ (Below.refl _ _)).mono ?_; rintro e w5 ⟨rfl, hb⟩; have hbw5 := hb; clear hb; have a2 : w5.cell? ⟨w.heap.size, 2, none⟩ = some (.slice x.la x.links.length x.lc) := heap_cell (heap_on HA.out hbw5) rfl; have b2 : w5.cell? ⟨w.heap.size + 1, 2, none⟩ = some (.slice y.la y.links.length y.lc) := heap_cell (heap_on HQ.out hbw5) rfl; have a3 : w5.cell? ⟨w.heap.size, 3, none⟩ = some (.slice x.ea x.events.length x.ec) := heap_cell (heap_on HA.out hbw5) rfl; have b3 : w5.cell? ⟨w.heap.size + 1, 3, none⟩ = some (.slice y.ea y.events.length y.ec) := heap_cell (heap_on HQ.out hbw5) rfl)
          | (go_at_call 46; refine (HEL.out _ hbw5).mono ?_; rintro e w6 ⟨rfl, hb⟩; have hbw6 : Below w1.heap.size w1 w6 := hbw5.trans (hb.mono hbw5.size); clear hb; have a3 : w6.cell? ⟨w.heap.size, 3, none⟩ = some (.slice x.ea x.events.length x.ec) := heap_cell (heap_on HA.out hbw6) rfl; have b3 : w6.cell? ⟨w.heap.size + 1, 3, none⟩ = some (.slice y.ea y.events.length y.ec) := heap_cell (heap_on HQ.out hbw6) rfl)
          | (go_at_call 47; refine (HEE.out _ hbw6).mono ?_; rintro e w7 ⟨rfl, hb⟩; have HB7 := Lib.hid (hbw6.trans (hb.mono hbw6.size)); clear hb))
        go_ret
        refine Tq.intro _ rfl ?_ (HB0.out.trans (HB7.out.mono HB0.out.size))
        rw [HTe.out]
        exact ⟨fun e => by unfold ModelV.m; rw [HW.out, HTp.out.1 (by simp), HTl.out.1 (by simp), e], fun e => congrArg ModelM.events e⟩
  · have hwc : (x.ver == y.ver) = false := by simpa using hw
    have HW := Lib.hid hw
    clear hw
    go_wp2
    go_ret
    exact Tq.intro _ rfl (by simp; intro e; exact HW.out (congrArg ModelM.ver e)) (HB0.out)
theorem cis_any {w : World} {x : ModelV} (h : ModelAt w.heap.size w x) (hs : Sized x.m) : Calls Tryz.prog 15 #[.agg #[.int .i64 x.ver, .slice x.pa x.procs.length x.pc, .slice x.la x.links.length x.lc, .slice x.ea x.events.length x.ec]] w (Tq (x.m = canM x.m) w) := by
  have hb0 : Below w.heap.size w (w.alloc (.cells #[.int .i64 x.ver, .slice x.pa x.procs.length x.pc, .slice x.la x.links.length x.lc, .slice x.ea x.events.length x.ec] 26)) := below_one w _
  have HA : Hid ((w.alloc (.cells #[.int .i64 x.ver, .slice x.pa x.procs.length x.pc, .slice x.la x.links.length x.lc, .slice x.ea x.events.length x.ec] 26)).heap[w.heap.size]? = some (.cells #[.int .i64 x.ver, .slice x.pa x.procs.length x.pc, .slice x.la x.links.length x.lc, .slice x.ea x.events.length x.ec] 26 (0, 0))) := Lib.hid (heap_new _ rfl)
  have HB0 := Lib.hid hb0
  have HM := Lib.hid (h.on hb0)
  have HS := Lib.hid hs
  clear hb0 h hs
  go_enter Tryz.func15, Tryz.ntmps15
  go_upto_region 1 with fail
  generalize w.alloc (.cells #[.int .i64 x.ver, .slice x.pa x.procs.length x.pc, .slice x.la x.links.length x.lc, .slice x.ea x.events.length x.ec] 26) = w1 at *
  have d0 : ∀ W, Below w1.heap.size w1 W → W.cell? ⟨w.heap.size, 0, none⟩ = some (.int .i64 x.ver) := fun W hW => heap_cell (heap_below HA.out hW (heap_lt HA.out)) rfl
  have d1 : ∀ W, Below w1.heap.size w1 W → W.cell? ⟨w.heap.size, 1, none⟩ = some (.slice x.pa x.procs.length x.pc) := fun W hW => heap_cell (heap_below HA.out hW (heap_lt HA.out)) rfl
  have d2 : ∀ W, Below w1.heap.size w1 W → W.cell? ⟨w.heap.size, 2, none⟩ = some (.slice x.la x.links.length x.lc) := fun W hW => heap_cell (heap_below HA.out hW (heap_lt HA.out)) rfl
  have d3 : ∀ W, Below w1.heap.size w1 W → W.cell? ⟨w.heap.size, 3, none⟩ = some (.slice x.ea x.events.length x.ec) := fun W hW => heap_cell (heap_below HA.out hW (heap_lt HA.out)) rfl
  have HCn : Hid (∀ W, Below w1.heap.size w1 W → Calls Tryz.prog 12 #[.agg #[.int .i64 x.ver, .slice x.pa x.procs.length x.pc, .slice x.la x.links.length x.lc, .slice x.ea x.events.length x.ec]] W (fun e w' => ∃ y : ModelV, e = .returned (.agg #[.int .i64 y.ver, .slice y.pa y.procs.length y.pc, .slice y.la y.links.length y.lc, .slice y.ea y.events.length y.ec]) ∧ Hid (y.m = canM x.m) ∧ Hid (OwnM W.heap.size w' y) ∧ Hid (Below W.heap.size W w'))) := Lib.hid (fun W hW => (canon_any (HM.out.on hW) HS.out).mono (fun e w' ⟨y, h1, h2, h3, h4⟩ => ⟨y, h1, Lib.hid h2, Lib.hid h3, Lib.hid h4⟩))
  go_region_held3 (fun W => Below w1.heap.size w1 W) (first | assumption | exact Below.refl _ _ | exact (Below.refl _ _).drew | exact Below.drew (by assumption)) (first
    | (go_at_call 12; with_reducible refine (HCn.out _ (by first | assumption | exact Below.refl _ _ | exact (Below.refl _ _).drew | exact Below.drew (by assumption))).mono ?_; rintro e w5 ⟨y, rfl, hym, hy, hb⟩; have hS5 : Below w1.heap.size w1 w5 := Below.trans (show Below w1.heap.size w1 _ by first | assumption | exact Below.refl _ _ | exact (Below.refl _ _).drew | exact Below.drew (by assumption)) (hb.out.mono (Below.size (show Below w1.heap.size w1 _ by first | assumption | exact Below.refl _ _ | exact (Below.refl _ _).drew | exact Below.drew (by assumption)))); have HSm := Lib.hid (Tq.split (csame_any (HM.out.on hS5) hy.out.at_)); rw [hym.out] at HSm; clear hym hy hb)
    | (go_at_call 16; with_reducible with_reducible refine HSm.out.mono ?_; rintro e w6 ⟨t, rfl, HT, hb⟩; have hS6 : Below w1.heap.size w1 w6 := hS5.trans (hb.out.mono hS5.size); clear hb))
  all_goals
    go_wp2
    go_ret
    exact Tq.intro _ rfl HT.out (HB0.out.trans (hS6.mono HB0.out.size))

end Go.Proofs.YtjcmeacgfflfmaaGreat.Hk
