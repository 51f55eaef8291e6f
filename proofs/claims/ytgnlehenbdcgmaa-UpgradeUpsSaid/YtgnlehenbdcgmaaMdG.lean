/- What is wrong with processes, links, events: plain, and as contracts. -/
import Derived.Test.YtgnlehenbdcgmaaMdF
import Derived.Test.YtgnlehenbdcgmaaSrw
import Derived.Deep.Cut
import Derived.Deep.DeepCutAuto
set_option linter.unusedVariables false
set_option linter.unusedSectionVars false
set_option linter.unusedSimpArgs false
namespace Go.Proofs.Ytgnlehenbdcgmaa.Md
open Go.RowKit Go.Shelf

theorem row_thru {W0 W W' : World} {cs : Array Value} {t : TypeId} (hX : W.heap = (W0.alloc (.cells cs t)).heap) (hb : Below W.heap.size W W') : W'.heap[W0.heap.size]? = some (.cells cs t (0, 0)) :=
  heap_below (by rw [hX]; exact heap_new _ rfl) hb (by rw [hX]; simp)
theorem field0 (a b : Int) (W : World) : (Instr.field 31 (.agg #[.int .i64 a, .int .i64 b]) 0).run Try.prog W = .ok (.int .i64 a) W := by kernel_rfl
def vNames (p : ProcM) : List ByteArray := p.vars.map (fun x => x.name)
def inE (links : List LinkM) (p : ProcM) : Int :=
  if (fErr (varE (fstP (vNames p))) 0 p.vars).1 = 0 then (fErr (fun _ s => stE links p.name (fstP (vNames p)) s) 0 p.steps).1 else (fErr (varE (fstP (vNames p))) 0 p.vars).1
/-- What is wrong with a process. -/
def prE (ver : Int) (links : List LinkM) (pf : ByteArray → Option Nat) (k : Nat) (p : ProcM) : Int :=
  if nmE pf p.name k ≠ 0 then nmE pf p.name k else if wgtB ver p.weight then if decide (64 < p.vars.length) || decide (256 < p.steps.length) then 3 else inE links p else 41
/-- What a model's checks hold of its memory. -/
structure Wh (w : World) (x : ModelV) (mp ml : Nat) : Prop where
  at_ : ModelAt w.heap.size w x
  mp_ : PlM w mp (fstP (x.procs.map (fun y => y.p.name)))
  ml_ : PlM w ml (fstP (x.links.map (fun y => y.name)))
theorem Wh.on {w w' : World} {x : ModelV} {mp ml : Nat} (h : Wh w x mp ml) (hb : Below w.heap.size w w') : Wh w' x mp ml := ⟨h.at_.on hb, h.mp_.below hb, h.ml_.below hb⟩
set_option maxRecDepth 100000 in
set_option maxHeartbeats 4000000 in
theorem proc_any {w : World} {x : ModelV} {mp ml : Nat} (h : Wh w x mp ml) (k : Nat) {p : ProcV} (hp : ProcIn w.heap.size w p) (hfit : fitP p) :
    Calls Try.prog 39 #[wholeVal x mp ml, .int .i64 (k : Int), .agg #[.string p.p.name, .int .i64 p.p.weight, p.vv, p.sv]] w fun e w' => e = .returned (.int .i64 (prE x.ver x.links (fstP (x.procs.map (fun y => y.p.name))) k p.p)) ∧ Below w.heap.size w w' := by
  have HA : Hid (prE x.ver x.links (fstP (x.procs.map (fun y => y.p.name))) k p.p = if nmE (fstP (x.procs.map (fun y => y.p.name))) p.p.name k ≠ 0 then nmE (fstP (x.procs.map (fun y => y.p.name))) p.p.name k else if wgtB x.ver p.p.weight then if decide (64 < p.p.vars.length) || decide (256 < p.p.steps.length) then 3 else inE x.links p.p else 41) := Lib.hid rfl
  have hb1 := (below_one w (.cells #[.int .i64 x.ver, .slice x.pa x.procs.length x.pc, .slice x.la x.links.length x.lc, .slice x.ea x.events.length x.ec, .map (some mp), .map (some ml)] 68))
  have hb2 := hb1.alloc hb1.size (.cells #[.string p.p.name, .int .i64 p.p.weight, .slice p.va p.p.vars.length p.vc, .slice p.sa p.p.steps.length p.sc] 36)
  have HO1 : Hid (((w.alloc (.cells #[.int .i64 x.ver, .slice x.pa x.procs.length x.pc, .slice x.la x.links.length x.lc, .slice x.ea x.events.length x.ec, .map (some mp), .map (some ml)] 68)).alloc (.cells #[.string p.p.name, .int .i64 p.p.weight, .slice p.va p.p.vars.length p.vc, .slice p.sa p.p.steps.length p.sc] 36)).heap[w.heap.size]? = some (.cells #[.int .i64 x.ver, .slice x.pa x.procs.length x.pc, .slice x.la x.links.length x.lc, .slice x.ea x.events.length x.ec, .map (some mp), .map (some ml)] 68 (0, 0))) := Lib.hid (heap_alloc (heap_new _ rfl) _)
  have HO2 : Hid (((w.alloc (.cells #[.int .i64 x.ver, .slice x.pa x.procs.length x.pc, .slice x.la x.links.length x.lc, .slice x.ea x.events.length x.ec, .map (some mp), .map (some ml)] 68)).alloc (.cells #[.string p.p.name, .int .i64 p.p.weight, .slice p.va p.p.vars.length p.vc, .slice p.sa p.p.steps.length p.sc] 36)).heap[w.heap.size + 1]? = some (.cells #[.string p.p.name, .int .i64 p.p.weight, .slice p.va p.p.vars.length p.vc, .slice p.sa p.p.steps.length p.sc] 36 (0, 0))) := Lib.hid (heap_new _ (by simp))
  have HB := Lib.hid hb2
  have HW := Lib.hid (h.on hb2)
  have HP := Lib.hid (hp.on hb2)
  have HC := Lib.hid (checkName_any (h.mp_.below hb2) hfit k)
  have HG : Hid (∀ W, Calls Try.prog 60 #[wholeVal x mp ml, .int .i64 p.p.weight] W fun e w' => e = .returned (.bool (wgtB x.ver p.p.weight)) ∧ Below W.heap.size W w') := Lib.hid (fun W => weighs_any x mp ml p.p.weight W)
  have HVn : Hid (vNames p.p = p.p.vars.map (fun x => x.name)) := Lib.hid rfl
  have HIn : Hid (inE x.links p.p = if (fErr (varE (fstP (vNames p.p))) 0 p.p.vars).1 = 0 then (fErr (fun _ s => stE x.links p.p.name (fstP (vNames p.p)) s) 0 p.p.steps).1 else (fErr (varE (fstP (vNames p.p))) 0 p.p.vars).1) := Lib.hid rfl
  clear h hp hb1 hb2
  unfold wholeVal ProcV.vv ProcV.sv ModelV.pv ModelV.lv ModelV.ev at *
  generalize prE x.ver x.links (fstP (x.procs.map (fun y => y.p.name))) k p.p = r at *
  generalize nmE (fstP (x.procs.map (fun y => y.p.name))) p.p.name k = c at *
  generalize wgtB x.ver p.p.weight = gb at *
  generalize inE x.links p.p = ie at *
  go_enter Try.func39, Try.ntmps39
  by_cases hc : c = 0
  · have hcb : (c != 0) = false := by simpa using hc
    cases gb with
    | false =>
      have HR : Hid (r = 41) := Lib.hid (by rw [HA.out, if_neg (by simpa using hc)]; rfl)
      clear hc HA
      go_wp2_with fail
      refine HC.out.mono ?_
      rintro e w3 ⟨rfl, rfl⟩
      go_wp2_with fail
      refine (HG.out _).mono ?_
      rintro e w4 ⟨rfl, hb⟩
      have HB4 := Lib.hid (HB.out.trans (hb.mono HB.out.size))
      clear hb
      go_wp2
      go_ret
      exact ⟨by rw [HR.out]; rfl, HB4.out⟩
    | true =>
      by_cases hv : 64 < p.p.vars.length
      · have hvb : decide (64 < (p.p.vars.length : Int)) = true := by simp; omega
        have HR : Hid (r = 3) := Lib.hid (by rw [HA.out, if_neg (by simpa using hc), if_pos rfl, decide_eq_true hv]; rfl)
        clear hc HA
        go_wp2_with fail
        refine HC.out.mono ?_
        rintro e w3 ⟨rfl, rfl⟩
        go_wp2_with fail
        refine (HG.out _).mono ?_
        rintro e w4 ⟨rfl, hb⟩
        have HB4 := Lib.hid (HB.out.trans (hb.mono HB.out.size))
        have c4 := heap_cell (heap_below HO2.out hb (heap_lt HO2.out)) (i := 2) rfl
        simp only [List.getElem_toArray, List.getElem_cons_zero, List.getElem_cons_succ] at c4
        clear hb
        go_wp2
        go_ret
        exact ⟨by rw [HR.out]; rfl, HB4.out⟩
      · have hvb : decide (64 < (p.p.vars.length : Int)) = false := by simp; omega
        by_cases hs : 256 < p.p.steps.length
        · have hsb : decide (256 < (p.p.steps.length : Int)) = true := by simp; omega
          have HR : Hid (r = 3) := Lib.hid (by rw [HA.out, if_neg (by simpa using hc), if_pos rfl, decide_eq_true hs, Bool.or_true]; rfl)
          clear hc HA
          go_wp2_with fail
          refine HC.out.mono ?_
          rintro e w3 ⟨rfl, rfl⟩
          go_wp2_with fail
          refine (HG.out _).mono ?_
          rintro e w4 ⟨rfl, hb⟩
          have HB4 := Lib.hid (HB.out.trans (hb.mono HB.out.size))
          have c4 := heap_cell (heap_below HO2.out hb (heap_lt HO2.out)) (i := 2) rfl
          have c5 := heap_cell (heap_below HO2.out hb (heap_lt HO2.out)) (i := 3) rfl
          simp only [List.getElem_toArray, List.getElem_cons_zero, List.getElem_cons_succ] at c4 c5
          clear hb
          go_wp2
          go_ret
          exact ⟨by rw [HR.out]; rfl, HB4.out⟩
        · have hsb : decide (256 < (p.p.steps.length : Int)) = false := by simp; omega
          have HR : Hid (r = ie) := Lib.hid (by rw [HA.out, if_neg (by simpa using hc), if_pos rfl, decide_eq_false hv, decide_eq_false hs]; rfl)
          clear hc HA
          go_wp2_with fail
          refine HC.out.mono ?_
          rintro e w3 ⟨rfl, rfl⟩
          go_wp2_with fail
          refine (HG.out _).mono ?_
          rintro e w4 ⟨rfl, hb⟩
          have HB4 := Lib.hid (HB.out.trans (hb.mono HB.out.size))
          have HW4 := Lib.hid (HW.out.on hb)
          have HP4 := Lib.hid (HP.out.on hb)
          have HO14 := Lib.hid (heap_below HO1.out hb (heap_lt HO1.out))
          have HO24 := Lib.hid (heap_below HO2.out hb (heap_lt HO2.out))
          have c4 := heap_cell HO24.out (i := 2) rfl
          have c5 := heap_cell HO24.out (i := 3) rfl
          simp only [List.getElem_toArray, List.getElem_cons_zero, List.getElem_cons_succ] at c4 c5
          clear hb HO1 HO2 HB HW HP HC HG
          have HPl : Hid (∀ W, Below w4.heap.size w4 W → Calls Try.prog 61 #[.slice p.va p.p.vars.length p.vc, .func (.func 48) #[] #[]] W (PlacesPost (vNames p.p) W)) := Lib.hid (fun W hW => places_V (HP4.out.on hW).vars)
          obtain ⟨A, hA⟩ : ∃ A, w.heap.size = A := ⟨_, rfl⟩
          have HAe := Lib.hid hA
          rw [hA] at HO14 HO24 c4 c5
          go_upto_region 8 with fail
          clear hA c4 c5
          have hc1 : ∀ (i : Nat) (u : Value), (#[.int .i64 x.ver, .slice x.pa x.procs.length x.pc, .slice x.la x.links.length x.lc, .slice x.ea x.events.length x.ec, .map (some mp), .map (some ml)] : Array Value)[i]? = some u → ∀ W, Below w4.heap.size w4 W → W.cell? ⟨A, i, none⟩ = some u := fun i u hu W hW => heap_cell (heap_below HO14.out hW (heap_lt HO14.out)) hu
          have hc2 : ∀ (i : Nat) (u : Value), (#[.string p.p.name, .int .i64 p.p.weight, .slice p.va p.p.vars.length p.vc, .slice p.sa p.p.steps.length p.sc] : Array Value)[i]? = some u → ∀ W, Below w4.heap.size w4 W → W.cell? ⟨A + 1, i, none⟩ = some u := fun i u hu W hW => heap_cell (heap_below HO24.out hW (heap_lt HO24.out)) hu
          have HC1 := Lib.hid hc1
          have HC2 := Lib.hid hc2
          clear hc1 hc2
          go_cut [8] from 33 to 39 (fun s8 wx => ∃ (N mv : Nat), s8 = .pointer (some ⟨N, 0, none⟩) ∧ Hid (Below w4.heap.size w4 wx ∧ wx.heap[N]? = some (.cells #[.int .i64 x.ver, .slice x.pa x.procs.length x.pc, .slice x.la x.links.length x.lc, .slice x.ea x.events.length x.ec, .map (some mp), .map (some ml), .string p.p.name, .map (some mv)] 105 (0, 0)) ∧ PlM wx mv (fstP (vNames p.p))))
          case first =>
            have hd : Below w4.heap.size w4 w4.drew := (Below.refl _ _).drew
            refine (wpIn_wide (n := 3)).1 ?_
            refine region_T_calm (fun X => Below w4.heap.size w4 X) (fun _ => true) rfl (by kernel_rfl) ?_
            change AnyT _ _ _ _ _ _ _ _ 9 _ _ (World.drew _)
            refine AnyT.take (i := 0) (v := .agg #[.int .i64 x.ver, .slice x.pa x.procs.length x.pc, .slice x.la x.links.length x.lc, .slice x.ea x.events.length x.ec, .map (some mp), .map (some ml)]) rfl rfl (by kernel_rfl) (by kernel_rfl) (by kernel_rfl) (by kernel_rfl) (by kernel_rfl) (fun _ _ _ h => h) (by kernel_rfl) (fun X hX => by have c0 := HC1.out 0 _ rfl X hX; have c1 := HC1.out 1 _ rfl X hX; have c2 := HC1.out 2 _ rfl X hX; have c3 := HC1.out 3 _ rfl X hX; have c4 := HC1.out 4 _ rfl X hX; have c5 := HC1.out 5 _ rfl X hX; simp only [List.getElem_toArray, List.getElem_cons_zero, List.getElem_cons_succ] at c0 c1 c2 c3 c4 c5; go_simp) (fun _ => rfl) hd ?_
            try simp only [List.getElem_toArray, List.getElem_cons_zero, List.getElem_cons_succ, Act.put, List.setIfInBounds_toArray, List.set_cons_zero, List.set_cons_succ]
            refine AnyT.take (i := 1) (v := .pointer (some ⟨A + 1, 0, none⟩)) rfl rfl (by kernel_rfl) (by kernel_rfl) (by kernel_rfl) (by kernel_rfl) (by kernel_rfl) (fun _ _ _ h => h) (by kernel_rfl) (fun X hX => by go_simp) (fun _ => rfl) hd ?_
            try simp only [List.getElem_toArray, List.getElem_cons_zero, List.getElem_cons_succ, Act.put, List.setIfInBounds_toArray, List.set_cons_zero, List.set_cons_succ]
            refine AnyT.take (i := 2) (v := .string p.p.name) rfl rfl (by kernel_rfl) (by kernel_rfl) (by kernel_rfl) (by kernel_rfl) (by kernel_rfl) (fun _ _ _ h => h) (by kernel_rfl) (fun X hX => by have c0 := HC2.out 0 _ rfl X hX; simp only [List.getElem_toArray, List.getElem_cons_zero, List.getElem_cons_succ] at c0; go_simp) (fun _ => rfl) hd ?_
            try simp only [List.getElem_toArray, List.getElem_cons_zero, List.getElem_cons_succ, Act.put, List.setIfInBounds_toArray, List.set_cons_zero, List.set_cons_succ]
            refine AnyT.take (i := 3) (v := .pointer (some ⟨A + 1, 2, none⟩)) rfl rfl (by kernel_rfl) (by kernel_rfl) (by kernel_rfl) (by kernel_rfl) (by kernel_rfl) (fun _ _ _ h => h) (by kernel_rfl) (fun X hX => by go_simp) (fun _ => rfl) hd ?_
            try simp only [List.getElem_toArray, List.getElem_cons_zero, List.getElem_cons_succ, Act.put, List.setIfInBounds_toArray, List.set_cons_zero, List.set_cons_succ]
            refine AnyT.take (i := 4) (v := .slice p.va p.p.vars.length p.vc) rfl rfl (by kernel_rfl) (by kernel_rfl) (by kernel_rfl) (by kernel_rfl) (by kernel_rfl) (fun _ _ _ h => h) (by kernel_rfl) (fun X hX => by have c0 := HC2.out 2 _ rfl X hX; simp only [List.getElem_toArray, List.getElem_cons_zero, List.getElem_cons_succ] at c0; go_simp) (fun _ => rfl) hd ?_
            try simp only [List.getElem_toArray, List.getElem_cons_zero, List.getElem_cons_succ, Act.put, List.setIfInBounds_toArray, List.set_cons_zero, List.set_cons_succ]
            refine AnyT.ready (rs := [5, 7]) (by kernel_rfl) (by simp) ?_
            refine ReadyT.cons rfl (fun K hK => ?_) ?_
            · go_simp
              refine ⟨trivial, (callsIn_wide.2 (HPl.out _ hd)).mono ?_⟩
              rintro e w5 ⟨mv, rfl, HM5, hge, HB5⟩
              have hS5 : Below w4.heap.size w4 w5 := hd.trans (HB5.out.mono (Nat.le_refl _))
              have hz5 := hS5.size
              have hS6 : Below w4.heap.size w4 (w5.alloc (.cells #[.int .i64 0, .slice none 0 0, .slice none 0 0, .slice none 0 0, .map none, .map none, .string ⟨#[]⟩, .map none] 105)) := hS5.alloc hz5 _
              refine hK _ _ (fun _ => hS5) ?_
              clear hK K
              try simp only [List.getElem_toArray, List.getElem_cons_zero, List.getElem_cons_succ, Act.put, List.setIfInBounds_toArray, List.set_cons_zero, List.set_cons_succ]
              refine AnyT.take (i := 6) (v := .agg #[.int .i64 x.ver, .slice x.pa x.procs.length x.pc, .slice x.la x.links.length x.lc, .slice x.ea x.events.length x.ec, .map (some mp), .map (some ml), .string p.p.name, .map (some mv)]) rfl rfl (by kernel_rfl) (by kernel_rfl) (by kernel_rfl) (by kernel_rfl) (by kernel_rfl) (fun _ _ _ h => h) (by kernel_rfl) (fun X hX => by go_simp) (fun _ => rfl) hS5 ?_
              try simp only [List.getElem_toArray, List.getElem_cons_zero, List.getElem_cons_succ, Act.put, List.setIfInBounds_toArray, List.set_cons_zero, List.set_cons_succ]
              refine AnyT.ready (rs := [7]) (by kernel_rfl) (by simp) (ReadyT.cons rfl (fun K hK => ?_) ReadyT.nil)
              go_simp
              refine hK _ _ (fun _ => hS6) ?_
              clear hK K
              try simp only [List.getElem_toArray, List.getElem_cons_zero, List.getElem_cons_succ, Act.put, List.setIfInBounds_toArray, List.set_cons_zero, List.set_cons_succ]
              refine AnyT.ready (rs := [8]) (by kernel_rfl) (by simp) (ReadyT.cons rfl (fun K hK => ?_) ReadyT.nil)
              refine stepIn_store_row rfl 105 _ _ rfl w5.heap.size #[.int .i64 x.ver, .slice x.pa x.procs.length x.pc, .slice x.la x.links.length x.lc, .slice x.ea x.events.length x.ec, .map (some mp), .map (some ml), .string p.p.name, .map (some mv)] rfl rfl 105 _ (heap_new (w := w5) _ rfl) (by kernel_rfl) rfl (by kernel_rfl) ?_
              have hg := grown_setRow (w5.alloc (.cells #[.int .i64 0, .slice none 0 0, .slice none 0 0, .slice none 0 0, .map none, .map none, .string ⟨#[]⟩, .map none] 105)) w5.heap.size #[.int .i64 x.ver, .slice x.pa x.procs.length x.pc, .slice x.la x.links.length x.lc, .slice x.ea x.events.length x.ec, .map (some mp), .map (some ml), .string p.p.name, .map (some mv)]
              have hS7 := hS6.grown hg hS6.size (fun r e => by cases e; exact hz5)
              refine hK _ _ (fun _ => hS7) ?_
              clear hK K
              try simp only [List.getElem_toArray, List.getElem_cons_zero, List.getElem_cons_succ, Act.put, List.setIfInBounds_toArray, List.set_cons_zero, List.set_cons_succ]
              refine AnyT.done (by kernel_rfl) (noPan_normal ?_) _
              go_wp2
              go_meet
              exact ⟨_, mv, rfl, Lib.hid ⟨hS7, setRow_heap _ _ _ _ _ _ (heap_new (w := w5) _ rfl), _, MapS.kept (MapS.below HM5.out ((Below.refl _ w5).alloc (Nat.le_refl _) _) HM5.out.lt) hg (fun e => by cases e; exact absurd HM5.out.lt (Nat.lt_irrefl _))⟩⟩
            · refine ReadyT.cons rfl (fun K hK => ?_) ReadyT.nil
              go_simp
              have hS3 : Below w4.heap.size w4 (w4.alloc (.cells #[.int .i64 0, .slice none 0 0, .slice none 0 0, .slice none 0 0, .map none, .map none, .string ⟨#[]⟩, .map none] 105)).drew := ((Below.refl _ _).alloc (Nat.le_refl _) _).drew
              refine hK _ _ (fun _ => hS3) ?_
              clear hK K
              try simp only [List.getElem_toArray, List.getElem_cons_zero, List.getElem_cons_succ, Act.put, List.setIfInBounds_toArray, List.set_cons_zero, List.set_cons_succ]
              refine AnyT.ready (rs := [5]) (by kernel_rfl) (by simp) (ReadyT.cons rfl (fun K hK => ?_) ReadyT.nil)
              go_simp
              refine ⟨trivial, (callsIn_wide.2 (HPl.out _ hS3)).mono ?_⟩
              rintro e w5 ⟨mv, rfl, HM5, hge, HB5⟩
              have hS5 : Below w4.heap.size w4 w5 := hS3.trans (HB5.out.mono hS3.size)
              have hz5 := hS5.size
              have hb5 := HB5.out
              have hlt4 : w4.heap.size < (w4.alloc (.cells #[.int .i64 0, .slice none 0 0, .slice none 0 0, .slice none 0 0, .map none, .map none, .string ⟨#[]⟩, .map none] 105)).drew.heap.size := heap_lt (show (w4.alloc (.cells #[.int .i64 0, .slice none 0 0, .slice none 0 0, .slice none 0 0, .map none, .map none, .string ⟨#[]⟩, .map none] 105)).drew.heap[w4.heap.size]? = some (.cells #[.int .i64 0, .slice none 0 0, .slice none 0 0, .slice none 0 0, .map none, .map none, .string ⟨#[]⟩, .map none] 105 (0, 0)) from heap_new (w := w4) _ rfl)
              have HNA : w5.heap[w4.heap.size]? = some (.cells #[.int .i64 0, .slice none 0 0, .slice none 0 0, .slice none 0 0, .map none, .map none, .string ⟨#[]⟩, .map none] 105 (0, 0)) := heap_below (show (w4.alloc (.cells #[.int .i64 0, .slice none 0 0, .slice none 0 0, .slice none 0 0, .map none, .map none, .string ⟨#[]⟩, .map none] 105)).drew.heap[w4.heap.size]? = some (.cells #[.int .i64 0, .slice none 0 0, .slice none 0 0, .slice none 0 0, .map none, .map none, .string ⟨#[]⟩, .map none] 105 (0, 0)) from heap_new (w := w4) _ rfl) hb5 hlt4
              refine hK _ _ (fun _ => hS5) ?_
              clear hK K
              try simp only [List.getElem_toArray, List.getElem_cons_zero, List.getElem_cons_succ, Act.put, List.setIfInBounds_toArray, List.set_cons_zero, List.set_cons_succ]
              refine AnyT.take (i := 6) (v := .agg #[.int .i64 x.ver, .slice x.pa x.procs.length x.pc, .slice x.la x.links.length x.lc, .slice x.ea x.events.length x.ec, .map (some mp), .map (some ml), .string p.p.name, .map (some mv)]) rfl rfl (by kernel_rfl) (by kernel_rfl) (by kernel_rfl) (by kernel_rfl) (by kernel_rfl) (fun _ _ _ h => h) (by kernel_rfl) (fun X hX => by go_simp) (fun _ => rfl) hS5 ?_
              try simp only [List.getElem_toArray, List.getElem_cons_zero, List.getElem_cons_succ, Act.put, List.setIfInBounds_toArray, List.set_cons_zero, List.set_cons_succ]
              refine AnyT.ready (rs := [8]) (by kernel_rfl) (by simp) (ReadyT.cons rfl (fun K hK => ?_) ReadyT.nil)
              refine stepIn_store_row rfl 105 _ _ rfl w4.heap.size #[.int .i64 x.ver, .slice x.pa x.procs.length x.pc, .slice x.la x.links.length x.lc, .slice x.ea x.events.length x.ec, .map (some mp), .map (some ml), .string p.p.name, .map (some mv)] rfl rfl 105 _ HNA (by kernel_rfl) rfl (by kernel_rfl) ?_
              have hg := grown_setRow w5 w4.heap.size #[.int .i64 x.ver, .slice x.pa x.procs.length x.pc, .slice x.la x.links.length x.lc, .slice x.ea x.events.length x.ec, .map (some mp), .map (some ml), .string p.p.name, .map (some mv)]
              have hS7 := hS5.grown hg hS5.size (fun r e => by cases e; exact Nat.le_refl _)
              refine hK _ _ (fun _ => hS7) ?_
              clear hK K
              try simp only [List.getElem_toArray, List.getElem_cons_zero, List.getElem_cons_succ, Act.put, List.setIfInBounds_toArray, List.set_cons_zero, List.set_cons_succ]
              refine AnyT.done (by kernel_rfl) (noPan_normal ?_) _
              go_wp2
              go_meet
              exact ⟨_, mv, rfl, Lib.hid ⟨hS7, setRow_heap _ _ _ _ _ _ HNA, _, MapS.kept HM5.out hg (fun e => by cases e; omega)⟩⟩
          case rest =>
            obtain ⟨N, mv, rfl, H⟩ := hcut
            have HWc := Lib.hid (HW4.out.on H.out.1)
            have HPc := Lib.hid (HP4.out.on H.out.1)
            have HCv : Hid (∀ W, Below wc.heap.size wc W → Calls Try.prog 63 #[.slice p.va p.p.vars.length p.vc, .int .i64 0, .func (.func 64) #[.agg #[.int .i64 x.ver, .slice x.pa x.procs.length x.pc, .slice x.la x.links.length x.lc, .slice x.ea x.events.length x.ec, .map (some mp), .map (some ml), .string p.p.name, .map (some mv)]] #[]] W fun e w' => e = .returned (fltV 0 (fErr (varE (fstP (vNames p.p))) 0 p.p.vars)) ∧ Below W.heap.size W w') := Lib.hid (fun W hW => check_V (HPc.out.on hW).vars 0 (by omega) (by omega) (fun k v W' hv hW' => variable_any x mp ml p.p.name ((H.out.2.2.below hW).below hW') k (HPc.out.vars.fits v (List.mem_of_getElem? hv))) (fun _ _ => rfl))
            have HCs : Hid (∀ W, Below wc.heap.size wc W → Calls Try.prog 65 #[.slice p.sa p.p.steps.length p.sc, .int .i64 0, .func (.func 66) #[.agg #[.int .i64 x.ver, .slice x.pa x.procs.length x.pc, .slice x.la x.links.length x.lc, .slice x.ea x.events.length x.ec, .map (some mp), .map (some ml), .string p.p.name, .map (some mv)]] #[]] W fun e w' => e = .returned (fltV 0 (fErr (fun _ s => stE x.links p.p.name (fstP (vNames p.p)) s) 0 p.p.steps)) ∧ Below W.heap.size W w') := Lib.hid (fun W hW => check_S (HPc.out.on hW).steps 0 (by omega) (by omega) (E := fun _ s => stE x.links p.p.name (fstP (vNames p.p)) s) (fun k v W' hv hW' => step_any ((HWc.out.on hW).on hW').at_ mp ml ((HWc.out.on hW).on hW').ml_ p.p.name ((H.out.2.2.below hW).below hW') k (HPc.out.steps.fits v (List.mem_of_getElem? hv))) (fun _ _ => rfl))
            have hL : ∀ (i : Nat) (u : Value), (#[.int .i64 x.ver, .slice x.pa x.procs.length x.pc, .slice x.la x.links.length x.lc, .slice x.ea x.events.length x.ec, .map (some mp), .map (some ml), .string p.p.name, .map (some mv)] : Array Value)[i]? = some u → ∀ W, Below wc.heap.size wc W → W.cell? ⟨N, i, none⟩ = some u := fun i u hu W hW => heap_cell (heap_below H.out.2.1 hW (heap_lt H.out.2.1)) hu
            have d0 := hL 0 _ rfl
            have d1 := hL 1 _ rfl
            have d2 := hL 2 _ rfl
            have d3 := hL 3 _ rfl
            have d4 := hL 4 _ rfl
            have d5 := hL 5 _ rfl
            have d6 := hL 6 _ rfl
            have d7 := hL 7 _ rfl
            have e2 : ∀ W, Below wc.heap.size wc W → W.cell? ⟨A + 1, 2, none⟩ = some (.slice p.va p.p.vars.length p.vc) := fun W hW => HC2.out 2 _ rfl W (H.out.1.trans (hW.mono H.out.1.size))
            have e3 : ∀ W, Below wc.heap.size wc W → W.cell? ⟨A + 1, 3, none⟩ = some (.slice p.sa p.p.steps.length p.sc) := fun W hW => HC2.out 3 _ rfl W (H.out.1.trans (hW.mono H.out.1.size))
            simp only [List.getElem_toArray, List.getElem_cons_zero, List.getElem_cons_succ] at d0 d1 d2 d3 d4 d5 d6 d7
            have HI2 := HIn
            generalize fErr (varE (fstP (vNames p.p))) 0 p.p.vars = f1 at *
            generalize fErr (fun _ s => stE x.links p.p.name (fstP (vNames p.p)) s) 0 p.p.steps = f2 at *
            obtain ⟨f1a, f1b⟩ := f1
            obtain ⟨f2a, f2b⟩ := f2
            have HRe : Hid (r = if f1a = 0 then f2a else f1a) := Lib.hid (HR.out.trans HI2.out)
            unfold fltV at HCv HCs
            generalize (if (f1a, f1b).1 = 0 then (0 : Int) else ((0 + (f1a, f1b).2 : Nat) : Int)) = q1 at *
            generalize (if (f2a, f2b).1 = 0 then (0 : Int) else ((0 + (f2a, f2b).2 : Nat) : Int)) = q2 at *
            simp only at HCv HCs
            have HHb := Lib.hid (HB4.out.trans (H.out.1.mono HB4.out.size))
            clear hL HC1 HC2 HIn HI2 HPl HW4 HP4 HO14 HO24 HR HVn
            go_upto_region 9 with fail
            have hfd := field0
            go_region_held3 (fun W => Below wc.heap.size wc W) (first | assumption | exact Below.refl _ _ | exact (Below.refl _ _).drew | exact Below.drew (by assumption) | exact (show Below wc.heap.size wc _ by assumption).alloc (by first | exact Nat.le_refl _ | exact hz6 | exact hz5) _) (first
              | (go_at_call 63; refine (HCv.out _ (by assumption)).mono ?_; rintro e w5 ⟨rfl, hb⟩; have hS5 : Below wc.heap.size wc w5 := Below.trans (show Below wc.heap.size wc _ by assumption) (hb.mono (show Below wc.heap.size wc _ by assumption).size); have hz5 := hS5.size; clear hb)
              | (go_at_call 65; refine (HCs.out _ (by assumption)).mono ?_; rintro e w6 ⟨rfl, hb⟩; have hS6 : Below wc.heap.size wc w6 := Below.trans (show Below wc.heap.size wc _ by assumption) (hb.mono (show Below wc.heap.size wc _ by assumption).size); have hz6 := hS6.size; clear hb)
              | (go_at_call 62; refine (orE2_lit (heap_cell (heap_new _ rfl) rfl) (heap_cell (heap_new _ rfl) rfl) HRe.out).mono ?_; rintro e w9 ⟨rfl, rfl⟩))
            all_goals
              clear HCv HCs d0 d1 d2 d3 d4 d5 d6 d7 e2 e3 hfd
              go_wp2
              go_ret
              first
                | exact ⟨rfl, HHb.out.trans ((hS6.alloc hz6 _).mono HHb.out.size)⟩
                | exact ⟨rfl, HHb.out.trans ((hS5.alloc hz5 _).mono HHb.out.size)⟩
  · have hcb : (c != 0) = true := by simpa using hc
    have HR : Hid (r = c) := Lib.hid (by rw [HA.out, if_pos hc])
    clear hc HA
    go_wp2_with fail
    refine HC.out.mono ?_
    rintro e w3 ⟨rfl, rfl⟩
    go_wp2
    go_ret
    exact ⟨by rw [HR.out]; rfl, HB.out⟩
/-- What is wrong with a link. -/
def lnE (ver : Int) (pf lf : ByteArray → Option Nat) (k : Nat) (l : LinkM) : Int :=
  if nmE lf l.name k ≠ 0 then nmE lf l.name k else if !(pf l.frm).isSome || !(pf l.to_).isSome then 4 else if !(decide (1 ≤ l.delay) && decide (l.delay ≤ 1099511627776)) then 42 else if wgtB ver l.weight then 0 else 41
/-- What is wrong with an event. -/
def evE (pf : ByteArray → Option Nat) (e : EventM) : Int :=
  if !(pf e.to_).isSome then 4 else if !(decide (0 ≤ e.at_) && decide (e.at_ ≤ 1099511627776)) || !numB e.val then 23 else 0
end Go.Proofs.Ytgnlehenbdcgmaa.Md
