/- Contract: Check. -/
import Derived.Test.YtgnlehenbdcgmaaMdI
set_option linter.unusedVariables false
set_option linter.unusedSectionVars false
set_option linter.unusedSimpArgs false
namespace Go.Proofs.Ytgnlehenbdcgmaa.Md
open Go.RowKit Go.Shelf

def nmsP (m : ModelM) : List ByteArray := m.procs.map (fun y => y.name)
def nmsL (m : ModelM) : List ByteArray := m.links.map (fun y => y.name)
def fltP (ahead : Nat) (p : Int × Nat) : Int × Int := (p.1, if p.1 = 0 then 0 else ((ahead + p.2 : Nat) : Int))
def erP (m : ModelM) : Int × Int := fltP 0 (fErr (prE m.ver m.links (fstP (nmsP m))) 0 m.procs)
def erL (m : ModelM) : Int × Int := fltP m.procs.length (fErr (lnE m.ver (fstP (nmsP m)) (fstP (nmsL m))) 0 m.links)
def erE (m : ModelM) : Int × Int := fltP (m.procs.length + m.links.length) (fErr (fun _ e => evE (fstP (nmsP m)) e) 0 m.events)
/-- The first that is wrong with a model, and where. -/
def mdE (m : ModelM) : Int × Int :=
  if !(decide (1 ≤ m.ver) && decide (m.ver ≤ 3)) then (43, 0) else if decide (4096 < m.procs.length) || (decide (16384 < m.links.length) || decide (16384 < m.events.length)) then (3, 0) else orF (erP m) (erL m) (erE m)
theorem fErr_map {α β : Type} (f : α → β) (E : Nat → β → Int) : ∀ (L : List α) (k : Nat), fErr (fun k x => E k (f x)) k L = fErr E k (L.map f)
  | [], k => rfl
  | x :: r, k => by
    have ih := fErr_map f E r (k + 1)
    simp only [List.map_cons, fErr, ih]
theorem nms_v (x : ModelV) : x.procs.map (fun y => y.p.name) = nmsP x.m := by unfold nmsP ModelV.m; simp
/-- What lies behind the maps' making. -/
structure Mk (w : World) (x : ModelV) (N mp ml : Nat) (W : World) : Prop where
  below : Below w.heap.size w W
  box : W.heap[N]? = some (.cells #[.int .i64 x.ver, .slice x.pa x.procs.length x.pc, .slice x.la x.links.length x.lc, .slice x.ea x.events.length x.ec, .map (some mp), .map (some ml)] 68 (0, 0))
  mp_ : PlM W mp (fstP (x.procs.map (fun y => y.p.name)))
  ml_ : PlM W ml (fstP (x.links.map (fun y => y.name)))
set_option maxRecDepth 100000 in
set_option maxHeartbeats 4000000 in
theorem check_any {w : World} {x : ModelV} (h : ModelAt w.heap.size w x) : Calls Try.prog 11 #[.agg #[.int .i64 x.ver, .slice x.pa x.procs.length x.pc, .slice x.la x.links.length x.lc, .slice x.ea x.events.length x.ec]] w fun e w' => e = .returned (.agg #[.int .i64 (mdE x.m).1, .int .i64 (mdE x.m).2]) ∧ Below w.heap.size w w' := by
  have hb1 := (below_one w (.cells #[.int .i64 x.ver, .slice x.pa x.procs.length x.pc, .slice x.la x.links.length x.lc, .slice x.ea x.events.length x.ec] 26))
  have hb2 := hb1.alloc hb1.size (.cells #[.int .i64 0, .int .i64 0] 31)
  have HO1 : Hid (((w.alloc (.cells #[.int .i64 x.ver, .slice x.pa x.procs.length x.pc, .slice x.la x.links.length x.lc, .slice x.ea x.events.length x.ec] 26)).alloc (.cells #[.int .i64 0, .int .i64 0] 31)).heap[w.heap.size]? = some (.cells #[.int .i64 x.ver, .slice x.pa x.procs.length x.pc, .slice x.la x.links.length x.lc, .slice x.ea x.events.length x.ec] 26 (0, 0))) := Lib.hid (heap_alloc (heap_new _ rfl) _)
  have HO2 : Hid (((w.alloc (.cells #[.int .i64 x.ver, .slice x.pa x.procs.length x.pc, .slice x.la x.links.length x.lc, .slice x.ea x.events.length x.ec] 26)).alloc (.cells #[.int .i64 0, .int .i64 0] 31)).heap[w.heap.size + 1]? = some (.cells #[.int .i64 0, .int .i64 0] 31 (0, 0))) := Lib.hid (heap_new _ (by simp))
  have HB := Lib.hid hb2
  have HM := Lib.hid (h.on hb2)
  have HE : Hid (mdE x.m = if !(decide (1 ≤ x.ver) && decide (x.ver ≤ 3)) then (43, 0) else if decide (4096 < x.procs.length) || (decide (16384 < x.links.length) || decide (16384 < x.events.length)) then (3, 0) else orF (erP x.m) (erL x.m) (erE x.m)) := Lib.hid (by unfold mdE ModelV.m; simp only [List.length_map])
  have HW := Lib.hid (fun W => within_g x.ver 1 3 W)
  obtain ⟨R, hR⟩ : ∃ R, mdE x.m = R := ⟨_, rfl⟩
  rw [hR] at HE ⊢
  clear h hb1 hb2 hR
  obtain ⟨bv, hbv⟩ : ∃ b, (decide (1 ≤ x.ver) && decide (x.ver ≤ 3)) = b := ⟨_, rfl⟩
  rw [hbv] at HE HW
  clear hbv
  go_enter Try.func11, Try.ntmps11
  go_wp2_with fail
  refine (HW.out _).mono ?_
  rintro e w' ⟨rfl, rfl⟩
  generalize ((w.alloc (.cells #[.int .i64 x.ver, .slice x.pa x.procs.length x.pc, .slice x.la x.links.length x.lc, .slice x.ea x.events.length x.ec] 26)).alloc (.cells #[.int .i64 0, .int .i64 0] 31)) = w1 at *
  obtain ⟨A, hA⟩ : ∃ A, w.heap.size = A := ⟨_, rfl⟩
  have HA := Lib.hid hA
  rw [hA] at HO1 HO2 HB ⊢
  clear hA
  have y0 := heap_cell HO2.out (i := 0) rfl
  have y1 := heap_cell HO2.out (i := 1) rfl
  have m0 := heap_cell HO1.out (i := 0) rfl
  have m1 := heap_cell HO1.out (i := 1) rfl
  have m2 := heap_cell HO1.out (i := 2) rfl
  have m3 := heap_cell HO1.out (i := 3) rfl
  simp only [List.getElem_toArray, List.getElem_cons_zero, List.getElem_cons_succ] at y0 y1 m0 m1 m2 m3
  have f0 := heap_frozen HO2.out 0
  have f1 := heap_frozen HO2.out 1
  have hlA := heap_lt HO2.out
  have retS : ∀ (a : Int) (X : World), X = (w1.setCell ⟨A + 1, 0, none⟩ (.int .i64 a)).setCell ⟨A + 1, 1, none⟩ (.int .i64 0) → X.heap[A + 1]? = some (.cells #[.int .i64 a, .int .i64 0] 31 (0, 0)) ∧ Below A w X := fun a X hX => by
    subst hX
    exact ⟨heap_set (heap_set HO2.out 0 _) 1 _, (HB.out.setCell (p := ⟨A + 1, 0, none⟩) (by show A ≤ A + 1; omega) _).setCell (p := ⟨A + 1, 1, none⟩) (by show A ≤ A + 1; omega) _⟩
  have HRet := Lib.hid retS
  clear retS
  cases bv with
  | false =>
    have HR : Hid (R = (43, 0)) := Lib.hid HE.out
    go_wp2
    refine bodyPost_ret (flt_ret rfl (HRet.out 43 _ rfl).1 rfl) rfl ?_
    exact ⟨by rw [HR.out], by rw [HA.out]; exact (HRet.out 43 _ rfl).2⟩
  | true =>
    by_cases hp : 4096 < x.procs.length
    · have hpb : decide (4096 < (x.procs.length : Int)) = true := by simp; omega
      have HR : Hid (R = (3, 0)) := Lib.hid (by rw [HE.out, decide_eq_true hp]; rfl)
      go_wp2
      refine bodyPost_ret (flt_ret rfl (HRet.out 3 _ rfl).1 rfl) rfl ?_
      exact ⟨by rw [HR.out], by rw [HA.out]; exact (HRet.out 3 _ rfl).2⟩
    have hpb : decide (4096 < (x.procs.length : Int)) = false := by simp; omega
    by_cases hl : 16384 < x.links.length
    · have hlb : decide (16384 < (x.links.length : Int)) = true := by simp; omega
      have HR : Hid (R = (3, 0)) := Lib.hid (by rw [HE.out, decide_eq_true hl, decide_eq_false hp]; rfl)
      go_wp2
      refine bodyPost_ret (flt_ret rfl (HRet.out 3 _ rfl).1 rfl) rfl ?_
      exact ⟨by rw [HR.out], by rw [HA.out]; exact (HRet.out 3 _ rfl).2⟩
    have hlb : decide (16384 < (x.links.length : Int)) = false := by simp; omega
    by_cases he : 16384 < x.events.length
    · have heb : decide (16384 < (x.events.length : Int)) = true := by simp; omega
      have HR : Hid (R = (3, 0)) := Lib.hid (by rw [HE.out, decide_eq_true he, decide_eq_false hp, decide_eq_false hl]; rfl)
      go_wp2
      refine bodyPost_ret (flt_ret rfl (HRet.out 3 _ rfl).1 rfl) rfl ?_
      exact ⟨by rw [HR.out], by rw [HA.out]; exact (HRet.out 3 _ rfl).2⟩
    have heb : decide (16384 < (x.events.length : Int)) = false := by simp; omega
    have HR : Hid (R = orF (erP x.m) (erL x.m) (erE x.m)) := Lib.hid (by rw [HE.out, decide_eq_false he, decide_eq_false hp, decide_eq_false hl]; rfl)
    have HPl : Hid (∀ W, Below w1.heap.size w1 W → Calls Try.prog 33 #[.slice x.pa x.procs.length x.pc, .func (.func 34) #[] #[]] W (PlacesPost (x.procs.map (fun y => y.p.name)) W)) := Lib.hid (fun W hW => places_P (HM.out.on hW).procs)
    have HLl : Hid (∀ W, Below w1.heap.size w1 W → Calls Try.prog 35 #[.slice x.la x.links.length x.lc, .func (.func 36) #[] #[]] W (PlacesPost (x.links.map (fun y => y.name)) W)) := Lib.hid (fun W hW => places_L (HM.out.on hW).links)
    have hc1 : ∀ (i : Nat) (u : Value), (#[.int .i64 x.ver, .slice x.pa x.procs.length x.pc, .slice x.la x.links.length x.lc, .slice x.ea x.events.length x.ec] : Array Value)[i]? = some u → ∀ W, Below w1.heap.size w1 W → W.cell? ⟨A, i, none⟩ = some u := fun i u hu W hW => heap_cell (heap_below HO1.out hW (heap_lt HO1.out)) hu
    have HC1 := Lib.hid hc1
    clear hc1 HE
    go_upto_region 5 with fail
    clear y0 y1 m0 m1 m2 m3 f0 f1
    go_cut [3] from 26 to 33 (fun s3 wx => ∃ (N mp ml : Nat), s3 = .pointer (some ⟨N, 0, none⟩) ∧ Hid (Mk w1 x N mp ml wx))
    case first =>
      have hd : Below w1.heap.size w1 w1.drew := (Below.refl _ _).drew
      refine (wpIn_wide (n := 3)).1 ?_
      refine region_T_calm (fun X => Below w1.heap.size w1 X) (fun _ => true) rfl (by kernel_rfl) ?_
      change AnyT _ _ _ _ _ _ _ _ 10 _ _ (World.drew _)
      refine AnyT.take (i := 0) (v := .agg #[.int .i64 x.ver, .slice x.pa x.procs.length x.pc, .slice x.la x.links.length x.lc, .slice x.ea x.events.length x.ec]) rfl rfl (by kernel_rfl) (by kernel_rfl) (by kernel_rfl) (by kernel_rfl) (by kernel_rfl) (fun _ _ _ h => h) (by kernel_rfl) (fun X hX => by have c0 := HC1.out 0 _ rfl X hX; have c1 := HC1.out 1 _ rfl X hX; have c2 := HC1.out 2 _ rfl X hX; have c3 := HC1.out 3 _ rfl X hX; simp only [List.getElem_toArray, List.getElem_cons_zero, List.getElem_cons_succ] at c0 c1 c2 c3; go_simp) (fun _ => rfl) hd ?_
      try simp only [List.getElem_toArray, List.getElem_cons_zero, List.getElem_cons_succ, Act.put, List.setIfInBounds_toArray, List.set_cons_zero, List.set_cons_succ]
      refine AnyT.take (i := 1) (v := .pointer (some ⟨A, 1, none⟩)) rfl rfl (by kernel_rfl) (by kernel_rfl) (by kernel_rfl) (by kernel_rfl) (by kernel_rfl) (fun _ _ _ h => h) (by kernel_rfl) (fun X hX => by go_simp) (fun _ => rfl) hd ?_
      try simp only [List.getElem_toArray, List.getElem_cons_zero, List.getElem_cons_succ, Act.put, List.setIfInBounds_toArray, List.set_cons_zero, List.set_cons_succ]
      refine AnyT.take (i := 2) (v := .slice x.pa x.procs.length x.pc) rfl rfl (by kernel_rfl) (by kernel_rfl) (by kernel_rfl) (by kernel_rfl) (by kernel_rfl) (fun _ _ _ h => h) (by kernel_rfl) (fun X hX => by have c0 := HC1.out 1 _ rfl X hX; simp only [List.getElem_toArray, List.getElem_cons_zero, List.getElem_cons_succ] at c0; go_simp) (fun _ => rfl) hd ?_
      try simp only [List.getElem_toArray, List.getElem_cons_zero, List.getElem_cons_succ, Act.put, List.setIfInBounds_toArray, List.set_cons_zero, List.set_cons_succ]
      refine AnyT.take (i := 4) (v := .pointer (some ⟨A, 2, none⟩)) rfl rfl (by kernel_rfl) (by kernel_rfl) (by kernel_rfl) (by kernel_rfl) (by kernel_rfl) (fun _ _ _ h => h) (by kernel_rfl) (fun X hX => by go_simp) (fun _ => rfl) hd ?_
      try simp only [List.getElem_toArray, List.getElem_cons_zero, List.getElem_cons_succ, Act.put, List.setIfInBounds_toArray, List.set_cons_zero, List.set_cons_succ]
      refine AnyT.take (i := 5) (v := .slice x.la x.links.length x.lc) rfl rfl (by kernel_rfl) (by kernel_rfl) (by kernel_rfl) (by kernel_rfl) (by kernel_rfl) (fun _ _ _ h => h) (by kernel_rfl) (fun X hX => by have c0 := HC1.out 2 _ rfl X hX; simp only [List.getElem_toArray, List.getElem_cons_zero, List.getElem_cons_succ] at c0; go_simp) (fun _ => rfl) hd ?_
      try simp only [List.getElem_toArray, List.getElem_cons_zero, List.getElem_cons_succ, Act.put, List.setIfInBounds_toArray, List.set_cons_zero, List.set_cons_succ]
      refine AnyT.ready (rs := [3, 8]) (by kernel_rfl) (by simp) ?_
      refine ReadyT.cons rfl (fun K hK => ?_) ?_
      · skip
        go_simp
        refine ⟨trivial, (callsIn_wide.2 (HPl.out _ hd)).mono ?_⟩
        rintro e w2 ⟨mp, rfl, HMp, hgew2, HBw2⟩
        have hszw2 := HBw2.out.size
        have hSw2 : Below w1.heap.size w1 w2 := hd.trans (HBw2.out.mono hd.size)
        have hzw2 := hSw2.size
        refine hK _ _ (fun _ => hSw2) ?_
        clear hK K
        try simp only [List.getElem_toArray, List.getElem_cons_zero, List.getElem_cons_succ, Act.put, List.setIfInBounds_toArray, List.set_cons_zero, List.set_cons_succ]
        refine AnyT.ready (rs := [6, 8]) (by kernel_rfl) (by simp) ?_
        refine ReadyT.cons rfl (fun K hK => ?_) ?_
        · skip
          go_simp
          refine ⟨trivial, (callsIn_wide.2 (HLl.out _ hSw2)).mono ?_⟩
          rintro e w3 ⟨ml, rfl, HMl, hgew3, HBw3⟩
          have hszw3 := HBw3.out.size
          have hSw3 : Below w1.heap.size w1 w3 := hSw2.trans (HBw3.out.mono hSw2.size)
          have hzw3 := hSw3.size
          refine hK _ _ (fun _ => hSw3) ?_
          clear hK K
          try simp only [List.getElem_toArray, List.getElem_cons_zero, List.getElem_cons_succ, Act.put, List.setIfInBounds_toArray, List.set_cons_zero, List.set_cons_succ]
          refine AnyT.take (i := 7) (v := .agg #[.int .i64 x.ver, .slice x.pa x.procs.length x.pc, .slice x.la x.links.length x.lc, .slice x.ea x.events.length x.ec, .map (some mp), .map (some ml)]) rfl rfl (by kernel_rfl) (by kernel_rfl) (by kernel_rfl) (by kernel_rfl) (by kernel_rfl) (fun _ _ _ h => h) (by kernel_rfl) (fun X hX => by go_simp) (fun _ => rfl) hSw3 ?_
          try simp only [List.getElem_toArray, List.getElem_cons_zero, List.getElem_cons_succ, Act.put, List.setIfInBounds_toArray, List.set_cons_zero, List.set_cons_succ]
          refine AnyT.ready (rs := [8]) (by kernel_rfl) (by simp) (ReadyT.cons rfl (fun K hK => ?_) ReadyT.nil)
          go_simp
          have hSa : Below w1.heap.size w1 (w3.alloc (.cells #[.int .i64 0, .slice none 0 0, .slice none 0 0, .slice none 0 0, .map none, .map none] 68)) := hSw3.alloc hzw3 _
          refine hK _ _ (fun _ => hSa) ?_
          clear hK K
          try simp only [List.getElem_toArray, List.getElem_cons_zero, List.getElem_cons_succ, Act.put, List.setIfInBounds_toArray, List.set_cons_zero, List.set_cons_succ]
          refine AnyT.ready (rs := [9]) (by kernel_rfl) (by simp) (ReadyT.cons rfl (fun K hK => ?_) ReadyT.nil)
          have hm1 := MapS.below (MapS.below HMp.out HBw3.out HMp.out.lt) (below_one w3 (.cells #[.int .i64 0, .slice none 0 0, .slice none 0 0, .slice none 0 0, .map none, .map none] 68)) (MapS.below HMp.out HBw3.out HMp.out.lt).lt
          have hl1 := MapS.below HMl.out (below_one w3 (.cells #[.int .i64 0, .slice none 0 0, .slice none 0 0, .slice none 0 0, .map none, .map none] 68)) HMl.out.lt
          have hm1l := HMp.out.lt
          have hl1l := HMl.out.lt
          refine stepIn_store_row rfl 68 _ _ rfl w3.heap.size #[.int .i64 x.ver, .slice x.pa x.procs.length x.pc, .slice x.la x.links.length x.lc, .slice x.ea x.events.length x.ec, .map (some mp), .map (some ml)] rfl rfl 68 _ (heap_new (w := w3) _ rfl) (by kernel_rfl) rfl (by kernel_rfl) ?_
          have hg := grown_setRow (w3.alloc (.cells #[.int .i64 0, .slice none 0 0, .slice none 0 0, .slice none 0 0, .map none, .map none] 68)) w3.heap.size #[.int .i64 x.ver, .slice x.pa x.procs.length x.pc, .slice x.la x.links.length x.lc, .slice x.ea x.events.length x.ec, .map (some mp), .map (some ml)]
          have hSf := hSa.grown hg hSa.size (fun r e => by cases e; omega)
          refine hK _ _ (fun _ => hSf) ?_
          clear hK K
          try simp only [List.getElem_toArray, List.getElem_cons_zero, List.getElem_cons_succ, Act.put, List.setIfInBounds_toArray, List.set_cons_zero, List.set_cons_succ]
          refine AnyT.done (by kernel_rfl) (noPan_normal ?_) _
          go_wp2
          go_meet
          exact ⟨_, mp, ml, rfl, Lib.hid ⟨hSf, setRow_heap _ _ _ _ _ _ (heap_new (w := w3) _ rfl), ⟨_, MapS.kept hm1 hg (fun e => by cases e; omega)⟩, ⟨_, MapS.kept hl1 hg (fun e => by cases e; omega)⟩⟩⟩
        · refine ReadyT.cons rfl (fun K hK => ?_) ReadyT.nil
          go_simp
          have hSa : Below w1.heap.size w1 (w2.alloc (.cells #[.int .i64 0, .slice none 0 0, .slice none 0 0, .slice none 0 0, .map none, .map none] 68)) := hSw2.alloc hzw2 _
          refine hK _ _ (fun _ => hSa) ?_
          clear hK K
          try simp only [List.getElem_toArray, List.getElem_cons_zero, List.getElem_cons_succ, Act.put, List.setIfInBounds_toArray, List.set_cons_zero, List.set_cons_succ]
          refine AnyT.ready (rs := [6]) (by kernel_rfl) (by simp) (ReadyT.cons rfl (fun K hK => ?_) ReadyT.nil)
          go_simp
          refine ⟨trivial, (callsIn_wide.2 (HLl.out _ hSa)).mono ?_⟩
          rintro e w3 ⟨ml, rfl, HMl, hgew3, HBw3⟩
          have hszw3 := HBw3.out.size
          have hSw3 : Below w1.heap.size w1 w3 := hSa.trans (HBw3.out.mono hSa.size)
          have hzw3 := hSw3.size
          have hm20 := HMp.out.lt
          have hzN : w2.heap.size < (w2.alloc (.cells #[.int .i64 0, .slice none 0 0, .slice none 0 0, .slice none 0 0, .map none, .map none] 68)).heap.size := by simp
          have HNA : w3.heap[w2.heap.size]? = some (.cells #[.int .i64 0, .slice none 0 0, .slice none 0 0, .slice none 0 0, .map none, .map none] 68 (0, 0)) := heap_below (heap_new (w := w2) _ rfl) HBw3.out (by simp)
          refine hK _ _ (fun _ => hSw3) ?_
          clear hK K
          try simp only [List.getElem_toArray, List.getElem_cons_zero, List.getElem_cons_succ, Act.put, List.setIfInBounds_toArray, List.set_cons_zero, List.set_cons_succ]
          refine AnyT.take (i := 7) (v := .agg #[.int .i64 x.ver, .slice x.pa x.procs.length x.pc, .slice x.la x.links.length x.lc, .slice x.ea x.events.length x.ec, .map (some mp), .map (some ml)]) rfl rfl (by kernel_rfl) (by kernel_rfl) (by kernel_rfl) (by kernel_rfl) (by kernel_rfl) (fun _ _ _ h => h) (by kernel_rfl) (fun X hX => by go_simp) (fun _ => rfl) hSw3 ?_
          try simp only [List.getElem_toArray, List.getElem_cons_zero, List.getElem_cons_succ, Act.put, List.setIfInBounds_toArray, List.set_cons_zero, List.set_cons_succ]
          refine AnyT.ready (rs := [9]) (by kernel_rfl) (by simp) (ReadyT.cons rfl (fun K hK => ?_) ReadyT.nil)
          have hm1 := MapS.below (MapS.below HMp.out (below_one w2 (.cells #[.int .i64 0, .slice none 0 0, .slice none 0 0, .slice none 0 0, .map none, .map none] 68)) HMp.out.lt) HBw3.out (MapS.below HMp.out (below_one w2 (.cells #[.int .i64 0, .slice none 0 0, .slice none 0 0, .slice none 0 0, .map none, .map none] 68)) HMp.out.lt).lt
          have hl1 := HMl.out
          have hm1l := HMp.out.lt
          have hl1l := HMl.out.lt
          refine stepIn_store_row rfl 68 _ _ rfl w2.heap.size #[.int .i64 x.ver, .slice x.pa x.procs.length x.pc, .slice x.la x.links.length x.lc, .slice x.ea x.events.length x.ec, .map (some mp), .map (some ml)] rfl rfl 68 _ HNA (by kernel_rfl) rfl (by kernel_rfl) ?_
          have hg := grown_setRow (w3) w2.heap.size #[.int .i64 x.ver, .slice x.pa x.procs.length x.pc, .slice x.la x.links.length x.lc, .slice x.ea x.events.length x.ec, .map (some mp), .map (some ml)]
          have hSf := hSw3.grown hg hSw3.size (fun r e => by cases e; omega)
          refine hK _ _ (fun _ => hSf) ?_
          clear hK K
          try simp only [List.getElem_toArray, List.getElem_cons_zero, List.getElem_cons_succ, Act.put, List.setIfInBounds_toArray, List.set_cons_zero, List.set_cons_succ]
          refine AnyT.done (by kernel_rfl) (noPan_normal ?_) _
          go_wp2
          go_meet
          exact ⟨_, mp, ml, rfl, Lib.hid ⟨hSf, setRow_heap _ _ _ _ _ _ HNA, ⟨_, MapS.kept hm1 hg (fun e => by cases e; omega)⟩, ⟨_, MapS.kept hl1 hg (fun e => by cases e; omega)⟩⟩⟩
      · refine ReadyT.cons rfl (fun K hK => ?_) ReadyT.nil
        go_simp
        have hSa : Below w1.heap.size w1 (w1.alloc (.cells #[.int .i64 0, .slice none 0 0, .slice none 0 0, .slice none 0 0, .map none, .map none] 68)).drew := ((Below.refl _ _).alloc (Nat.le_refl _) _).drew
        refine hK _ _ (fun _ => hSa) ?_
        clear hK K
        try simp only [List.getElem_toArray, List.getElem_cons_zero, List.getElem_cons_succ, Act.put, List.setIfInBounds_toArray, List.set_cons_zero, List.set_cons_succ]
        refine AnyT.ready (rs := [3]) (by kernel_rfl) (by simp) (ReadyT.cons rfl (fun K hK => ?_) ReadyT.nil)
        go_simp
        refine ⟨trivial, (callsIn_wide.2 (HPl.out _ hSa)).mono ?_⟩
        rintro e w2 ⟨mp, rfl, HMp, hgew2, HBw2⟩
        have hszw2 := HBw2.out.size
        have hSw2 : Below w1.heap.size w1 w2 := hSa.trans (HBw2.out.mono hSa.size)
        have hzw2 := hSw2.size
        have HNA0 : (w1.alloc (.cells #[.int .i64 0, .slice none 0 0, .slice none 0 0, .slice none 0 0, .map none, .map none] 68)).drew.heap[w1.heap.size]? = some (.cells #[.int .i64 0, .slice none 0 0, .slice none 0 0, .slice none 0 0, .map none, .map none] 68 (0, 0)) := heap_new (w := w1) _ rfl
        have hzN := heap_lt HNA0
        have HNA1 : w2.heap[w1.heap.size]? = some (.cells #[.int .i64 0, .slice none 0 0, .slice none 0 0, .slice none 0 0, .map none, .map none] 68 (0, 0)) := heap_below HNA0 HBw2.out (heap_lt HNA0)
        refine hK _ _ (fun _ => hSw2) ?_
        clear hK K
        try simp only [List.getElem_toArray, List.getElem_cons_zero, List.getElem_cons_succ, Act.put, List.setIfInBounds_toArray, List.set_cons_zero, List.set_cons_succ]
        refine AnyT.ready (rs := [6]) (by kernel_rfl) (by simp) (ReadyT.cons rfl (fun K hK => ?_) ReadyT.nil)
        go_simp
        refine ⟨trivial, (callsIn_wide.2 (HLl.out _ hSw2)).mono ?_⟩
        rintro e w3 ⟨ml, rfl, HMl, hgew3, HBw3⟩
        have hszw3 := HBw3.out.size
        have hSw3 : Below w1.heap.size w1 w3 := hSw2.trans (HBw3.out.mono hSw2.size)
        have hzw3 := hSw3.size
        have HNA : w3.heap[w1.heap.size]? = some (.cells #[.int .i64 0, .slice none 0 0, .slice none 0 0, .slice none 0 0, .map none, .map none] 68 (0, 0)) := heap_below HNA1 HBw3.out (heap_lt HNA1)
        refine hK _ _ (fun _ => hSw3) ?_
        clear hK K
        try simp only [List.getElem_toArray, List.getElem_cons_zero, List.getElem_cons_succ, Act.put, List.setIfInBounds_toArray, List.set_cons_zero, List.set_cons_succ]
        refine AnyT.take (i := 7) (v := .agg #[.int .i64 x.ver, .slice x.pa x.procs.length x.pc, .slice x.la x.links.length x.lc, .slice x.ea x.events.length x.ec, .map (some mp), .map (some ml)]) rfl rfl (by kernel_rfl) (by kernel_rfl) (by kernel_rfl) (by kernel_rfl) (by kernel_rfl) (fun _ _ _ h => h) (by kernel_rfl) (fun X hX => by go_simp) (fun _ => rfl) hSw3 ?_
        try simp only [List.getElem_toArray, List.getElem_cons_zero, List.getElem_cons_succ, Act.put, List.setIfInBounds_toArray, List.set_cons_zero, List.set_cons_succ]
        refine AnyT.ready (rs := [9]) (by kernel_rfl) (by simp) (ReadyT.cons rfl (fun K hK => ?_) ReadyT.nil)
        have hm1 := (MapS.below HMp.out HBw3.out HMp.out.lt)
        have hl1 := HMl.out
        have hm1l := HMp.out.lt
        have hl1l := HMl.out.lt
        refine stepIn_store_row rfl 68 _ _ rfl w1.heap.size #[.int .i64 x.ver, .slice x.pa x.procs.length x.pc, .slice x.la x.links.length x.lc, .slice x.ea x.events.length x.ec, .map (some mp), .map (some ml)] rfl rfl 68 _ HNA (by kernel_rfl) rfl (by kernel_rfl) ?_
        have hg := grown_setRow (w3) w1.heap.size #[.int .i64 x.ver, .slice x.pa x.procs.length x.pc, .slice x.la x.links.length x.lc, .slice x.ea x.events.length x.ec, .map (some mp), .map (some ml)]
        have hSf := hSw3.grown hg hSw3.size (fun r e => by cases e; omega)
        refine hK _ _ (fun _ => hSf) ?_
        clear hK K
        try simp only [List.getElem_toArray, List.getElem_cons_zero, List.getElem_cons_succ, Act.put, List.setIfInBounds_toArray, List.set_cons_zero, List.set_cons_succ]
        refine AnyT.done (by kernel_rfl) (noPan_normal ?_) _
        go_wp2
        go_meet
        exact ⟨_, mp, ml, rfl, Lib.hid ⟨hSf, setRow_heap _ _ _ _ _ _ HNA, ⟨_, MapS.kept hm1 hg (fun e => by cases e; omega)⟩, ⟨_, MapS.kept hl1 hg (fun e => by cases e; omega)⟩⟩⟩
    case rest =>
      obtain ⟨N, mp, ml, rfl, H⟩ := hcut
      have HWh : Hid (Wh wc x mp ml) := Lib.hid ⟨HM.out.on H.out.below, H.out.mp_, H.out.ml_⟩
      have hnp : x.m.procs.length = x.procs.length := by unfold ModelV.m; simp
      have HCp : Hid (∀ W, Below wc.heap.size wc W → Calls Try.prog 38 #[.slice x.pa x.procs.length x.pc, .int .i64 0, .func (.func 39) #[.agg #[.int .i64 x.ver, .slice x.pa x.procs.length x.pc, .slice x.la x.links.length x.lc, .slice x.ea x.events.length x.ec, .map (some mp), .map (some ml)]] #[]] W fun e w' => e = .returned (.agg #[.int .i64 (erP x.m).1, .int .i64 (erP x.m).2]) ∧ Below W.heap.size W w') := Lib.hid (fun W hW => by
        have h := check_P (cap := x.pc) (HWh.out.on hW).at_.procs 0 (by omega) (by omega) (gf := 39) (bv := wholeVal x mp ml) (E := fun k y => prE x.ver x.links (fstP (x.procs.map (fun y => y.p.name))) k y.p) (fun k p W' hp hW' => proc_any ((HWh.out.on hW).on hW') k (((HWh.out.on hW).on hW').at_.inner p (List.mem_of_getElem? hp)) (HWh.out.at_.procs.fits p (List.mem_of_getElem? hp))) (fun _ _ => rfl)
        rw [fErr_map (fun y : ProcV => y.p) (fun k y => prE x.ver x.links (fstP (x.procs.map (fun y => y.p.name))) k y), nms_v] at h
        exact h)
      have HCl : Hid (∀ W, Below wc.heap.size wc W → Calls Try.prog 40 #[.slice x.la x.links.length x.lc, .int .i64 (x.procs.length : Int), .func (.func 41) #[.agg #[.int .i64 x.ver, .slice x.pa x.procs.length x.pc, .slice x.la x.links.length x.lc, .slice x.ea x.events.length x.ec, .map (some mp), .map (some ml)]] #[]] W fun e w' => e = .returned (.agg #[.int .i64 (erL x.m).1, .int .i64 (erL x.m).2]) ∧ Below W.heap.size W w') := Lib.hid (fun W hW => by
        have h := check_L (cap := x.lc) (HWh.out.on hW).at_.links x.procs.length (by omega) (by omega) (gf := 41) (bv := wholeVal x mp ml) (E := lnE x.ver (fstP (x.procs.map (fun y => y.p.name))) (fstP (x.links.map (fun y => y.name)))) (fun k p W' hp hW' => link_any ((HWh.out.on hW).on hW') k (HWh.out.at_.links.fits p (List.mem_of_getElem? hp))) (fun _ _ => rfl)
        rw [nms_v] at h
        unfold erL
        rw [hnp]
        exact h)
      have HCe : Hid (∀ W, Below wc.heap.size wc W → Calls Try.prog 42 #[.slice x.ea x.events.length x.ec, .int .i64 ((x.procs.length : Int) + (x.links.length : Int)), .func (.func 43) #[.agg #[.int .i64 x.ver, .slice x.pa x.procs.length x.pc, .slice x.la x.links.length x.lc, .slice x.ea x.events.length x.ec, .map (some mp), .map (some ml)]] #[]] W fun e w' => e = .returned (.agg #[.int .i64 (erE x.m).1, .int .i64 (erE x.m).2]) ∧ Below W.heap.size W w') := Lib.hid (fun W hW => by
        have h := check_E (cap := x.ec) (HWh.out.on hW).at_.events (x.procs.length + x.links.length) (by omega) (by omega) (gf := 43) (bv := wholeVal x mp ml) (E := fun _ e => evE (fstP (x.procs.map (fun y => y.p.name))) e) (fun k p W' hp hW' => event_any ((HWh.out.on hW).on hW') k (HWh.out.at_.events.fits p (List.mem_of_getElem? hp))) (fun _ _ => rfl)
        rw [nms_v] at h
        unfold erE
        rw [hnp]
        rw [show ((x.procs.length + x.links.length : Nat) : Int) = (x.procs.length : Int) + (x.links.length : Int) by omega] at h
        exact h)
      generalize erP x.m = p at *
      generalize erL x.m = q at *
      generalize erE x.m = r at *
      have hL : ∀ (i : Nat) (u : Value), (#[.int .i64 x.ver, .slice x.pa x.procs.length x.pc, .slice x.la x.links.length x.lc, .slice x.ea x.events.length x.ec, .map (some mp), .map (some ml)] : Array Value)[i]? = some u → ∀ W, Below wc.heap.size wc W → W.cell? ⟨N, i, none⟩ = some u := fun i u hu W hW => heap_cell (heap_below H.out.box hW (heap_lt H.out.box)) hu
      have hM : ∀ (i : Nat) (u : Value), (#[.int .i64 x.ver, .slice x.pa x.procs.length x.pc, .slice x.la x.links.length x.lc, .slice x.ea x.events.length x.ec] : Array Value)[i]? = some u → ∀ W, Below wc.heap.size wc W → W.cell? ⟨A, i, none⟩ = some u := fun i u hu W hW => HC1.out i u hu W (H.out.below.trans (hW.mono H.out.below.size))
      have HRs : Hid (∀ W, Below wc.heap.size wc W → W.heap[A + 1]? = some (.cells #[.int .i64 0, .int .i64 0] 31 (0, 0))) := Lib.hid (fun W hW => heap_below (heap_below HO2.out H.out.below hlA) hW (by have := H.out.below.size; omega))
      have d0 := hL 0 _ rfl
      have d1 := hL 1 _ rfl
      have d2 := hL 2 _ rfl
      have d3 := hL 3 _ rfl
      have d4 := hL 4 _ rfl
      have d5 := hL 5 _ rfl
      have e1 := hM 1 _ rfl
      have e2 := hM 2 _ rfl
      have e3 := hM 3 _ rfl
      simp only [List.getElem_toArray, List.getElem_cons_zero, List.getElem_cons_succ] at d0 d1 d2 d3 d4 d5 e1 e2 e3
      have r0 : ∀ W, Below wc.heap.size wc W → W.cell? ⟨A + 1, 0, none⟩ = some (.int .i64 0) := fun W hW => heap_cell (HRs.out W hW) rfl
      have r1 : ∀ W, Below wc.heap.size wc W → W.cell? ⟨A + 1, 1, none⟩ = some (.int .i64 0) := fun W hW => heap_cell (HRs.out W hW) rfl
      have s0 : ∀ W, Below wc.heap.size wc W → W.frozen? ⟨A + 1, 0, none⟩ = false := fun W hW => heap_frozen (HRs.out W hW) 0
      have s1 : ∀ W, Below wc.heap.size wc W → W.frozen? ⟨A + 1, 1, none⟩ = false := fun W hW => heap_frozen (HRs.out W hW) 1
      have HBc := Lib.hid (HB.out.trans (H.out.below.mono (by omega)))
      have HOr : Hid (∀ (W : World) (N' : Nat), W.heap[N']? = some (.cells #[.int .i64 p.1, .int .i64 p.2, .int .i64 q.1, .int .i64 q.2, .int .i64 r.1, .int .i64 r.2] 31 (0, 0)) → Calls Try.prog 37 #[.slice (some ⟨N', 0, none⟩) 3 3] W fun e w' => e = .returned (.agg #[.int .i64 R.1, .int .i64 R.2]) ∧ Below W.heap.size W w') := Lib.hid (fun W N' hN => orF3_any hN HR.out)
      obtain ⟨p1, p2⟩ := p
      obtain ⟨q1, q2⟩ := q
      obtain ⟨r1', r2'⟩ := r
      obtain ⟨R1, R2⟩ := R
      simp only at HCp HCl HCe HOr
      clear hL hM HC1 HPl HLl HWh HR hnp HRet HO1 HO2 HM
      go_upto_region 6 with fail
      have hd : Below wc.heap.size wc wc.drew := (Below.refl _ _).drew
      refine (wpIn_wide (n := 3)).1 ?_
      refine region_T_calm (fun X => Below wc.heap.size wc X) (fun j => decide (j < 27)) rfl (by kernel_rfl) ?_
      change AnyT _ _ _ _ _ _ _ _ 28 _ _ (World.drew _)
      refine AnyT.take (i := 0) (v := .pointer (some ⟨A, 1, none⟩)) rfl rfl (by kernel_rfl) (by kernel_rfl) (by kernel_rfl) (by kernel_rfl) (by kernel_rfl) (fun _ _ _ h => h) (by kernel_rfl) (fun X hX => by go_simp) (fun _ => rfl) hd ?_
      try simp only [List.getElem_toArray, List.getElem_cons_zero, List.getElem_cons_succ, Act.put, List.setIfInBounds_toArray, List.set_cons_zero, List.set_cons_succ]
      refine AnyT.take (i := 1) (v := .slice x.pa x.procs.length x.pc) rfl rfl (by kernel_rfl) (by kernel_rfl) (by kernel_rfl) (by kernel_rfl) (by kernel_rfl) (fun _ _ _ h => h) (by kernel_rfl) (fun X hX => by have c := e1 X hX; go_simp) (fun _ => rfl) hd ?_
      try simp only [List.getElem_toArray, List.getElem_cons_zero, List.getElem_cons_succ, Act.put, List.setIfInBounds_toArray, List.set_cons_zero, List.set_cons_succ]
      refine AnyT.take (i := 2) (v := .agg #[.int .i64 x.ver, .slice x.pa x.procs.length x.pc, .slice x.la x.links.length x.lc, .slice x.ea x.events.length x.ec, .map (some mp), .map (some ml)]) rfl rfl (by kernel_rfl) (by kernel_rfl) (by kernel_rfl) (by kernel_rfl) (by kernel_rfl) (fun _ _ _ h => h) (by kernel_rfl) (fun X hX => by have c0 := d0 X hX; have c1 := d1 X hX; have c2 := d2 X hX; have c3 := d3 X hX; have c4 := d4 X hX; have c5 := d5 X hX; go_simp) (fun _ => rfl) hd ?_
      try simp only [List.getElem_toArray, List.getElem_cons_zero, List.getElem_cons_succ, Act.put, List.setIfInBounds_toArray, List.set_cons_zero, List.set_cons_succ]
      refine AnyT.take (i := 3) (v := .func (.func 39) #[.agg #[.int .i64 x.ver, .slice x.pa x.procs.length x.pc, .slice x.la x.links.length x.lc, .slice x.ea x.events.length x.ec, .map (some mp), .map (some ml)]] #[]) rfl rfl (by kernel_rfl) (by kernel_rfl) (by kernel_rfl) (by kernel_rfl) (by kernel_rfl) (fun _ _ _ h => h) (by kernel_rfl) (fun X hX => by go_simp) (fun _ => rfl) hd ?_
      try simp only [List.getElem_toArray, List.getElem_cons_zero, List.getElem_cons_succ, Act.put, List.setIfInBounds_toArray, List.set_cons_zero, List.set_cons_succ]
      refine AnyT.take (i := 5) (v := .pointer (some ⟨A, 2, none⟩)) rfl rfl (by kernel_rfl) (by kernel_rfl) (by kernel_rfl) (by kernel_rfl) (by kernel_rfl) (fun _ _ _ h => h) (by kernel_rfl) (fun X hX => by go_simp) (fun _ => rfl) hd ?_
      try simp only [List.getElem_toArray, List.getElem_cons_zero, List.getElem_cons_succ, Act.put, List.setIfInBounds_toArray, List.set_cons_zero, List.set_cons_succ]
      refine AnyT.take (i := 6) (v := .slice x.la x.links.length x.lc) rfl rfl (by kernel_rfl) (by kernel_rfl) (by kernel_rfl) (by kernel_rfl) (by kernel_rfl) (fun _ _ _ h => h) (by kernel_rfl) (fun X hX => by have c := e2 X hX; go_simp) (fun _ => rfl) hd ?_
      try simp only [List.getElem_toArray, List.getElem_cons_zero, List.getElem_cons_succ, Act.put, List.setIfInBounds_toArray, List.set_cons_zero, List.set_cons_succ]
      refine AnyT.take (i := 7) (v := .pointer (some ⟨A, 1, none⟩)) rfl rfl (by kernel_rfl) (by kernel_rfl) (by kernel_rfl) (by kernel_rfl) (by kernel_rfl) (fun _ _ _ h => h) (by kernel_rfl) (fun X hX => by go_simp) (fun _ => rfl) hd ?_
      try simp only [List.getElem_toArray, List.getElem_cons_zero, List.getElem_cons_succ, Act.put, List.setIfInBounds_toArray, List.set_cons_zero, List.set_cons_succ]
      refine AnyT.take (i := 8) (v := .slice x.pa x.procs.length x.pc) rfl rfl (by kernel_rfl) (by kernel_rfl) (by kernel_rfl) (by kernel_rfl) (by kernel_rfl) (fun _ _ _ h => h) (by kernel_rfl) (fun X hX => by have c := e1 X hX; go_simp) (fun _ => rfl) hd ?_
      try simp only [List.getElem_toArray, List.getElem_cons_zero, List.getElem_cons_succ, Act.put, List.setIfInBounds_toArray, List.set_cons_zero, List.set_cons_succ]
      refine AnyT.take (i := 9) (v := .int .i64 (x.procs.length : Int)) rfl rfl (by kernel_rfl) (by kernel_rfl) (by kernel_rfl) (by kernel_rfl) (by kernel_rfl) (fun _ _ _ h => h) (by kernel_rfl) (fun X hX => by go_simp) (fun _ => rfl) hd ?_
      try simp only [List.getElem_toArray, List.getElem_cons_zero, List.getElem_cons_succ, Act.put, List.setIfInBounds_toArray, List.set_cons_zero, List.set_cons_succ]
      refine AnyT.take (i := 10) (v := .agg #[.int .i64 x.ver, .slice x.pa x.procs.length x.pc, .slice x.la x.links.length x.lc, .slice x.ea x.events.length x.ec, .map (some mp), .map (some ml)]) rfl rfl (by kernel_rfl) (by kernel_rfl) (by kernel_rfl) (by kernel_rfl) (by kernel_rfl) (fun _ _ _ h => h) (by kernel_rfl) (fun X hX => by have c0 := d0 X hX; have c1 := d1 X hX; have c2 := d2 X hX; have c3 := d3 X hX; have c4 := d4 X hX; have c5 := d5 X hX; go_simp) (fun _ => rfl) hd ?_
      try simp only [List.getElem_toArray, List.getElem_cons_zero, List.getElem_cons_succ, Act.put, List.setIfInBounds_toArray, List.set_cons_zero, List.set_cons_succ]
      refine AnyT.take (i := 11) (v := .func (.func 41) #[.agg #[.int .i64 x.ver, .slice x.pa x.procs.length x.pc, .slice x.la x.links.length x.lc, .slice x.ea x.events.length x.ec, .map (some mp), .map (some ml)]] #[]) rfl rfl (by kernel_rfl) (by kernel_rfl) (by kernel_rfl) (by kernel_rfl) (by kernel_rfl) (fun _ _ _ h => h) (by kernel_rfl) (fun X hX => by go_simp) (fun _ => rfl) hd ?_
      try simp only [List.getElem_toArray, List.getElem_cons_zero, List.getElem_cons_succ, Act.put, List.setIfInBounds_toArray, List.set_cons_zero, List.set_cons_succ]
      refine AnyT.take (i := 13) (v := .pointer (some ⟨A, 3, none⟩)) rfl rfl (by kernel_rfl) (by kernel_rfl) (by kernel_rfl) (by kernel_rfl) (by kernel_rfl) (fun _ _ _ h => h) (by kernel_rfl) (fun X hX => by go_simp) (fun _ => rfl) hd ?_
      try simp only [List.getElem_toArray, List.getElem_cons_zero, List.getElem_cons_succ, Act.put, List.setIfInBounds_toArray, List.set_cons_zero, List.set_cons_succ]
      refine AnyT.take (i := 14) (v := .slice x.ea x.events.length x.ec) rfl rfl (by kernel_rfl) (by kernel_rfl) (by kernel_rfl) (by kernel_rfl) (by kernel_rfl) (fun _ _ _ h => h) (by kernel_rfl) (fun X hX => by have c := e3 X hX; go_simp) (fun _ => rfl) hd ?_
      try simp only [List.getElem_toArray, List.getElem_cons_zero, List.getElem_cons_succ, Act.put, List.setIfInBounds_toArray, List.set_cons_zero, List.set_cons_succ]
      refine AnyT.take (i := 15) (v := .pointer (some ⟨A, 1, none⟩)) rfl rfl (by kernel_rfl) (by kernel_rfl) (by kernel_rfl) (by kernel_rfl) (by kernel_rfl) (fun _ _ _ h => h) (by kernel_rfl) (fun X hX => by go_simp) (fun _ => rfl) hd ?_
      try simp only [List.getElem_toArray, List.getElem_cons_zero, List.getElem_cons_succ, Act.put, List.setIfInBounds_toArray, List.set_cons_zero, List.set_cons_succ]
      refine AnyT.take (i := 16) (v := .slice x.pa x.procs.length x.pc) rfl rfl (by kernel_rfl) (by kernel_rfl) (by kernel_rfl) (by kernel_rfl) (by kernel_rfl) (fun _ _ _ h => h) (by kernel_rfl) (fun X hX => by have c := e1 X hX; go_simp) (fun _ => rfl) hd ?_
      try simp only [List.getElem_toArray, List.getElem_cons_zero, List.getElem_cons_succ, Act.put, List.setIfInBounds_toArray, List.set_cons_zero, List.set_cons_succ]
      refine AnyT.take (i := 17) (v := .int .i64 (x.procs.length : Int)) rfl rfl (by kernel_rfl) (by kernel_rfl) (by kernel_rfl) (by kernel_rfl) (by kernel_rfl) (fun _ _ _ h => h) (by kernel_rfl) (fun X hX => by go_simp) (fun _ => rfl) hd ?_
      try simp only [List.getElem_toArray, List.getElem_cons_zero, List.getElem_cons_succ, Act.put, List.setIfInBounds_toArray, List.set_cons_zero, List.set_cons_succ]
      refine AnyT.take (i := 18) (v := .pointer (some ⟨A, 2, none⟩)) rfl rfl (by kernel_rfl) (by kernel_rfl) (by kernel_rfl) (by kernel_rfl) (by kernel_rfl) (fun _ _ _ h => h) (by kernel_rfl) (fun X hX => by go_simp) (fun _ => rfl) hd ?_
      try simp only [List.getElem_toArray, List.getElem_cons_zero, List.getElem_cons_succ, Act.put, List.setIfInBounds_toArray, List.set_cons_zero, List.set_cons_succ]
      refine AnyT.take (i := 19) (v := .slice x.la x.links.length x.lc) rfl rfl (by kernel_rfl) (by kernel_rfl) (by kernel_rfl) (by kernel_rfl) (by kernel_rfl) (fun _ _ _ h => h) (by kernel_rfl) (fun X hX => by have c := e2 X hX; go_simp) (fun _ => rfl) hd ?_
      try simp only [List.getElem_toArray, List.getElem_cons_zero, List.getElem_cons_succ, Act.put, List.setIfInBounds_toArray, List.set_cons_zero, List.set_cons_succ]
      refine AnyT.take (i := 20) (v := .int .i64 (x.links.length : Int)) rfl rfl (by kernel_rfl) (by kernel_rfl) (by kernel_rfl) (by kernel_rfl) (by kernel_rfl) (fun _ _ _ h => h) (by kernel_rfl) (fun X hX => by go_simp) (fun _ => rfl) hd ?_
      try simp only [List.getElem_toArray, List.getElem_cons_zero, List.getElem_cons_succ, Act.put, List.setIfInBounds_toArray, List.set_cons_zero, List.set_cons_succ]
      refine AnyT.take (i := 21) (v := .int .i64 ((x.procs.length : Int) + (x.links.length : Int))) rfl rfl (by kernel_rfl) (by kernel_rfl) (by kernel_rfl) (by kernel_rfl) (by kernel_rfl) (fun _ _ _ h => h) (by kernel_rfl) (fun X hX => by have hw : IntKind.i64.wrap ((x.procs.length : Int) + (x.links.length : Int)) = (x.procs.length : Int) + (x.links.length : Int) := IntWalk.i64_in _ (by omega); go_simp) (fun _ => rfl) hd ?_
      try simp only [List.getElem_toArray, List.getElem_cons_zero, List.getElem_cons_succ, Act.put, List.setIfInBounds_toArray, List.set_cons_zero, List.set_cons_succ]
      refine AnyT.take (i := 22) (v := .agg #[.int .i64 x.ver, .slice x.pa x.procs.length x.pc, .slice x.la x.links.length x.lc, .slice x.ea x.events.length x.ec, .map (some mp), .map (some ml)]) rfl rfl (by kernel_rfl) (by kernel_rfl) (by kernel_rfl) (by kernel_rfl) (by kernel_rfl) (fun _ _ _ h => h) (by kernel_rfl) (fun X hX => by have c0 := d0 X hX; have c1 := d1 X hX; have c2 := d2 X hX; have c3 := d3 X hX; have c4 := d4 X hX; have c5 := d5 X hX; go_simp) (fun _ => rfl) hd ?_
      try simp only [List.getElem_toArray, List.getElem_cons_zero, List.getElem_cons_succ, Act.put, List.setIfInBounds_toArray, List.set_cons_zero, List.set_cons_succ]
      refine AnyT.take (i := 23) (v := .func (.func 43) #[.agg #[.int .i64 x.ver, .slice x.pa x.procs.length x.pc, .slice x.la x.links.length x.lc, .slice x.ea x.events.length x.ec, .map (some mp), .map (some ml)]] #[]) rfl rfl (by kernel_rfl) (by kernel_rfl) (by kernel_rfl) (by kernel_rfl) (by kernel_rfl) (fun _ _ _ h => h) (by kernel_rfl) (fun X hX => by go_simp) (fun _ => rfl) hd ?_
      try simp only [List.getElem_toArray, List.getElem_cons_zero, List.getElem_cons_succ, Act.put, List.setIfInBounds_toArray, List.set_cons_zero, List.set_cons_succ]
      refine AnyT.ready (rs := [4]) (by kernel_rfl) (by simp) (ReadyT.cons rfl (fun K hK => ?_) ReadyT.nil)
      go_simp
      refine ⟨trivial, (callsIn_wide.2 (HCp.out _ hd)).mono ?_⟩
      rintro e w5 ⟨rfl, hbw5⟩
      have hSw5 : Below wc.heap.size wc w5 := hd.trans (hbw5.mono hd.size)
      refine hK _ _ (fun _ => hSw5) ?_
      clear hK K
      try simp only [List.getElem_toArray, List.getElem_cons_zero, List.getElem_cons_succ, Act.put, List.setIfInBounds_toArray, List.set_cons_zero, List.set_cons_succ]
      refine AnyT.ready (rs := [12]) (by kernel_rfl) (by simp) (ReadyT.cons rfl (fun K hK => ?_) ReadyT.nil)
      go_simp
      refine ⟨trivial, (callsIn_wide.2 (HCl.out _ hSw5)).mono ?_⟩
      rintro e w6 ⟨rfl, hbw6⟩
      have hSw6 : Below wc.heap.size wc w6 := hSw5.trans (hbw6.mono hSw5.size)
      refine hK _ _ (fun _ => hSw6) ?_
      clear hK K
      try simp only [List.getElem_toArray, List.getElem_cons_zero, List.getElem_cons_succ, Act.put, List.setIfInBounds_toArray, List.set_cons_zero, List.set_cons_succ]
      refine AnyT.ready (rs := [24]) (by kernel_rfl) (by simp) (ReadyT.cons rfl (fun K hK => ?_) ReadyT.nil)
      go_simp
      refine ⟨trivial, (callsIn_wide.2 (HCe.out _ hSw6)).mono ?_⟩
      rintro e w7 ⟨rfl, hbw7⟩
      have hSw7 : Below wc.heap.size wc w7 := hSw6.trans (hbw7.mono hSw6.size)
      refine hK _ _ (fun _ => hSw7) ?_
      clear hK K
      try simp only [List.getElem_toArray, List.getElem_cons_zero, List.getElem_cons_succ, Act.put, List.setIfInBounds_toArray, List.set_cons_zero, List.set_cons_succ]
      refine AnyT.ready (rs := [25]) (by kernel_rfl) (by simp) (ReadyT.cons rfl (fun K hK => ?_) ReadyT.nil)
      go_simp
      have hS8 : Below wc.heap.size wc (w7.alloc (.cells #[.int .i64 p1, .int .i64 p2, .int .i64 q1, .int .i64 q2, .int .i64 r1', .int .i64 r2'] 31)) := hSw7.alloc hSw7.size _
      refine hK _ _ (fun _ => hS8) ?_
      clear hK K
      try simp only [List.getElem_toArray, List.getElem_cons_zero, List.getElem_cons_succ, Act.put, List.setIfInBounds_toArray, List.set_cons_zero, List.set_cons_succ]
      refine AnyT.ready (rs := [26]) (by kernel_rfl) (by simp) (ReadyT.cons rfl (fun K hK => ?_) ReadyT.nil)
      go_simp
      refine ⟨trivial, (callsIn_wide.2 (HOr.out _ _ (heap_new _ rfl))).mono ?_⟩
      rintro e w9 ⟨rfl, hb9⟩
      have hS9 : Below wc.heap.size wc w9 := hS8.trans (hb9.mono hS8.size)
      refine hK _ _ (fun _ => hS9) ?_
      clear hK K
      try simp only [List.getElem_toArray, List.getElem_cons_zero, List.getElem_cons_succ, Act.put, List.setIfInBounds_toArray, List.set_cons_zero, List.set_cons_succ]
      refine AnyT.ready (rs := [27]) (by kernel_rfl) (by simp) (ReadyT.cons rfl (fun K hK => ?_) ReadyT.nil)
      have c0 := r0 w9 hS9
      have c1 := r1 w9 hS9
      have t0 := s0 w9 hS9
      have t1 := s1 w9 hS9
      have hx := heap_set (heap_set (HRs.out w9 hS9) 0 (.int .i64 R1)) 1 (.int .i64 R2)
      have hy : Below A w ((w9.setCell ⟨A + 1, 0, none⟩ (.int .i64 R1)).setCell ⟨A + 1, 1, none⟩ (.int .i64 R2)) := ((HBc.out.trans (hS9.mono (by have := H.out.below.size; omega))).setCell (p := ⟨A + 1, 0, none⟩) (by show A ≤ A + 1; omega) _).setCell (p := ⟨A + 1, 1, none⟩) (by show A ≤ A + 1; omega) _
      go_simp
      refine hK _ _ (fun h => by simp at h) ?_
      clear hK K
      try simp only [List.getElem_toArray, List.getElem_cons_zero, List.getElem_cons_succ, Act.put, List.setIfInBounds_toArray, List.set_cons_zero, List.set_cons_succ]
      have HX := Lib.hid hx
      have HY := Lib.hid hy
      clear hx hy c0 c1 t0 t1 r0 r1 s0 s1
      refine AnyT.done (by kernel_rfl) (noPan_normal ?_) _
      go_wp2
      refine bodyPost_ret (flt_ret rfl HX.out rfl) rfl ?_
      exact ⟨rfl, by rw [HA.out]; exact HY.out⟩
end Go.Proofs.Ytgnlehenbdcgmaa.Md
