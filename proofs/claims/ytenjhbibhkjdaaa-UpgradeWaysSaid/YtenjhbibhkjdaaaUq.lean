/- Upgrade: walk of UpgradeWays. -/
import Derived.Test.YtenjhbibhkjdaaaUp
import Derived.Test.YtenjhbibhkjdaaaMdT
set_option linter.unusedVariables false
set_option linter.unusedSectionVars false
set_option linter.unusedSimpArgs false
namespace Go.Proofs.Ytenjhbibhkjdaaa.Md
open Go.RowKit Go.Shelf

theorem waysL_all : ∀ L : List ModelM, waysL (L.map (fun y => (y, 0, 0))) = L
  | [] => rfl
  | m :: L => by
    have := waysL_all L
    simp only [List.map_cons, waysL, if_true, this]
theorem latR_all : ∀ (L : List ModelM) (z : ModelM), latR (L.map (fun y => (y, 0, 0))) z = ((z :: L).getLast (by simp), 0, 0)
  | [], z => rfl
  | m :: L, z => by
    have := latR_all L m
    simp only [List.map_cons, latR, if_true, this]
    rfl
theorem up_small {m : ModelM} (h : Right m) (hv : m.ver < 3) (hd : m.ver = 1 → ∀ l ∈ m.links, l.delay ≤ 1073741824) : (upR m).2.1 = 0 := by
  have h1 := h.ver
  unfold upR
  split
  · rename_i e
    unfold delR
    rw [if_pos]
    exact (fErr_zero _ _ _).2 fun i l hi => by
      have := hd e l (List.mem_of_getElem? hi)
      rw [if_neg (by omega)]
  · rw [if_pos (by omega)]
/-- What the ways of a right model with small delays are. -/
theorem ups_small : ∀ (n : Nat) (m : ModelM), Right m → 3 ≤ m.ver + n → (m.ver = 1 → ∀ l ∈ m.links, l.delay ≤ 1073741824) → ∃ L : List ModelM, upsD n m (0, 0) = L.map (fun y => (y, 0, 0)) ∧ (L.length : Int) = 4 - m.ver ∧ (∀ (k : Nat) (y : ModelM), L[k]? = some y → y.ver = m.ver + (k : Int) ∧ Right y) ∧ L[0]? = some m
  | 0, m, h, hn, hd => by
    have hv : m.ver = 3 := by have := h.ver; omega
    exact ⟨[m], rfl, by rw [hv]; rfl, fun k y hk => by
      cases k with
      | zero => cases hk; exact ⟨by simp, h⟩
      | succ k => simp at hk, rfl⟩
  | n + 1, m, h, hn, hd => by
    by_cases hv : m.ver < 3
    · have h0 := up_small h hv hd
      obtain ⟨h1, h2, h3⟩ := right_up h h0
      obtain ⟨L, e1, e2, e3, e4⟩ := ups_small n (upR m).1 h1 (by omega) (fun e => by have := h.ver; omega)
      refine ⟨m :: L, ?_, by simp; omega, fun k y hk => ?_, rfl⟩
      · rw [upsD_go ⟨rfl, hv⟩, h3, e1]
        rfl
      · cases k with
        | zero => cases hk; exact ⟨by simp, h⟩
        | succ k =>
          have := e3 k y (by simpa using hk)
          exact ⟨by rw [this.1, h2]; simp; omega, this.2⟩
    · have hv : m.ver = 3 := by have := h.ver; omega
      refine ⟨[m], by rw [upsD_stop (fun e => by have := e.2; omega)]; rfl, by rw [hv]; rfl, fun k y hk => ?_, rfl⟩
      cases k with
      | zero => cases hk; exact ⟨by simp, h⟩
      | succ k => simp at hk
theorem ways_small {m : ModelM} (h : Right m) (hd : ∀ l ∈ m.links, l.delay ≤ 1073741824) : ((waysD m).length : Int) = 4 - m.ver ∧ (∀ (k : Nat) (y : ModelM), (waysD m)[k]? = some y → y.ver = m.ver + (k : Int) ∧ mdE y = (0, 0)) ∧ (waysD m)[0]? = some m ∧ ∃ last, (waysD m)[(waysD m).length - 1]? = some last ∧ LatR m = (last, 0, 0) := by
  obtain ⟨L, e1, e2, e3, e4⟩ := ups_small 3 m h (by have := h.ver; omega) (fun _ => hd)
  have hw : waysD m = L := by unfold waysD; rw [right_zero h, e1, waysL_all]
  have hl : LatR m = ((zeroM :: L).getLast (by simp), 0, 0) := by unfold LatR; rw [right_zero h, e1, latR_all]
  rw [hw, hl]
  refine ⟨e2, fun k y hk => ⟨(e3 k y hk).1, right_zero (e3 k y hk).2⟩, e4, _, ?_, rfl⟩
  cases L with
  | nil => simp at e4
  | cons a t =>
    rw [List.getLast_cons (by simp), List.getLast_eq_getElem]
    exact List.getElem?_eq_getElem _
theorem few_sized {m : ModelM} (h : fewB m = true) : Sized m := by
  unfold fewB at h
  simp only [Bool.and_eq_true, decide_eq_true_eq, List.all_eq_true] at h
  obtain ⟨⟨⟨⟨h1, h2⟩, h3⟩, h4⟩, _⟩ := h
  exact ⟨by omega, by omega, by omega, fun p hp => by
    have := h4 p hp
    unfold fewP at this
    simp only [Bool.and_eq_true, decide_eq_true_eq] at this
    omega⟩
/-- Between two of the walk's calls. -/
structure Kw (x : ModelV) (w W : World) : Prop where
  at_ : ModelAt W.heap.size W x
  box : W.heap[w.heap.size]? = some (.cells #[.int .i64 x.ver, .slice x.pa x.procs.length x.pc, .slice x.la x.links.length x.lc, .slice x.ea x.events.length x.ec] 26 (0, 0))
  low : Below w.heap.size w W
theorem Kw.on {x : ModelV} {w W W' : World} (h : Kw x w W) (hb : Below W.heap.size W W') : Kw x w W' :=
  ⟨h.at_.on hb, heap_below h.box hb (heap_lt h.box), h.low.trans (hb.mono h.low.size)⟩
theorem rsame_t {w : World} {x y : ModelV} (hx : ModelAt w.heap.size w x) (hy : ModelAt w.heap.size w y) (h : x.m = y.m) : Calls Try.prog 32 #[.agg #[.int .i64 x.ver, .slice x.pa x.procs.length x.pc, .slice x.la x.links.length x.lc, .slice x.ea x.events.length x.ec], .agg #[.int .i64 y.ver, .slice y.pa y.procs.length y.pc, .slice y.la y.links.length y.lc, .slice y.ea y.events.length y.ec]] w fun e w' => e = .returned (.bool true) ∧ Below w.heap.size w w' :=
  (rsame_any hx hy).mono (by
    rintro e w' ⟨hb, b, rfl, hi⟩
    exact ⟨by rw [hi.2 h], hb⟩)
structure Kx (x : ModelV) (w : World) (L : List ModelV) (a : Option Addr) (g : Nat) (z : ModelV) (B6 : Nat) (W : World) : Prop where
  kw : Kw x w W
  rows : RowsAt encM fitM 4 W.heap.size W a g 0 L.length L
  mods : ∀ y ∈ L, ModelAt W.heap.size W y
  zat : ModelAt W.heap.size W z
  zbox : W.heap[B6]? = some (.cells #[.int .i64 z.ver, .slice z.pa z.procs.length z.pc, .slice z.la z.links.length z.lc, .slice z.ea z.events.length z.ec] 26 (0, 0))
theorem Kx.on {x : ModelV} {w W W' : World} {L : List ModelV} {a : Option Addr} {g : Nat} {z : ModelV} {B6 : Nat} (h : Kx x w L a g z B6 W) (hb : Below W.heap.size W W') : Kx x w L a g z B6 W' :=
  ⟨h.kw.on hb, h.rows.on hb, fun y hy => (h.mods y hy).on hb, h.zat.on hb, heap_below h.zbox hb (heap_lt h.zbox)⟩
theorem list_facts {x : ModelV} {L : List ModelV} (h : Right x.m) (hd : ∀ l ∈ x.links, l.delay ≤ 1073741824) (hD : L.map ModelV.m = (waysD x.m).take (9 : Int).toNat) : (L.length : Int) = 4 - x.ver ∧ (∀ (k : Nat) (y : ModelV), L[k]? = some y → y.ver = x.ver + (k : Int) ∧ mdE y.m = (0, 0)) ∧ (∃ y, L[0]? = some y ∧ y.m = x.m) ∧ ∃ y, L[L.length - 1]? = some y ∧ LatR x.m = (y.m, 0, 0) := by
  have hl := waysD_len x.m
  rw [List.take_of_length_le (by show _ ≤ 9; omega)] at hD
  obtain ⟨h1, h2, h3, last, h4, h5⟩ := ways_small h hd
  have hn : L.length = (waysD x.m).length := by rw [← hD, List.length_map]
  refine ⟨by rw [hn]; exact h1, fun k y hk => h2 k y.m (by rw [← hD, List.getElem?_map, hk]; rfl), ?_, ?_⟩
  · rw [← hD, List.getElem?_map] at h3
    cases hy : L[0]? with
    | none => rw [hy] at h3; cases h3
    | some y => rw [hy] at h3; exact ⟨y, rfl, by simpa using h3⟩
  · rw [← hn, ← hD, List.getElem?_map] at h4
    cases hy : L[L.length - 1]? with
    | none => rw [hy] at h4; cases h4
    | some y =>
      rw [hy] at h4
      have e : y.m = last := by simpa using h4
      exact ⟨y, rfl, by rw [h5, e]⟩
set_option maxRecDepth 100000 in
set_option maxHeartbeats 8000000 in
theorem walk_UpgradeWays (x : ModelV) (w : World) (h : ModelAt w.heap.size w x) (hw : (Lit.int .i64 x.ver).wf = true) : Calls Try.prog 11 #[.agg #[.int .i64 x.ver, .slice x.pa x.procs.length x.pc, .slice x.la x.links.length x.lc, .slice x.ea x.events.length x.ec]] w fun e w' => e = .returned (.bool true) ∧ Below w.heap.size w w' := by
  have HK : Hid (Kw x w (w.alloc (.cells #[.int .i64 x.ver, .slice x.pa x.procs.length x.pc, .slice x.la x.links.length x.lc, .slice x.ea x.events.length x.ec] 26))) := Lib.hid ⟨h.on (below_one w _), heap_new _ rfl, below_one w _⟩
  clear h hw
  go_enter Try.func11, Try.ntmps11
  go_wp2_with fail
  generalize w.alloc (.cells #[.int .i64 x.ver, .slice x.pa x.procs.length x.pc, .slice x.la x.links.length x.lc, .slice x.ea x.events.length x.ec] 26) = w1 at *
  refine (ualive_any w1).mono ?_
  rintro e w2 ⟨rfl, hb⟩
  replace HK := Lib.hid (HK.out.on hb)
  clear hb
  have a0 : w2.cell? ⟨w.heap.size, 0, none⟩ = some (.int .i64 x.ver) := heap_cell HK.out.box rfl
  have a1 : w2.cell? ⟨w.heap.size, 1, none⟩ = some (.slice x.pa x.procs.length x.pc) := heap_cell HK.out.box rfl
  have a2 : w2.cell? ⟨w.heap.size, 2, none⟩ = some (.slice x.la x.links.length x.lc) := heap_cell HK.out.box rfl
  have a3 : w2.cell? ⟨w.heap.size, 3, none⟩ = some (.slice x.ea x.events.length x.ec) := heap_cell HK.out.box rfl
  go_wp2_with fail
  refine (few_any HK.out.at_).mono ?_
  rintro e w3 ⟨rfl, hb⟩
  replace HK := Lib.hid (HK.out.on hb)
  clear hb a0 a1 a2 a3
  cases hf : fewB x.m with
  | false =>
    clear hf
    go_wp2
    go_ret
    exact ⟨rfl, HK.out.low⟩
  | true =>
  have HSz := Lib.hid (few_sized hf)
  clear hf
  have a0 : w3.cell? ⟨w.heap.size, 0, none⟩ = some (.int .i64 x.ver) := heap_cell HK.out.box rfl
  have a1 : w3.cell? ⟨w.heap.size, 1, none⟩ = some (.slice x.pa x.procs.length x.pc) := heap_cell HK.out.box rfl
  have a2 : w3.cell? ⟨w.heap.size, 2, none⟩ = some (.slice x.la x.links.length x.lc) := heap_cell HK.out.box rfl
  have a3 : w3.cell? ⟨w.heap.size, 3, none⟩ = some (.slice x.ea x.events.length x.ec) := heap_cell HK.out.box rfl
  go_wp2_with fail
  refine (check_any HK.out.at_).mono ?_
  rintro e w4 ⟨rfl, hb⟩
  replace HK := Lib.hid (HK.out.on hb)
  clear hb a0 a1 a2 a3
  obtain ⟨e1, he1⟩ : ∃ e1, (mdE x.m).1 = e1 := ⟨_, rfl⟩
  obtain ⟨e2, he2⟩ : ∃ e2, (mdE x.m).2 = e2 := ⟨_, rfl⟩
  rw [he1, he2]
  have hfd := field0 e1 e2
  by_cases h0 : e1 = 0
  case neg =>
    have h0b : (e1 != 0) = true := by simpa using h0
    clear he1 he2 h0
    go_wp2
    go_ret
    exact ⟨rfl, HK.out.low⟩
  subst h0
  have HR := Lib.hid (right_of he1)
  clear he1 he2
  have a0 : w4.cell? ⟨w.heap.size, 0, none⟩ = some (.int .i64 x.ver) := heap_cell HK.out.box rfl
  have a1 : w4.cell? ⟨w.heap.size, 1, none⟩ = some (.slice x.pa x.procs.length x.pc) := heap_cell HK.out.box rfl
  have a2 : w4.cell? ⟨w.heap.size, 2, none⟩ = some (.slice x.la x.links.length x.lc) := heap_cell HK.out.box rfl
  have a3 : w4.cell? ⟨w.heap.size, 3, none⟩ = some (.slice x.ea x.events.length x.ec) := heap_cell HK.out.box rfl
  go_wp2
  clear a0 a1 a2 a3 hfd
  obtain ⟨la, hla⟩ : ∃ la, x.la = la := ⟨_, rfl⟩
  rw [hla]
  have HLA := Lib.hid hla
  clear hla
  have hsm : (x.links.length : Int) ≤ 9223372036854775807 := by have := HK.out.at_.links.small; unfold maxLen at this; omega
  go_loopw [24] (fun i wr => ∃ k : Nat, i = .int .i64 (k : Int) ∧ k ≤ x.links.length ∧ Hid (Kw x w wr) ∧ Hid (∀ j l, j < k → x.links[j]? = some l → l.delay ≤ 1073741824)) (fun i _ => x.links.length - (intOf i).toNat)
  case atStart => exact ⟨0, rfl, Nat.zero_le _, HK, Lib.hid (fun j l hj => by omega)⟩
  case round =>
  clear HK
  obtain ⟨k, rfl, hk, HK, HE⟩ := hrel
  have hk0 : (0 : Int) ≤ (k : Int) := Int.natCast_nonneg k
  by_cases hlt : k < x.links.length
  · have hki : (k : Int) < (x.links.length : Int) := by omega
    obtain ⟨l, hl⟩ : ∃ l, x.links[k]? = some l := ⟨_, List.getElem?_eq_getElem hlt⟩
    have ha : la = some ⟨x.lb, x.lo, none⟩ := HLA.out.symm.trans (HK.out.at_.links.addr.resolve_left (by omega))
    subst ha
    have r0 : wr.cell? ⟨x.lb, x.lo + k * 5, none⟩ = some (.string l.name) := HK.out.at_.links.cell k l hl 0 _ rfl
    have r1 : wr.cell? ⟨x.lb, x.lo + k * 5 + 1, none⟩ = some (.string l.frm) := HK.out.at_.links.cell k l hl 1 _ rfl
    have r2 : wr.cell? ⟨x.lb, x.lo + k * 5 + 2, none⟩ = some (.string l.to_) := HK.out.at_.links.cell k l hl 2 _ rfl
    have r3 : wr.cell? ⟨x.lb, x.lo + k * 5 + 3, none⟩ = some (.int .i64 l.delay) := HK.out.at_.links.cell k l hl 3 _ rfl
    have r4 : wr.cell? ⟨x.lb, x.lo + k * 5 + 4, none⟩ = some (.int .i64 l.weight) := HK.out.at_.links.cell k l hl 4 _ rfl
    have HL := Lib.hid hl
    have HK2 : Hid (Kw x w (wr.alloc (.cells #[.string l.name, .string l.frm, .string l.to_, .int .i64 l.delay, .int .i64 l.weight] 50))) := Lib.hid (HK.out.on (below_one _ _))
    clear hl
    by_cases hd : 1073741824 < l.delay
    · have hdb : decide ((1073741824 : Int) < l.delay) = true := by simpa using hd
      go_wp2
      go_ret
      exact ⟨rfl, HK2.out.low⟩
    · have hdb : decide ((1073741824 : Int) < l.delay) = false := by simpa using hd
      have HE2 : Hid (∀ j l, j < k + 1 → x.links[j]? = some l → l.delay ≤ 1073741824) := Lib.hid (fun j u hj hu => by
        by_cases e : j = k
        · subst e
          rw [HL.out] at hu
          cases hu
          omega
        · exact HE.out j u (by omega) hu)
      go_wp2
      go_roundw
      case rel => exact ⟨k + 1, by go_num, by omega, HK2, HE2⟩
      case measure => simp [intOf]; omega
  · obtain rfl : k = x.links.length := by omega
    have HFa : Hid (∀ L : List ModelV, L.map ModelV.m = (waysD x.m).take (9 : Int).toNat → _) := Lib.hid (fun L hD => list_facts HR.out (fun l hl => by obtain ⟨i, hi⟩ := List.getElem?_of_mem hl; exact HE.out i l (List.getElem?_eq_some_iff.1 hi).1 hi) hD)
    have HVr := Lib.hid HR.out.ver
    clear HE
    have a0 : wr.cell? ⟨w.heap.size, 0, none⟩ = some (.int .i64 x.ver) := heap_cell HK.out.box rfl
    have a1 : wr.cell? ⟨w.heap.size, 1, none⟩ = some (.slice x.pa x.procs.length x.pc) := heap_cell HK.out.box rfl
    have a2 : wr.cell? ⟨w.heap.size, 2, none⟩ = some (.slice x.la x.links.length x.lc) := heap_cell HK.out.box rfl
    have a3 : wr.cell? ⟨w.heap.size, 3, none⟩ = some (.slice x.ea x.events.length x.ec) := heap_cell HK.out.box rfl
    go_wp2_with fail
    clear a0 a1 a2 a3
    refine (lways_any HK.out.at_ HSz.out 9).mono ?_
    rintro e w6 ⟨L, a, c, g, rfl, hrow, hats, hD, hb⟩
    obtain ⟨f1, f2, f3, z0, f4, f5⟩ := HFa.out L hD
    replace HK := Lib.hid (HK.out.on hb)
    have HF1 := Lib.hid f1
    have HF2 := Lib.hid f2
    have HF3 := Lib.hid f3
    have HF4 := Lib.hid f4
    have HC := latest_any HK.out.at_ HSz.out
    rw [f5] at HC
    have HRw := Lib.hid hrow
    have HAts := Lib.hid hats
    have HC := Lib.hid HC
    clear hrow hats hD hb f1 f2 f3 f4 f5 HFa
    have a0 : w6.cell? ⟨w.heap.size, 0, none⟩ = some (.int .i64 x.ver) := heap_cell HK.out.box rfl
    have a1 : w6.cell? ⟨w.heap.size, 1, none⟩ = some (.slice x.pa x.procs.length x.pc) := heap_cell HK.out.box rfl
    have a2 : w6.cell? ⟨w.heap.size, 2, none⟩ = some (.slice x.la x.links.length x.lc) := heap_cell HK.out.box rfl
    have a3 : w6.cell? ⟨w.heap.size, 3, none⟩ = some (.slice x.ea x.events.length x.ec) := heap_cell HK.out.box rfl
    go_wp2_with fail
    clear a0 a1 a2 a3
    refine HC.out.mono ?_
    clear HC
    rintro e w7 ⟨z, rfl, hz, hoz, hb⟩
    have HZ0 := Lib.hid hz
    replace HK := Lib.hid (HK.out.on hb)
    replace HRw := Lib.hid (HRw.out.on hb)
    replace HAts : Hid (∀ y ∈ L, ModelAt w7.heap.size w7 y) := Lib.hid (fun y hy => (HAts.out y hy).1.on hb)
    have HZt := Lib.hid hoz.at_
    clear hz hoz hb
    go_upto_region 13 with fail
    have hbx : Below w7.heap.size w7 ((w7.alloc (.cells #[.int .i64 z.ver, .slice z.pa z.procs.length z.pc, .slice z.la z.links.length z.lc, .slice z.ea z.events.length z.ec] 26)).alloc (.cells #[.int .i64 0, .int .i64 0] 33)) := ((Below.refl _ w7).alloc (Nat.le_refl _) _).alloc (by simp) _
    have hm1 : ((w7.alloc (.cells #[.int .i64 z.ver, .slice z.pa z.procs.length z.pc, .slice z.la z.links.length z.lc, .slice z.ea z.events.length z.ec] 26)).alloc (.cells #[.int .i64 0, .int .i64 0] 33)).heap[w7.heap.size]? = some (.cells #[.int .i64 z.ver, .slice z.pa z.procs.length z.pc, .slice z.la z.links.length z.lc, .slice z.ea z.events.length z.ec] 26 (0, 0)) := heap_alloc (heap_new _ rfl) _
    have hf1 : ((w7.alloc (.cells #[.int .i64 z.ver, .slice z.pa z.procs.length z.pc, .slice z.la z.links.length z.lc, .slice z.ea z.events.length z.ec] 26)).alloc (.cells #[.int .i64 0, .int .i64 0] 33)).heap[w7.heap.size + 1]? = some (.cells #[.int .i64 0, .int .i64 0] 33 (0, 0)) := heap_new _ (by simp)
    have HX : Hid (Kx x w L a g z w7.heap.size ((w7.alloc (.cells #[.int .i64 z.ver, .slice z.pa z.procs.length z.pc, .slice z.la z.links.length z.lc, .slice z.ea z.events.length z.ec] 26)).alloc (.cells #[.int .i64 0, .int .i64 0] 33))) := Lib.hid ⟨HK.out.on hbx, HRw.out.on hbx, fun y hy => (HAts.out y hy).on hbx, HZt.out.on hbx, hm1⟩
    have HFl := Lib.hid hf1
    clear hbx hm1 hf1 HK HRw HAts HZt
    generalize ((w7.alloc (.cells #[.int .i64 z.ver, .slice z.pa z.procs.length z.pc, .slice z.la z.links.length z.lc, .slice z.ea z.events.length z.ec] 26)).alloc (.cells #[.int .i64 0, .int .i64 0] 33)) = w8 at *
    generalize w7.heap.size = B6 at *
    have a0 : w8.cell? ⟨w.heap.size, 0, none⟩ = some (.int .i64 x.ver) := heap_cell HX.out.kw.box rfl
    have a1 : w8.cell? ⟨w.heap.size, 1, none⟩ = some (.slice x.pa x.procs.length x.pc) := heap_cell HX.out.kw.box rfl
    have a2 : w8.cell? ⟨w.heap.size, 2, none⟩ = some (.slice x.la x.links.length x.lc) := heap_cell HX.out.kw.box rfl
    have a3 : w8.cell? ⟨w.heap.size, 3, none⟩ = some (.slice x.ea x.events.length x.ec) := heap_cell HX.out.kw.box rfl
    have b0 : w8.cell? ⟨B6 + 1, 0, none⟩ = some (.int .i64 0) := heap_cell HFl.out rfl
    have hv1 : 1 ≤ x.ver ∧ x.ver ≤ 3 := HVr.out
    have hlb : ((L.length : Int) != 4 - x.ver) = false := by have := HF1.out; simp; omega
    have hwr : IntKind.i64.wrap (4 - x.ver) = 4 - x.ver := by rw [IntKind.wrap_i64]; omega
    go_upto_region 16 with fail
    clear a0 a1 a2 a3 b0 hwr hlb hsm
    have hsm : (L.length : Int) ≤ 3 := by have := HF1.out; omega
    go_loopw [52] (fun i wr => ∃ k : Nat, i = .int .i64 (k : Int) ∧ k ≤ L.length ∧ Hid (Kx x w L a g z B6 wr)) (fun i _ => L.length - (intOf i).toNat)
    case atStart => exact ⟨0, rfl, Nat.zero_le _, HX⟩
    case round =>
    clear HX hk hk0 hlt
    obtain ⟨k, rfl, hk, HX⟩ := hrel
    have hk0 : (0 : Int) ≤ (k : Int) := Int.natCast_nonneg k
    by_cases hlt : k < L.length
    · have hki : (k : Int) < (L.length : Int) := by omega
      obtain ⟨y, hy⟩ : ∃ y, L[k]? = some y := ⟨_, List.getElem?_eq_getElem hlt⟩
      have ha : a = some ⟨g, 0, none⟩ := HX.out.rows.addr.resolve_left (by omega)
      subst ha
      have r0 : wr.cell? ⟨g, k * 4, none⟩ = some (.int .i64 y.ver) := by have := HX.out.rows.cell k y hy 0 _ rfl; simpa using this
      have r1 : wr.cell? ⟨g, k * 4 + 1, none⟩ = some (.slice y.pa y.procs.length y.pc) := by have := HX.out.rows.cell k y hy 1 _ rfl; simpa using this
      have r2 : wr.cell? ⟨g, k * 4 + 2, none⟩ = some (.slice y.la y.links.length y.lc) := by have := HX.out.rows.cell k y hy 2 _ rfl; simpa using this
      have r3 : wr.cell? ⟨g, k * 4 + 3, none⟩ = some (.slice y.ea y.events.length y.ec) := by have := HX.out.rows.cell k y hy 3 _ rfl; simpa using this
      have hl9 : w.heap.size < wr.heap.size := heap_lt HX.out.kw.box
      obtain ⟨hyv, hym⟩ := HF2.out k y hy
      have hveb : (y.ver != x.ver + (k : Int)) = false := by simp; omega
      have hwr2 : IntKind.i64.wrap (x.ver + (k : Int)) = x.ver + (k : Int) := by rw [IntKind.wrap_i64]; omega
      have a0 : wr.cell? ⟨w.heap.size, 0, none⟩ = some (.int .i64 x.ver) := heap_cell HX.out.kw.box rfl
      have a1 : wr.cell? ⟨w.heap.size, 1, none⟩ = some (.slice x.pa x.procs.length x.pc) := heap_cell HX.out.kw.box rfl
      have a2 : wr.cell? ⟨w.heap.size, 2, none⟩ = some (.slice x.la x.links.length x.lc) := heap_cell HX.out.kw.box rfl
      have a3 : wr.cell? ⟨w.heap.size, 3, none⟩ = some (.slice x.ea x.events.length x.ec) := heap_cell HX.out.kw.box rfl
      have HC := check_any ((HX.out.mods y (List.mem_of_getElem? hy)).on (below_one wr (.cells #[.int .i64 y.ver, .slice y.pa y.procs.length y.pc, .slice y.la y.links.length y.lc, .slice y.ea y.events.length y.ec] 26)))
      rw [hym] at HC
      have HC := Lib.hid HC
      have HX2 : Hid (Kx x w L (some ⟨g, 0, none⟩) g z B6 (wr.alloc (.cells #[.int .i64 y.ver, .slice y.pa y.procs.length y.pc, .slice y.la y.links.length y.lc, .slice y.ea y.events.length y.ec] 26))) := Lib.hid (HX.out.on (below_one _ _))
      clear hyv hym hy
      go_wp2_with fail
      refine HC.out.mono ?_
      clear HC
      rintro e w9 ⟨rfl, hb⟩
      replace HX2 := Lib.hid (HX2.out.on hb)
      have hfd2 := field0 0 0
      clear hb r0 r1 r2 r3 a0 a1 a2 a3 hveb hwr2 hl9
      go_wp2
      go_roundw
      case rel => exact ⟨k + 1, by go_num, by omega, HX2⟩
      case measure => simp [intOf]; omega
    · obtain rfl : k = L.length := by omega
      have ha : a = some ⟨g, 0, none⟩ := HX.out.rows.addr.resolve_left (by have := HF1.out; omega)
      subst ha
      obtain ⟨y0, hy0, hy0m⟩ := HF3.out
      have hz0 := HF4.out
      obtain ⟨n, hn⟩ : ∃ n, L.length = n + 1 := ⟨L.length - 1, by have := HF1.out; omega⟩
      rw [hn, Nat.add_sub_cancel] at hz0
      have HS1 : Hid (∀ W, Below wr.heap.size wr W → Calls Try.prog 32 #[.agg #[.int .i64 z0.ver, .slice z0.pa z0.procs.length z0.pc, .slice z0.la z0.links.length z0.lc, .slice z0.ea z0.events.length z0.ec], .agg #[.int .i64 z.ver, .slice z.pa z.procs.length z.pc, .slice z.la z.links.length z.lc, .slice z.ea z.events.length z.ec]] W fun e w' => e = .returned (.bool true) ∧ Below W.heap.size W w') := Lib.hid (fun W hW => rsame_t ((HX.out.mods z0 (List.mem_of_getElem? hz0)).on hW) (HX.out.zat.on hW) HZ0.out.symm)
      have HS2 : Hid (∀ W, Below wr.heap.size wr W → Calls Try.prog 32 #[.agg #[.int .i64 y0.ver, .slice y0.pa y0.procs.length y0.pc, .slice y0.la y0.links.length y0.lc, .slice y0.ea y0.events.length y0.ec], .agg #[.int .i64 x.ver, .slice x.pa x.procs.length x.pc, .slice x.la x.links.length x.lc, .slice x.ea x.events.length x.ec]] W fun e w' => e = .returned (.bool true) ∧ Below W.heap.size W w') := Lib.hid (fun W hW => rsame_t ((HX.out.mods y0 (List.mem_of_getElem? hy0)).on hW) (HX.out.kw.at_.on hW) hy0m)
      have hlA : w.heap.size < wr.heap.size := heap_lt HX.out.kw.box
      have hlB : B6 < wr.heap.size := heap_lt HX.out.zbox
      have hlR : g < wr.heap.size := HX.out.rows.below.resolve_left (by omega)
      have a0 : wr.cell? ⟨w.heap.size, 0, none⟩ = some (.int .i64 x.ver) := heap_cell HX.out.kw.box rfl
      have a1 : wr.cell? ⟨w.heap.size, 1, none⟩ = some (.slice x.pa x.procs.length x.pc) := heap_cell HX.out.kw.box rfl
      have a2 : wr.cell? ⟨w.heap.size, 2, none⟩ = some (.slice x.la x.links.length x.lc) := heap_cell HX.out.kw.box rfl
      have a3 : wr.cell? ⟨w.heap.size, 3, none⟩ = some (.slice x.ea x.events.length x.ec) := heap_cell HX.out.kw.box rfl
      have b0 : wr.cell? ⟨B6, 0, none⟩ = some (.int .i64 z.ver) := heap_cell HX.out.zbox rfl
      have b1 : wr.cell? ⟨B6, 1, none⟩ = some (.slice z.pa z.procs.length z.pc) := heap_cell HX.out.zbox rfl
      have b2 : wr.cell? ⟨B6, 2, none⟩ = some (.slice z.la z.links.length z.lc) := heap_cell HX.out.zbox rfl
      have b3 : wr.cell? ⟨B6, 3, none⟩ = some (.slice z.ea z.events.length z.ec) := heap_cell HX.out.zbox rfl
      have r0 : wr.cell? ⟨g, n * 4, none⟩ = some (.int .i64 z0.ver) := by have := HX.out.rows.cell n z0 hz0 0 _ rfl; simpa using this
      have r1 : wr.cell? ⟨g, n * 4 + 1, none⟩ = some (.slice z0.pa z0.procs.length z0.pc) := by have := HX.out.rows.cell n z0 hz0 1 _ rfl; simpa using this
      have r2 : wr.cell? ⟨g, n * 4 + 2, none⟩ = some (.slice z0.la z0.links.length z0.lc) := by have := HX.out.rows.cell n z0 hz0 2 _ rfl; simpa using this
      have r3 : wr.cell? ⟨g, n * 4 + 3, none⟩ = some (.slice z0.ea z0.events.length z0.ec) := by have := HX.out.rows.cell n z0 hz0 3 _ rfl; simpa using this
      have s0 : wr.cell? ⟨g, 0, none⟩ = some (.int .i64 y0.ver) := by have := HX.out.rows.cell 0 y0 hy0 0 _ rfl; simpa using this
      have s1 : wr.cell? ⟨g, 1, none⟩ = some (.slice y0.pa y0.procs.length y0.pc) := by have := HX.out.rows.cell 0 y0 hy0 1 _ rfl; simpa using this
      have s2 : wr.cell? ⟨g, 2, none⟩ = some (.slice y0.la y0.links.length y0.lc) := by have := HX.out.rows.cell 0 y0 hy0 2 _ rfl; simpa using this
      have s3 : wr.cell? ⟨g, 3, none⟩ = some (.slice y0.ea y0.events.length y0.ec) := by have := HX.out.rows.cell 0 y0 hy0 3 _ rfl; simpa using this
      have da0 : ∀ W, Below wr.heap.size wr W → W.cell? ⟨w.heap.size, 0, none⟩ = some (.int .i64 x.ver) := fun W hW => by rw [hW.cell (by first | exact hlA | exact hlB | exact hlR)]; assumption
      have da1 : ∀ W, Below wr.heap.size wr W → W.cell? ⟨w.heap.size, 1, none⟩ = some (.slice x.pa x.procs.length x.pc) := fun W hW => by rw [hW.cell (by first | exact hlA | exact hlB | exact hlR)]; assumption
      have da2 : ∀ W, Below wr.heap.size wr W → W.cell? ⟨w.heap.size, 2, none⟩ = some (.slice x.la x.links.length x.lc) := fun W hW => by rw [hW.cell (by first | exact hlA | exact hlB | exact hlR)]; assumption
      have da3 : ∀ W, Below wr.heap.size wr W → W.cell? ⟨w.heap.size, 3, none⟩ = some (.slice x.ea x.events.length x.ec) := fun W hW => by rw [hW.cell (by first | exact hlA | exact hlB | exact hlR)]; assumption
      have db0 : ∀ W, Below wr.heap.size wr W → W.cell? ⟨B6, 0, none⟩ = some (.int .i64 z.ver) := fun W hW => by rw [hW.cell (by first | exact hlA | exact hlB | exact hlR)]; assumption
      have db1 : ∀ W, Below wr.heap.size wr W → W.cell? ⟨B6, 1, none⟩ = some (.slice z.pa z.procs.length z.pc) := fun W hW => by rw [hW.cell (by first | exact hlA | exact hlB | exact hlR)]; assumption
      have db2 : ∀ W, Below wr.heap.size wr W → W.cell? ⟨B6, 2, none⟩ = some (.slice z.la z.links.length z.lc) := fun W hW => by rw [hW.cell (by first | exact hlA | exact hlB | exact hlR)]; assumption
      have db3 : ∀ W, Below wr.heap.size wr W → W.cell? ⟨B6, 3, none⟩ = some (.slice z.ea z.events.length z.ec) := fun W hW => by rw [hW.cell (by first | exact hlA | exact hlB | exact hlR)]; assumption
      have dr0 : ∀ W, Below wr.heap.size wr W → W.cell? ⟨g, n * 4, none⟩ = some (.int .i64 z0.ver) := fun W hW => by rw [hW.cell (by first | exact hlA | exact hlB | exact hlR)]; assumption
      have dr1 : ∀ W, Below wr.heap.size wr W → W.cell? ⟨g, n * 4 + 1, none⟩ = some (.slice z0.pa z0.procs.length z0.pc) := fun W hW => by rw [hW.cell (by first | exact hlA | exact hlB | exact hlR)]; assumption
      have dr2 : ∀ W, Below wr.heap.size wr W → W.cell? ⟨g, n * 4 + 2, none⟩ = some (.slice z0.la z0.links.length z0.lc) := fun W hW => by rw [hW.cell (by first | exact hlA | exact hlB | exact hlR)]; assumption
      have dr3 : ∀ W, Below wr.heap.size wr W → W.cell? ⟨g, n * 4 + 3, none⟩ = some (.slice z0.ea z0.events.length z0.ec) := fun W hW => by rw [hW.cell (by first | exact hlA | exact hlB | exact hlR)]; assumption
      have ds0 : ∀ W, Below wr.heap.size wr W → W.cell? ⟨g, 0, none⟩ = some (.int .i64 y0.ver) := fun W hW => by rw [hW.cell (by first | exact hlA | exact hlB | exact hlR)]; assumption
      have ds1 : ∀ W, Below wr.heap.size wr W → W.cell? ⟨g, 1, none⟩ = some (.slice y0.pa y0.procs.length y0.pc) := fun W hW => by rw [hW.cell (by first | exact hlA | exact hlB | exact hlR)]; assumption
      have ds2 : ∀ W, Below wr.heap.size wr W → W.cell? ⟨g, 2, none⟩ = some (.slice y0.la y0.links.length y0.lc) := fun W hW => by rw [hW.cell (by first | exact hlA | exact hlB | exact hlR)]; assumption
      have ds3 : ∀ W, Below wr.heap.size wr W → W.cell? ⟨g, 3, none⟩ = some (.slice y0.ea y0.events.length y0.ec) := fun W hW => by rw [hW.cell (by first | exact hlA | exact hlB | exact hlR)]; assumption
      have HLow := Lib.hid HX.out.kw.low
      have hn3 : n = 0 ∨ n = 1 ∨ n = 2 := by omega
      rw [hn] at hsm ⊢
      clear a0 a1 a2 a3 b0 b1 b2 b3 r0 r1 r2 r3 s0 s1 s2 s3 hy0m HX hn hk hk0 hlt hsm
      rcases hn3 with rfl | rfl | rfl
      case inl =>
        obtain rfl : z0 = y0 := by have := hz0.symm.trans hy0; cases this; rfl
        clear hy0 hz0 ds0 ds1 ds2 ds3
        simp only [Nat.reduceMul, Nat.reduceAdd, Nat.zero_mul, Nat.zero_add] at dr0 dr1 dr2 dr3 ⊢
        have hwr3 : IntKind.i64.wrap 0 = 0 := by decide
        have hix1 : (0 : Int) < ((1 : Nat) : Int) := by decide
        have hix2 : (0 : Int) < 1 := by decide
        have hix3 : (0 : Int) ≤ 0 := by decide
        go_wp2_with fail
        go_region_held3 (fun W => Below wr.heap.size wr W) (first | assumption | exact Below.refl _ _ | exact (Below.refl _ _).drew | exact Below.drew (by assumption)) (first
          | (go_at_call 32; with_reducible refine (HS1.out _ (by assumption)).mono ?_; rintro e w5 ⟨rfl, hb⟩; have hS5 : Below wr.heap.size wr w5 := Below.trans (show Below wr.heap.size wr _ by assumption) (hb.mono (show Below wr.heap.size wr _ by assumption).size); clear hb)
          | (go_at_call 32; with_reducible refine (HS2.out _ (by assumption)).mono ?_; rintro e w6 ⟨rfl, hb⟩; have hS6 : Below wr.heap.size wr w6 := Below.trans (show Below wr.heap.size wr _ by assumption) (hb.mono (show Below wr.heap.size wr _ by assumption).size); clear hb))
        clear da0 da1 da2 da3 db0 db1 db2 db3 dr0 dr1 dr2 dr3
        have HEn : Hid (Below wr.heap.size wr w6) := Lib.hid hS6
        clear hS5 hS6
        go_wp2
        go_ret
        exact ⟨rfl, HLow.out.trans (HEn.out.mono HLow.out.size)⟩
      case inr.inl =>
        clear hy0 hz0
        simp only [Nat.reduceMul, Nat.reduceAdd, Nat.zero_mul, Nat.zero_add] at dr0 dr1 dr2 dr3 ⊢
        have hwr3 : IntKind.i64.wrap 1 = 1 := by decide
        have hix1 : (1 : Int) < ((2 : Nat) : Int) := by decide
        have hix2 : (1 : Int) < 2 := by decide
        have hix3 : (0 : Int) ≤ 1 := by decide
        go_wp2_with fail
        go_region_held3 (fun W => Below wr.heap.size wr W) (first | assumption | exact Below.refl _ _ | exact (Below.refl _ _).drew | exact Below.drew (by assumption)) (first
          | (go_at_call 32; with_reducible refine (HS1.out _ (by assumption)).mono ?_; rintro e w5 ⟨rfl, hb⟩; have hS5 : Below wr.heap.size wr w5 := Below.trans (show Below wr.heap.size wr _ by assumption) (hb.mono (show Below wr.heap.size wr _ by assumption).size); clear hb)
          | (go_at_call 32; with_reducible refine (HS2.out _ (by assumption)).mono ?_; rintro e w6 ⟨rfl, hb⟩; have hS6 : Below wr.heap.size wr w6 := Below.trans (show Below wr.heap.size wr _ by assumption) (hb.mono (show Below wr.heap.size wr _ by assumption).size); clear hb))
        clear da0 da1 da2 da3 db0 db1 db2 db3 dr0 dr1 dr2 dr3
        have HEn : Hid (Below wr.heap.size wr w6) := Lib.hid hS6
        clear hS5 hS6
        go_wp2
        go_ret
        exact ⟨rfl, HLow.out.trans (HEn.out.mono HLow.out.size)⟩
      case inr.inr =>
        clear hy0 hz0
        simp only [Nat.reduceMul, Nat.reduceAdd, Nat.zero_mul, Nat.zero_add] at dr0 dr1 dr2 dr3 ⊢
        have hwr3 : IntKind.i64.wrap 2 = 2 := by decide
        have hix1 : (2 : Int) < ((3 : Nat) : Int) := by decide
        have hix2 : (2 : Int) < 3 := by decide
        have hix3 : (0 : Int) ≤ 2 := by decide
        go_wp2_with fail
        go_region_held3 (fun W => Below wr.heap.size wr W) (first | assumption | exact Below.refl _ _ | exact (Below.refl _ _).drew | exact Below.drew (by assumption)) (first
          | (go_at_call 32; with_reducible refine (HS1.out _ (by assumption)).mono ?_; rintro e w5 ⟨rfl, hb⟩; have hS5 : Below wr.heap.size wr w5 := Below.trans (show Below wr.heap.size wr _ by assumption) (hb.mono (show Below wr.heap.size wr _ by assumption).size); clear hb)
          | (go_at_call 32; with_reducible refine (HS2.out _ (by assumption)).mono ?_; rintro e w6 ⟨rfl, hb⟩; have hS6 : Below wr.heap.size wr w6 := Below.trans (show Below wr.heap.size wr _ by assumption) (hb.mono (show Below wr.heap.size wr _ by assumption).size); clear hb))
        clear da0 da1 da2 da3 db0 db1 db2 db3 dr0 dr1 dr2 dr3
        have HEn : Hid (Below wr.heap.size wr w6) := Lib.hid hS6
        clear hS5 hS6
        go_wp2
        go_ret
        exact ⟨rfl, HLow.out.trans (HEn.out.mono HLow.out.size)⟩
end Go.Proofs.Ytenjhbibhkjdaaa.Md
