/- Upgrade, plain: what the newest version of a model is. Upgrade: between two calls of a walk; names of two models, held against each other. Upgrade: walk of UpgradeKeeps. -/
import Derived.Test.YtgnlehenbdcgmaaUp
import Derived.Test.YtgnlehenbdcgmaaIr
import Derived.Test.YtgnlehenbdcgmaaMdU
import Derived.Test.YtgnlehenbdcgmaaMdT
set_option linter.unusedVariables false
set_option linter.unusedSectionVars false
set_option linter.unusedSimpArgs false
namespace Go.Proofs.Ytgnlehenbdcgmaa.Md
open Go.RowKit Go.Shelf

theorem chk30 (s : ByteArray) : Ic.chkE s ≠ 30 := by unfold Ic.chkE; split <;> decide
theorem nm30 (f : ByteArray → Option Nat) (s : ByteArray) (k : Nat) : nmE f s k ≠ 30 := by
  unfold nmE
  split
  · exact chk30 s
  · split <;> decide
theorem there30 (f : ByteArray → Option Nat) (x : ByteArray) : thereE f x ≠ 30 := by unfold thereE; split <;> decide
theorem arg30 (f : ByteArray → Option Nat) (s : StepM) : argE f s ≠ 30 := by
  unfold argE
  split
  · decide
  · split
    · decide
    · split
      · exact there30 f _
      · split <;> decide
theorem tgt30 (links : List LinkM) (nm : ByteArray) (f : ByteArray → Option Nat) (s : StepM) : tgtE links nm f s ≠ 30 := by
  unfold tgtE
  split
  · exact there30 f _
  · split
    · decide
    · split
      · split <;> decide
      · decide
theorem st30 (links : List LinkM) (nm : ByteArray) (f : ByteArray → Option Nat) (s : StepM) : stE links nm f s ≠ 30 := by
  unfold stE
  split
  · decide
  · split
    · exact arg30 f s
    · exact tgt30 links nm f s
theorem var30 (f : ByteArray → Option Nat) (k : Nat) (v : VarM) : varE f k v ≠ 30 := by
  unfold varE
  split
  · decide
  · split
    · exact nm30 f _ k
    · split <;> decide
theorem fErr30 {α : Type} {E : Nat → α → Int} (h : ∀ k x, E k x ≠ 30) : ∀ (L : List α) (k : Nat), (fErr E k L).1 ≠ 30
  | [], k => by simp [fErr]
  | x :: r, k => by
    unfold fErr
    split
    · exact h k x
    · exact fErr30 h r (k + 1)
theorem in30 (links : List LinkM) (p : ProcM) : inE links p ≠ 30 := by
  unfold inE
  split
  · exact fErr30 (fun _ s => st30 links _ _ s) _ _
  · exact fErr30 (fun k v => var30 _ k v) _ _
theorem pr30 (ver : Int) (links : List LinkM) (pf : ByteArray → Option Nat) (k : Nat) (p : ProcM) : prE ver links pf k p ≠ 30 := by
  unfold prE
  split
  · exact nm30 pf _ k
  · split
    · split
      · decide
      · exact in30 links p
    · decide
theorem ln30 (ver : Int) (pf lf : ByteArray → Option Nat) (k : Nat) (l : LinkM) : lnE ver pf lf k l ≠ 30 := by
  unfold lnE
  split
  · exact nm30 lf _ k
  · split
    · decide
    · split
      · decide
      · split <;> decide
theorem ev30 (pf : ByteArray → Option Nat) (e : EventM) : evE pf e ≠ 30 := by
  unfold evE
  split
  · decide
  · split <;> decide
theorem md30 (m : ModelM) : (mdE m).1 ≠ 30 := by
  have h1 : (erP m).1 ≠ 30 := fErr30 (fun k p => pr30 _ _ _ k p) _ _
  have h2 : (erL m).1 ≠ 30 := fErr30 (fun k l => ln30 _ _ _ k l) _ _
  have h3 : (erE m).1 ≠ 30 := fErr30 (fun _ e => ev30 _ e) _ _
  unfold mdE
  split
  · decide
  · split
    · decide
    · unfold orF
      split
      · exact h1
      · split
        · exact h2
        · exact h3
/-- The newest version of a right model. -/
def topP (p : ProcM) : ProcM := { p with weight := max p.weight 1 }
def topL (t : Int) (l : LinkM) : LinkM := { l with delay := t * l.delay, weight := max l.weight 1 }
def newM (m : ModelM) : ModelM := ⟨3, m.procs.map topP, m.links.map (topL (if m.ver = 1 then 1000 else 1)), m.events⟩
theorem wgt_zero {ver n : Int} (h : wgtB ver n = true) : 0 ≤ n ∧ (ver = 3 → 1 ≤ n) := by
  unfold wgtB at h
  simp at h
  omega
theorem right_wp {m : ModelM} (h : Right m) : ∀ p ∈ m.procs, 0 ≤ p.weight ∧ (m.ver = 3 → 1 ≤ p.weight) := fun p hp => by
  obtain ⟨i, hi⟩ := List.getElem?_of_mem hp
  exact wgt_zero (nm_zero (h.procs i p hi)).2.1
theorem right_wl {m : ModelM} (h : Right m) : ∀ l ∈ m.links, 0 ≤ l.weight ∧ (m.ver = 3 → 1 ≤ l.weight) := fun l hl => by
  obtain ⟨i, hi⟩ := List.getElem?_of_mem hl
  have h1 := h.links i l hi
  unfold lnE at h1
  split at h1
  · exact absurd h1 ‹_›
  · split at h1
    · cases h1
    · split at h1
      · cases h1
      · split at h1
        · exact wgt_zero ‹_›
        · cases h1
theorem or_max {n : Int} (h : 0 ≤ n) : orW n = max n 1 := by unfold orW; split <;> omega
theorem new_3 {m : ModelM} (h : Right m) (hv : m.ver = 3) : newM m = m := by
  have h1 : m.procs.map topP = m.procs := by
    conv => rhs; rw [← List.map_id m.procs]
    exact List.map_congr_left fun p hp => by
      have := (right_wp h p hp).2 hv
      show ({ p with weight := max p.weight 1 } : ProcM) = p
      rw [Int.max_eq_left this]
  have h2 : m.links.map (topL 1) = m.links := by
    conv => rhs; rw [← List.map_id m.links]
    exact List.map_congr_left fun l hl => by
      have := (right_wl h l hl).2 hv
      show ({ l with delay := 1 * l.delay, weight := max l.weight 1 } : LinkM) = l
      rw [Int.max_eq_left this, Int.one_mul]
  unfold newM
  rw [hv, h1, if_neg (by decide), h2, ← hv]
theorem new_2 {m : ModelM} (h : Right m) (hv : m.ver = 2) : wghM m = newM m := by
  have h1 : m.procs.map topP = m.procs.map wghP := List.map_congr_left fun p hp => by
    show ({ p with weight := max p.weight 1 } : ProcM) = { p with weight := orW p.weight }
    rw [or_max (right_wp h p hp).1]
  have h2 : m.links.map (topL 1) = m.links.map wghL := List.map_congr_left fun l hl => by
    show ({ l with delay := 1 * l.delay, weight := max l.weight 1 } : LinkM) = { l with weight := orW l.weight }
    rw [or_max (right_wl h l hl).1, Int.one_mul]
  unfold newM wghM
  rw [h1, hv, if_neg (by decide), h2]
theorem new_1 {m : ModelM} (hv : m.ver = 1) : newM { m with ver := 2, links := m.links.map delL } = newM m := by
  have h2 : (m.links.map delL).map (topL 1) = m.links.map (topL 1000) := by
    rw [List.map_map]
    exact List.map_congr_left fun l hl => by
      show ({ delL l with delay := 1 * (l.delay * 1000), weight := max l.weight 1 } : LinkM) = { l with delay := 1000 * l.delay, weight := max l.weight 1 }
      rw [Int.one_mul, Int.mul_comm]
      rfl
  show (⟨3, m.procs.map topP, (m.links.map delL).map (topL (if (2 : Int) = 1 then 1000 else 1)), m.events⟩ : ModelM) = newM m
  rw [if_neg (by decide), h2]
  unfold newM
  rw [hv, if_pos rfl]
theorem lat_3 {m : ModelM} (h : Right m) (hv : m.ver = 3) (n : Nat) (z : ModelM) : latR (upsD n m (0, 0)) z = (m, 0, 0) := by
  rw [upsD_stop (fun e => by have := e.2; omega)]
  rfl
theorem lat_2 {m : ModelM} (h : Right m) (hv : m.ver = 2) (n : Nat) (z : ModelM) : latR (upsD (n + 1) m (0, 0)) z = (newM m, 0, 0) ∧ Right (newM m) := by
  have e : upR m = (wghM m, 0, 0) := by unfold upR; rw [if_neg (by omega), if_pos hv]
  have hr := right_wgh h hv
  rw [upsD_go ⟨rfl, by omega⟩, e]
  refine ⟨?_, by rw [← new_2 h hv]; exact hr⟩
  show latR (upsD n (wghM m) (0, 0)) m = _
  rw [lat_3 hr rfl, new_2 h hv]
theorem lat_1 {m : ModelM} (h : Right m) (hv : m.ver = 1) (n : Nat) (z : ModelM) : (latR (upsD (n + 1 + 1) m (0, 0)) z = (newM m, 0, 0) ∧ Right (newM m)) ∨ ∃ ea, latR (upsD (n + 1 + 1) m (0, 0)) z = (zeroM, 30, ea) := by
  have e : upR m = delR m := by unfold upR; rw [if_pos hv]
  rw [upsD_go ⟨rfl, by omega⟩, e]
  by_cases h0 : (delE m.links).1 = 0
  · have hr := right_del h hv h0
    have e2 : delR m = ({ m with ver := 2, links := m.links.map delL }, 0, 0) := by unfold delR; rw [if_pos h0]
    rw [e2]
    have := lat_2 hr rfl n m
    rw [new_1 hv] at this
    exact .inl this
  · have e2 : delR m = (zeroM, 30, ((m.procs.length + (delE m.links).2 : Nat) : Int)) := by unfold delR; rw [if_neg h0]
    rw [e2]
    refine .inr ⟨((m.procs.length + (delE m.links).2 : Nat) : Int), ?_⟩
    show latR (upsD (n + 1) zeroM (30, ((m.procs.length + (delE m.links).2 : Nat) : Int))) m = _
    rw [upsD_stop (fun e => by have := e.1; simp at this)]
    rfl
/-- The newest version, or the fault. -/
theorem lat_right {m : ModelM} (h : Right m) : (LatR m = (newM m, 0, 0) ∧ Right (newM m)) ∨ ∃ ea, LatR m = (zeroM, 30, ea) := by
  unfold LatR
  rw [right_zero h]
  have hv := h.ver
  by_cases h1 : m.ver = 1
  · exact lat_1 h h1 1 zeroM
  · by_cases h2 : m.ver = 2
    · exact .inl (lat_2 h h2 2 zeroM)
    · have h3 : m.ver = 3 := by omega
      exact .inl ⟨by rw [lat_3 h h3, new_3 h h3], by rw [new_3 h h3]; exact h⟩
theorem lat_wrong {m : ModelM} (h : (mdE m).1 ≠ 0) : LatR m = (zeroM, mdE m) := by
  unfold LatR
  rw [upsD_stop (fun e => h e.1)]
  rcases hm : mdE m with ⟨a, b⟩
  rw [hm] at h
  simp only [latR, if_neg h]
theorem names_new (m : ModelM) : mdN (newM m) = mdN m := by
  have h1 : (m.procs.map topP).flatMap prN = m.procs.flatMap prN := by
    rw [List.flatMap_map]
    rfl
  have h2 : nmsL (newM m) = nmsL m := by
    unfold nmsL newM
    dsimp only
    rw [List.map_map]
    rfl
  unfold mdN
  rw [h2]
  show (m.procs.map topP).flatMap prN ++ _ = _
  rw [h1]
theorem lat_new {m : ModelM} (h : Right (newM m)) : LatR (newM m) = (newM m, 0, 0) := by
  unfold LatR
  rw [right_zero h]
  exact lat_3 h rfl 3 zeroM
theorem sized_new {m : ModelM} (h : Sized m) : Sized (newM m) := by
  refine ⟨by simpa [newM] using h.procs, by simpa [newM] using h.links, h.events, fun p hp => ?_⟩
  obtain ⟨q, hq, rfl⟩ := List.mem_map.1 hp
  exact h.inner q hq
end Go.Proofs.Ytgnlehenbdcgmaa.Md

namespace Go.Proofs.Ytgnlehenbdcgmaa.Md
open Go.RowKit Go.Shelf

theorem few_sized {m : ModelM} (h : fewB m = true) : Sized m := by
  unfold fewB at h
  simp only [Bool.and_eq_true, decide_eq_true_eq, List.all_eq_true] at h
  obtain ⟨⟨⟨⟨h1, h2⟩, h3⟩, h4⟩, _⟩ := h
  exact ⟨by omega, by omega, by omega, fun p hp => by
    have := h4 p hp
    unfold fewP at this
    simp only [Bool.and_eq_true, decide_eq_true_eq] at this
    omega⟩
theorem few_names {m : ModelM} (h : fewB m = true) : (mdN m).length ≤ 1000 := by
  unfold fewB at h
  simp only [Bool.and_eq_true, decide_eq_true_eq] at h
  obtain ⟨⟨⟨⟨h1, h2⟩, h3⟩, h4⟩, h5⟩ := h
  have := few_len m.procs h4
  unfold mdN nmsL
  rw [List.length_append, List.length_map]
  omega
/-- Between two of the walk's calls. -/
structure Kw (x : ModelV) (w W : World) : Prop where
  at_ : ModelAt W.heap.size W x
  box : W.heap[w.heap.size]? = some (.cells #[.int .i64 x.ver, .slice x.pa x.procs.length x.pc, .slice x.la x.links.length x.lc, .slice x.ea x.events.length x.ec] 26 (0, 0))
  low : Below w.heap.size w W
theorem Kw.on {x : ModelV} {w W W' : World} (h : Kw x w W) (hb : Below W.heap.size W W') : Kw x w W' :=
  ⟨h.at_.on hb, heap_below h.box hb (heap_lt h.box), h.low.trans (hb.mono h.low.size)⟩
theorem rsame_t {w : World} {x y : ModelV} (hx : ModelAt w.heap.size w x) (hy : ModelAt w.heap.size w y) (h : x.m = y.m) : Calls Try.prog 29 #[.agg #[.int .i64 x.ver, .slice x.pa x.procs.length x.pc, .slice x.la x.links.length x.lc, .slice x.ea x.events.length x.ec], .agg #[.int .i64 y.ver, .slice y.pa y.procs.length y.pc, .slice y.la y.links.length y.lc, .slice y.ea y.events.length y.ec]] w fun e w' => e = .returned (.bool true) ∧ Below w.heap.size w w' :=
  (rsame_any hx hy).mono (by
    rintro e w' ⟨hb, b, rfl, hi⟩
    exact ⟨by rw [hi.2 h], hb⟩)
theorem rsame_nil {w : World} {x : ModelV} (hx : ModelAt w.heap.size w x) (h : x.m = zeroM) : Calls Try.prog 29 #[.agg #[.int .i64 x.ver, .slice x.pa x.procs.length x.pc, .slice x.la x.links.length x.lc, .slice x.ea x.events.length x.ec], .agg #[.int .i64 0, .slice none 0 0, .slice none 0 0, .slice none 0 0]] w fun e w' => e = .returned (.bool true) ∧ Below w.heap.size w w' :=
  rsame_t (y := nilV 0) hx (nil_at w 0) h
theorem names_txt {W : World} {base : Nat} {v : Value} {xs : List ByteArray} (h : Gath W base 9 1 v xs.length (sv xs)) (hs : xs.length ≤ maxLen) : ∃ a c g, v = .slice a xs.length c ∧ Ic.TxtAt W a g 0 xs ∧ (xs.length = 0 ∨ g < W.heap.size) := by
  obtain ⟨a, c, g, rfl, ha, hgb, hcell⟩ := names_row h
  exact ⟨a, c, g, rfl, ⟨ha, hs, fun i y hi => by rw [Nat.zero_add]; exact hcell i y hi⟩, hgb.imp id (fun h => h.2)⟩
/-- All names of a model, as texts. -/
structure NmX (w : World) (xs : List ByteArray) (a : Option Addr) (g : Nat) (W : World) : Prop where
  txt : Ic.TxtAt W a g 0 xs
  lt : xs.length = 0 ∨ g < W.heap.size
theorem names_one {w : World} {x : ModelV} (hx : ModelAt w.heap.size w x) {xs : List ByteArray} (hn : mdN x.m = xs) (hs : xs.length ≤ 1000) (W : World) (hW : Below w.heap.size w W) : Calls Try.prog 15 #[.agg #[.int .i64 x.ver, .slice x.pa x.procs.length x.pc, .slice x.la x.links.length x.lc, .slice x.ea x.events.length x.ec]] W fun e w' => ∃ a c g, e = .returned (.slice a xs.length c) ∧ Hid (NmX w xs a g w') ∧ Below w.heap.size w w' := by
  refine (rnames_any (hx.on hW) (by rw [hn]; omega)).mono ?_
  rintro e w' ⟨hb, v, rfl, hg⟩
  rw [hn] at hg
  obtain ⟨a, c, g, rfl, ht, hl⟩ := names_txt hg (by unfold maxLen; omega)
  exact ⟨a, c, g, rfl, Lib.hid ⟨ht, hl⟩, hW.trans (hb.mono hW.size)⟩
theorem names_two {w : World} {x : ModelV} (hx : ModelAt w.heap.size w x) {xs : List ByteArray} (hn : mdN x.m = xs) (hs : xs.length ≤ 1000) {W1 : World} {a : Option Addr} {g : Nat} (c : Nat) (h1 : NmX w xs a g W1) (hB : Below w.heap.size w W1) (W : World) (hW : Below W1.heap.size W1 W) : Calls Try.prog 15 #[.agg #[.int .i64 x.ver, .slice x.pa x.procs.length x.pc, .slice x.la x.links.length x.lc, .slice x.ea x.events.length x.ec]] W fun e w' => ∃ a' c', e = .returned (.slice a' xs.length c') ∧ Hid (∀ W2, Below w'.heap.size w' W2 → Calls Try.prog 21 #[.slice a xs.length c, .slice a' xs.length c'] W2 fun e w2 => e = .returned (.bool true) ∧ Below w.heap.size w w2) ∧ Below w.heap.size w w' := by
  have h0 := hB.trans (hW.mono hB.size)
  refine (rnames_any (hx.on h0) (by rw [hn]; omega)).mono ?_
  rintro e w' ⟨hb, v, rfl, hg⟩
  rw [hn] at hg
  obtain ⟨a', c', g', rfl, ht, hl⟩ := names_txt hg (by unfold maxLen; omega)
  have hb1 := hW.trans (hb.mono hW.size)
  refine ⟨a', c', rfl, Lib.hid fun W2 h2 => ?_, h0.trans (hb.mono h0.size)⟩
  refine (Ic.xsame_txt (h1.txt.on (hb1.trans (h2.mono hb1.size)) h1.lt) (ht.on h2 hl) rfl rfl).mono ?_
  rintro e w2 ⟨rfl, n, rfl⟩
  exact ⟨by rw [decide_eq_true rfl], (h0.trans (hb.mono h0.size)).trans ((h2.trans ((below_drewN W2 n).mono h2.size)).mono (h0.trans (hb.mono h0.size)).size)⟩
end Go.Proofs.Ytgnlehenbdcgmaa.Md

namespace Go.Proofs.Ytgnlehenbdcgmaa.Md
open Go.RowKit Go.Shelf

/-- The model, what came of it, and its box and fault's box. -/
structure Kq (x z : ModelV) (B : Nat) (f1 f2 : Int) (w W : World) : Prop where
  kw : Kw x w W
  zat : ModelAt W.heap.size W z
  zbox : W.heap[B]? = some (.cells #[.int .i64 z.ver, .slice z.pa z.procs.length z.pc, .slice z.la z.links.length z.lc, .slice z.ea z.events.length z.ec] 26 (0, 0))
  fbox : W.heap[B + 1]? = some (.cells #[.int .i64 f1, .int .i64 f2] 31 (0, 0))
theorem Kq.on {x z : ModelV} {B : Nat} {f1 f2 : Int} {w W W' : World} (h : Kq x z B f1 f2 w W) (hb : Below W.heap.size W W') : Kq x z B f1 f2 w W' :=
  ⟨h.kw.on hb, h.zat.on hb, heap_below h.zbox hb (heap_lt h.zbox), heap_below h.fbox hb (heap_lt h.fbox)⟩
theorem check_right {w : World} {x : ModelV} (h : ModelAt w.heap.size w x) (hr : Right x.m) : Calls Try.prog 11 #[.agg #[.int .i64 x.ver, .slice x.pa x.procs.length x.pc, .slice x.la x.links.length x.lc, .slice x.ea x.events.length x.ec]] w fun e w' => e = .returned (.agg #[.int .i64 0, .int .i64 0]) ∧ Below w.heap.size w w' := by
  have := check_any h
  rw [right_zero hr] at this
  exact this
theorem latest_right {w : World} {x : ModelV} (h : ModelAt w.heap.size w x) (hs : Sized x.m) {m : ModelM} (hm : x.m = newM m) (hr : Right (newM m)) : Calls Try.prog 27 #[.agg #[.int .i64 x.ver, .slice x.pa x.procs.length x.pc, .slice x.la x.links.length x.lc, .slice x.ea x.events.length x.ec]] w (UpQ w (newM m, 0, 0)) := by
  have := latest_any h hs
  rw [hm, lat_new hr] at this
  exact this

set_option maxRecDepth 100000 in
set_option maxHeartbeats 8000000 in
theorem walk_UpgradeKeeps (x : ModelV) (w : World) (h : ModelAt w.heap.size w x) (hw : (Lit.int .i64 x.ver).wf = true) : Calls Try.prog 6 #[.agg #[.int .i64 x.ver, .slice x.pa x.procs.length x.pc, .slice x.la x.links.length x.lc, .slice x.ea x.events.length x.ec]] w fun e w' => e = .returned (.bool true) ∧ Below w.heap.size w w' := by
  have HK : Hid (Kw x w (w.alloc (.cells #[.int .i64 x.ver, .slice x.pa x.procs.length x.pc, .slice x.la x.links.length x.lc, .slice x.ea x.events.length x.ec] 26))) := Lib.hid ⟨h.on (below_one w _), heap_new _ rfl, below_one w _⟩
  clear h hw
  go_enter Try.func6, Try.ntmps6
  go_wp2_with fail
  generalize w.alloc (.cells #[.int .i64 x.ver, .slice x.pa x.procs.length x.pc, .slice x.la x.links.length x.lc, .slice x.ea x.events.length x.ec] 26) = w1 at *
  refine (ualive_any w1).mono ?_
  rintro e w2 ⟨rfl, hb⟩
  replace HK := Lib.hid (HK.out.on hb)
  clear hb
  have a0 : w2.cell? ⟨w.heap.size, 0, none⟩ = some (.int .i64 x.ver) := heap_cell HK.out.box rfl
  have a1 : w2.cell? ⟨w.heap.size, 1, none⟩ = some (.slice x.pa x.procs.length x.pc) := heap_cell HK.out.box rfl
  have a2 : w2.cell? ⟨w.heap.size, 2, none⟩ = some (.slice x.la x.links.length x.lc) := heap_cell HK.out.box rfl
  have a3 : w2.cell? ⟨w.heap.size, 3, none⟩ = some (.slice x.ea x.events.length x.ec) := heap_cell HK.out.box rfl
  go_wp2_with fail
  refine (few_any HK.out.at_).mono ?_
  rintro e w3 ⟨rfl, hb⟩
  replace HK := Lib.hid (HK.out.on hb)
  clear hb a0 a1 a2 a3
  cases hf : fewB x.m with
  | false =>
    clear hf
    go_wp2
    go_ret
    exact ⟨rfl, HK.out.low⟩
  | true =>
  have HSz := Lib.hid (few_sized hf)
  have HNm := Lib.hid (few_names hf)
  clear hf
  have HC := Lib.hid (latest_any HK.out.at_ HSz.out)
  have HF : Hid (((∃ e2, LatR x.m = (zeroM, 30, e2)) ∧ (mdE x.m).1 = 0) ∨ ((∃ e1 e2, e1 ≠ 0 ∧ e1 ≠ 30 ∧ (mdE x.m).1 = e1 ∧ LatR x.m = (zeroM, e1, e2))) ∨ (Right x.m ∧ Right (newM x.m) ∧ LatR x.m = (newM x.m, 0, 0))) := Lib.hid (by
    by_cases h0 : (mdE x.m).1 = 0
    · have hr := right_of h0
      rcases lat_right hr with ⟨h1, h2⟩ | h1
      · exact .inr (.inr ⟨hr, h2, h1⟩)
      · exact .inl ⟨h1, h0⟩
    · exact .inr (.inl ⟨(mdE x.m).1, (mdE x.m).2, h0, md30 _, rfl, lat_wrong h0⟩))
  have a0 : w3.cell? ⟨w.heap.size, 0, none⟩ = some (.int .i64 x.ver) := heap_cell HK.out.box rfl
  have a1 : w3.cell? ⟨w.heap.size, 1, none⟩ = some (.slice x.pa x.procs.length x.pc) := heap_cell HK.out.box rfl
  have a2 : w3.cell? ⟨w.heap.size, 2, none⟩ = some (.slice x.la x.links.length x.lc) := heap_cell HK.out.box rfl
  have a3 : w3.cell? ⟨w.heap.size, 3, none⟩ = some (.slice x.ea x.events.length x.ec) := heap_cell HK.out.box rfl
  go_wp2_with fail
  clear a0 a1 a2 a3
  refine HC.out.mono ?_
  clear HC
  obtain ⟨L, hL⟩ : ∃ L, LatR x.m = L := ⟨_, rfl⟩
  rw [hL] at HF ⊢
  clear hL
  obtain ⟨l0, f1, f2⟩ := L
  rintro e w4 ⟨z, rfl, hz, hoz, hb⟩
  dsimp only at hz ⊢
  have HZ0 := Lib.hid hz
  replace HK := Lib.hid (HK.out.on hb)
  have HZt := Lib.hid hoz.at_
  clear hz hoz hb
  go_upto_region 6 with fail
  have HX : Hid (Kq x z w4.heap.size f1 f2 w ((w4.alloc (.cells #[.int .i64 z.ver, .slice z.pa z.procs.length z.pc, .slice z.la z.links.length z.lc, .slice z.ea z.events.length z.ec] 26)).alloc (.cells #[.int .i64 f1, .int .i64 f2] 31))) := Lib.hid (by
    have hbx : Below w4.heap.size w4 ((w4.alloc (.cells #[.int .i64 z.ver, .slice z.pa z.procs.length z.pc, .slice z.la z.links.length z.lc, .slice z.ea z.events.length z.ec] 26)).alloc (.cells #[.int .i64 f1, .int .i64 f2] 31)) := ((Below.refl _ w4).alloc (Nat.le_refl _) _).alloc (by simp) _
    exact ⟨HK.out.on hbx, HZt.out.on hbx, heap_alloc (heap_new _ rfl) _, heap_new _ (by simp)⟩)
  clear HK HZt
  generalize ((w4.alloc (.cells #[.int .i64 z.ver, .slice z.pa z.procs.length z.pc, .slice z.la z.links.length z.lc, .slice z.ea z.events.length z.ec] 26)).alloc (.cells #[.int .i64 f1, .int .i64 f2] 31)) = w5 at *
  generalize w4.heap.size = B at *

  obtain ⟨c1, hc1⟩ : ∃ c1, (mdE x.m).1 = c1 := ⟨_, rfl⟩
  obtain ⟨c2, hc2⟩ : ∃ c2, (mdE x.m).2 = c2 := ⟨_, rfl⟩
  have HE : Hid (mdE x.m = (c1, c2)) := Lib.hid (by rw [← hc1, ← hc2])
  rw [hc1] at HF
  clear hc1 hc2
  rcases HF.out with ⟨⟨e2, h1⟩, h2⟩ | ⟨e1, e2, h1, h2, h3, h4⟩ | ⟨h1, h2, h3⟩
  · cases h1
    subst h2
    clear HF HSz HNm
    have b0 : w5.cell? ⟨B + 1, 0, none⟩ = some (.int .i64 30) := heap_cell HX.out.fbox rfl
    go_upto_region 7 with fail
    clear b0
    have hlA : w.heap.size < w5.heap.size := heap_lt HX.out.kw.box
    have hlB : B < w5.heap.size := heap_lt HX.out.zbox
    have hlF : B + 1 < w5.heap.size := heap_lt HX.out.fbox
    have da0 : ∀ W, Below w5.heap.size w5 W → W.cell? ⟨w.heap.size, 0, none⟩ = some (.int .i64 x.ver) := fun W hW => by rw [hW.cell (by exact hlA)]; exact heap_cell HX.out.kw.box rfl
    have da1 : ∀ W, Below w5.heap.size w5 W → W.cell? ⟨w.heap.size, 1, none⟩ = some (.slice x.pa x.procs.length x.pc) := fun W hW => by rw [hW.cell (by exact hlA)]; exact heap_cell HX.out.kw.box rfl
    have da2 : ∀ W, Below w5.heap.size w5 W → W.cell? ⟨w.heap.size, 2, none⟩ = some (.slice x.la x.links.length x.lc) := fun W hW => by rw [hW.cell (by exact hlA)]; exact heap_cell HX.out.kw.box rfl
    have da3 : ∀ W, Below w5.heap.size w5 W → W.cell? ⟨w.heap.size, 3, none⟩ = some (.slice x.ea x.events.length x.ec) := fun W hW => by rw [hW.cell (by exact hlA)]; exact heap_cell HX.out.kw.box rfl
    have db0 : ∀ W, Below w5.heap.size w5 W → W.cell? ⟨B, 0, none⟩ = some (.int .i64 z.ver) := fun W hW => by rw [hW.cell (by exact hlB)]; exact heap_cell HX.out.zbox rfl
    have db1 : ∀ W, Below w5.heap.size w5 W → W.cell? ⟨B, 1, none⟩ = some (.slice z.pa z.procs.length z.pc) := fun W hW => by rw [hW.cell (by exact hlB)]; exact heap_cell HX.out.zbox rfl
    have db2 : ∀ W, Below w5.heap.size w5 W → W.cell? ⟨B, 2, none⟩ = some (.slice z.la z.links.length z.lc) := fun W hW => by rw [hW.cell (by exact hlB)]; exact heap_cell HX.out.zbox rfl
    have db3 : ∀ W, Below w5.heap.size w5 W → W.cell? ⟨B, 3, none⟩ = some (.slice z.ea z.events.length z.ec) := fun W hW => by rw [hW.cell (by exact hlB)]; exact heap_cell HX.out.zbox rfl
    have df0 : ∀ W, Below w5.heap.size w5 W → W.cell? ⟨B + 1, 0, none⟩ = some (.int .i64 30) := fun W hW => by rw [hW.cell (by exact hlF)]; exact heap_cell HX.out.fbox rfl
    have df1 : ∀ W, Below w5.heap.size w5 W → W.cell? ⟨B + 1, 1, none⟩ = some (.int .i64 f2) := fun W hW => by rw [hW.cell (by exact hlF)]; exact heap_cell HX.out.fbox rfl
    have HS1 : Hid (∀ W, Below w5.heap.size w5 W → Calls Try.prog 29 #[.agg #[.int .i64 z.ver, .slice z.pa z.procs.length z.pc, .slice z.la z.links.length z.lc, .slice z.ea z.events.length z.ec], .agg #[.int .i64 0, .slice none 0 0, .slice none 0 0, .slice none 0 0]] W fun e w' => e = .returned (.bool true) ∧ Below W.heap.size W w') := Lib.hid (fun W hW => rsame_nil (HX.out.zat.on hW) HZ0.out)
    have HCk : Hid (∀ W, Below w5.heap.size w5 W → Calls Try.prog 11 #[.agg #[.int .i64 x.ver, .slice x.pa x.procs.length x.pc, .slice x.la x.links.length x.lc, .slice x.ea x.events.length x.ec]] W fun e w' => e = .returned (.agg #[.int .i64 0, .int .i64 c2]) ∧ Below W.heap.size W w') := Lib.hid (fun W hW => by have := check_any (HX.out.kw.at_.on hW); rw [HE.out] at this; exact this)
    have hfd := field0 0 c2
    go_region_held3 (fun W => Below w5.heap.size w5 W) (first | assumption | exact Below.refl _ _ | exact (Below.refl _ _).drew | exact Below.drew (by assumption)) (first
      | (go_at_call 29; with_reducible refine (HS1.out _ (by assumption)).mono ?_; rintro e w6 ⟨rfl, hb⟩; have hS6 : Below w5.heap.size w5 w6 := Below.trans (show Below w5.heap.size w5 _ by assumption) (hb.mono (show Below w5.heap.size w5 _ by assumption).size); clear hb)
      | (go_at_call 11; with_reducible refine (HCk.out _ (by assumption)).mono ?_; rintro e w7 ⟨rfl, hb⟩; have hS7 : Below w5.heap.size w5 w7 := Below.trans (show Below w5.heap.size w5 _ by assumption) (hb.mono (show Below w5.heap.size w5 _ by assumption).size); clear hb))
    clear da0 da1 da2 da3 db0 db1 db2 db3 df0 df1
    have HEn : Hid (Below w5.heap.size w5 w7) := Lib.hid hS7
    clear hS6 hS7
    go_wp2
    go_ret
    exact ⟨rfl, HX.out.kw.low.trans (HEn.out.mono HX.out.kw.low.size)⟩
  · have hz : l0 = zeroM := congrArg Prod.fst h4
    have hf : f1 = e1 := congrArg (fun p => p.2.1) h4
    subst hz
    subst hf
    subst h3
    have hq0 : (c1 != 0) = true := by simpa using h1
    have hq1 : (c1 == 0) = false := by simpa using h1
    have hq2 : (c1 == 30) = false := by simpa using h2
    clear HF HSz HNm h1 h2 h4
    have b0 : w5.cell? ⟨B + 1, 0, none⟩ = some (.int .i64 c1) := heap_cell HX.out.fbox rfl
    go_upto_region 7 with fail
    clear b0
    have hlA : w.heap.size < w5.heap.size := heap_lt HX.out.kw.box
    have hlB : B < w5.heap.size := heap_lt HX.out.zbox
    have hlF : B + 1 < w5.heap.size := heap_lt HX.out.fbox
    have da0 : ∀ W, Below w5.heap.size w5 W → W.cell? ⟨w.heap.size, 0, none⟩ = some (.int .i64 x.ver) := fun W hW => by rw [hW.cell (by exact hlA)]; exact heap_cell HX.out.kw.box rfl
    have da1 : ∀ W, Below w5.heap.size w5 W → W.cell? ⟨w.heap.size, 1, none⟩ = some (.slice x.pa x.procs.length x.pc) := fun W hW => by rw [hW.cell (by exact hlA)]; exact heap_cell HX.out.kw.box rfl
    have da2 : ∀ W, Below w5.heap.size w5 W → W.cell? ⟨w.heap.size, 2, none⟩ = some (.slice x.la x.links.length x.lc) := fun W hW => by rw [hW.cell (by exact hlA)]; exact heap_cell HX.out.kw.box rfl
    have da3 : ∀ W, Below w5.heap.size w5 W → W.cell? ⟨w.heap.size, 3, none⟩ = some (.slice x.ea x.events.length x.ec) := fun W hW => by rw [hW.cell (by exact hlA)]; exact heap_cell HX.out.kw.box rfl
    have db0 : ∀ W, Below w5.heap.size w5 W → W.cell? ⟨B, 0, none⟩ = some (.int .i64 z.ver) := fun W hW => by rw [hW.cell (by exact hlB)]; exact heap_cell HX.out.zbox rfl
    have db1 : ∀ W, Below w5.heap.size w5 W → W.cell? ⟨B, 1, none⟩ = some (.slice z.pa z.procs.length z.pc) := fun W hW => by rw [hW.cell (by exact hlB)]; exact heap_cell HX.out.zbox rfl
    have db2 : ∀ W, Below w5.heap.size w5 W → W.cell? ⟨B, 2, none⟩ = some (.slice z.la z.links.length z.lc) := fun W hW => by rw [hW.cell (by exact hlB)]; exact heap_cell HX.out.zbox rfl
    have db3 : ∀ W, Below w5.heap.size w5 W → W.cell? ⟨B, 3, none⟩ = some (.slice z.ea z.events.length z.ec) := fun W hW => by rw [hW.cell (by exact hlB)]; exact heap_cell HX.out.zbox rfl
    have df0 : ∀ W, Below w5.heap.size w5 W → W.cell? ⟨B + 1, 0, none⟩ = some (.int .i64 c1) := fun W hW => by rw [hW.cell (by exact hlF)]; exact heap_cell HX.out.fbox rfl
    have df1 : ∀ W, Below w5.heap.size w5 W → W.cell? ⟨B + 1, 1, none⟩ = some (.int .i64 f2) := fun W hW => by rw [hW.cell (by exact hlF)]; exact heap_cell HX.out.fbox rfl
    have HS1 : Hid (∀ W, Below w5.heap.size w5 W → Calls Try.prog 29 #[.agg #[.int .i64 z.ver, .slice z.pa z.procs.length z.pc, .slice z.la z.links.length z.lc, .slice z.ea z.events.length z.ec], .agg #[.int .i64 0, .slice none 0 0, .slice none 0 0, .slice none 0 0]] W fun e w' => e = .returned (.bool true) ∧ Below W.heap.size W w') := Lib.hid (fun W hW => rsame_nil (HX.out.zat.on hW) HZ0.out)
    have HCk : Hid (∀ W, Below w5.heap.size w5 W → Calls Try.prog 11 #[.agg #[.int .i64 x.ver, .slice x.pa x.procs.length x.pc, .slice x.la x.links.length x.lc, .slice x.ea x.events.length x.ec]] W fun e w' => e = .returned (.agg #[.int .i64 c1, .int .i64 c2]) ∧ Below W.heap.size W w') := Lib.hid (fun W hW => by have := check_any (HX.out.kw.at_.on hW); rw [HE.out] at this; exact this)
    have hfd := field0 c1 c2
    go_region_held3 (fun W => Below w5.heap.size w5 W) (first | assumption | exact Below.refl _ _ | exact (Below.refl _ _).drew | exact Below.drew (by assumption)) (first
      | (go_at_call 29; with_reducible refine (HS1.out _ (by assumption)).mono ?_; rintro e w6 ⟨rfl, hb⟩; have hS6 : Below w5.heap.size w5 w6 := Below.trans (show Below w5.heap.size w5 _ by assumption) (hb.mono (show Below w5.heap.size w5 _ by assumption).size); clear hb)
      | (go_at_call 11; with_reducible refine (HCk.out _ (by assumption)).mono ?_; rintro e w7 ⟨rfl, hb⟩; have hS7 : Below w5.heap.size w5 w7 := Below.trans (show Below w5.heap.size w5 _ by assumption) (hb.mono (show Below w5.heap.size w5 _ by assumption).size); clear hb))
    clear da0 da1 da2 da3 db0 db1 db2 db3 df0 df1
    have HEn : Hid (Below w5.heap.size w5 w7) := Lib.hid hS7
    clear hS6 hS7
    go_wp2
    go_ret
    exact ⟨rfl, HX.out.kw.low.trans (HEn.out.mono HX.out.kw.low.size)⟩

  · have hz : l0 = newM x.m := congrArg Prod.fst h3
    have hf : f1 = 0 := congrArg (fun p => p.2.1) h3
    have hg : f2 = 0 := congrArg (fun p => p.2.2) h3
    subst hz
    subst hf
    subst hg
    have HR := Lib.hid h1
    have HRn := Lib.hid h2
    clear HF HE h1 h2 h3
    have HSz' : Hid (Sized z.m) := Lib.hid (by rw [HZ0.out]; exact sized_new HSz.out)
    have b0 : w5.cell? ⟨B + 1, 0, none⟩ = some (.int .i64 0) := heap_cell HX.out.fbox rfl
    have z0 : w5.cell? ⟨B, 0, none⟩ = some (.int .i64 z.ver) := heap_cell HX.out.zbox rfl
    have z1 : w5.cell? ⟨B, 1, none⟩ = some (.slice z.pa z.procs.length z.pc) := heap_cell HX.out.zbox rfl
    have z2 : w5.cell? ⟨B, 2, none⟩ = some (.slice z.la z.links.length z.lc) := heap_cell HX.out.zbox rfl
    have z3 : w5.cell? ⟨B, 3, none⟩ = some (.slice z.ea z.events.length z.ec) := heap_cell HX.out.zbox rfl
    go_wp2_with fail
    clear b0 z0 z1 z2 z3
    refine (latest_right HX.out.zat HSz'.out HZ0.out HRn.out).mono ?_
    rintro e w6 ⟨y, rfl, hy, hoy, hb⟩
    dsimp only at hy ⊢
    have HY0 := Lib.hid hy
    replace HX := Lib.hid (HX.out.on hb)
    have HYt := Lib.hid hoy.at_
    clear hy hoy hb
    go_upto_region 9 with fail
    have HV : Hid (Kq x z B 0 0 w ((w6.alloc (.cells #[.int .i64 y.ver, .slice y.pa y.procs.length y.pc, .slice y.la y.links.length y.lc, .slice y.ea y.events.length y.ec] 26)).alloc (.cells #[.int .i64 0, .int .i64 0] 31)) ∧ ModelAt ((w6.alloc (.cells #[.int .i64 y.ver, .slice y.pa y.procs.length y.pc, .slice y.la y.links.length y.lc, .slice y.ea y.events.length y.ec] 26)).alloc (.cells #[.int .i64 0, .int .i64 0] 31)).heap.size ((w6.alloc (.cells #[.int .i64 y.ver, .slice y.pa y.procs.length y.pc, .slice y.la y.links.length y.lc, .slice y.ea y.events.length y.ec] 26)).alloc (.cells #[.int .i64 0, .int .i64 0] 31)) y ∧ ((w6.alloc (.cells #[.int .i64 y.ver, .slice y.pa y.procs.length y.pc, .slice y.la y.links.length y.lc, .slice y.ea y.events.length y.ec] 26)).alloc (.cells #[.int .i64 0, .int .i64 0] 31)).heap[w6.heap.size]? = some (.cells #[.int .i64 y.ver, .slice y.pa y.procs.length y.pc, .slice y.la y.links.length y.lc, .slice y.ea y.events.length y.ec] 26 (0, 0)) ∧ ((w6.alloc (.cells #[.int .i64 y.ver, .slice y.pa y.procs.length y.pc, .slice y.la y.links.length y.lc, .slice y.ea y.events.length y.ec] 26)).alloc (.cells #[.int .i64 0, .int .i64 0] 31)).heap[w6.heap.size + 1]? = some (.cells #[.int .i64 0, .int .i64 0] 31 (0, 0))) := Lib.hid (by
      have hbx : Below w6.heap.size w6 ((w6.alloc (.cells #[.int .i64 y.ver, .slice y.pa y.procs.length y.pc, .slice y.la y.links.length y.lc, .slice y.ea y.events.length y.ec] 26)).alloc (.cells #[.int .i64 0, .int .i64 0] 31)) := ((Below.refl _ w6).alloc (Nat.le_refl _) _).alloc (by simp) _
      exact ⟨HX.out.on hbx, HYt.out.on hbx, heap_alloc (heap_new _ rfl) _, heap_new _ (by simp)⟩)
    clear HX HYt
    generalize ((w6.alloc (.cells #[.int .i64 y.ver, .slice y.pa y.procs.length y.pc, .slice y.la y.links.length y.lc, .slice y.ea y.events.length y.ec] 26)).alloc (.cells #[.int .i64 0, .int .i64 0] 31)) = w8 at *
    generalize w6.heap.size = C at *
    obtain ⟨hX, hY, hyb, hyf⟩ := HV.out

    have hlA : w.heap.size < w8.heap.size := heap_lt hX.kw.box
    have hlB : B < w8.heap.size := heap_lt hX.zbox
    have hlC : C < w8.heap.size := heap_lt hyb
    have hlF : C + 1 < w8.heap.size := heap_lt hyf
    have da0 : ∀ W, Below w8.heap.size w8 W → W.cell? ⟨w.heap.size, 0, none⟩ = some (.int .i64 x.ver) := fun W hW => by rw [hW.cell (by exact hlA)]; exact heap_cell hX.kw.box rfl
    have da1 : ∀ W, Below w8.heap.size w8 W → W.cell? ⟨w.heap.size, 1, none⟩ = some (.slice x.pa x.procs.length x.pc) := fun W hW => by rw [hW.cell (by exact hlA)]; exact heap_cell hX.kw.box rfl
    have da2 : ∀ W, Below w8.heap.size w8 W → W.cell? ⟨w.heap.size, 2, none⟩ = some (.slice x.la x.links.length x.lc) := fun W hW => by rw [hW.cell (by exact hlA)]; exact heap_cell hX.kw.box rfl
    have da3 : ∀ W, Below w8.heap.size w8 W → W.cell? ⟨w.heap.size, 3, none⟩ = some (.slice x.ea x.events.length x.ec) := fun W hW => by rw [hW.cell (by exact hlA)]; exact heap_cell hX.kw.box rfl
    have db0 : ∀ W, Below w8.heap.size w8 W → W.cell? ⟨B, 0, none⟩ = some (.int .i64 z.ver) := fun W hW => by rw [hW.cell (by exact hlB)]; exact heap_cell hX.zbox rfl
    have db1 : ∀ W, Below w8.heap.size w8 W → W.cell? ⟨B, 1, none⟩ = some (.slice z.pa z.procs.length z.pc) := fun W hW => by rw [hW.cell (by exact hlB)]; exact heap_cell hX.zbox rfl
    have db2 : ∀ W, Below w8.heap.size w8 W → W.cell? ⟨B, 2, none⟩ = some (.slice z.la z.links.length z.lc) := fun W hW => by rw [hW.cell (by exact hlB)]; exact heap_cell hX.zbox rfl
    have db3 : ∀ W, Below w8.heap.size w8 W → W.cell? ⟨B, 3, none⟩ = some (.slice z.ea z.events.length z.ec) := fun W hW => by rw [hW.cell (by exact hlB)]; exact heap_cell hX.zbox rfl
    have dc0 : ∀ W, Below w8.heap.size w8 W → W.cell? ⟨C, 0, none⟩ = some (.int .i64 y.ver) := fun W hW => by rw [hW.cell (by exact hlC)]; exact heap_cell hyb rfl
    have dc1 : ∀ W, Below w8.heap.size w8 W → W.cell? ⟨C, 1, none⟩ = some (.slice y.pa y.procs.length y.pc) := fun W hW => by rw [hW.cell (by exact hlC)]; exact heap_cell hyb rfl
    have dc2 : ∀ W, Below w8.heap.size w8 W → W.cell? ⟨C, 2, none⟩ = some (.slice y.la y.links.length y.lc) := fun W hW => by rw [hW.cell (by exact hlC)]; exact heap_cell hyb rfl
    have dc3 : ∀ W, Below w8.heap.size w8 W → W.cell? ⟨C, 3, none⟩ = some (.slice y.ea y.events.length y.ec) := fun W hW => by rw [hW.cell (by exact hlC)]; exact heap_cell hyb rfl
    have df0 : ∀ W, Below w8.heap.size w8 W → W.cell? ⟨C + 1, 0, none⟩ = some (.int .i64 0) := fun W hW => by rw [hW.cell (by exact hlF)]; exact heap_cell hyf rfl
    have df1 : ∀ W, Below w8.heap.size w8 W → W.cell? ⟨C + 1, 1, none⟩ = some (.int .i64 0) := fun W hW => by rw [hW.cell (by exact hlF)]; exact heap_cell hyf rfl
    have heql := fun V => eqlU 0 0 V
    have hzv : (z.ver == 3) = true := by have : z.ver = 3 := congrArg ModelM.ver HZ0.out; simpa using this
    have hev : ((z.events.length : Int) == (x.events.length : Int)) = true := by have : z.events = x.events := congrArg ModelM.events HZ0.out; rw [this]; simp
    obtain ⟨xs, hxs⟩ : ∃ xs, mdN x.m = xs := ⟨_, rfl⟩
    have hzs : mdN z.m = xs := by rw [HZ0.out, names_new]; exact hxs
    have hsm : xs.length ≤ 1000 := by rw [← hxs]; exact HNm.out
    have HCk : Hid (∀ W, Below w8.heap.size w8 W → Calls Try.prog 11 #[.agg #[.int .i64 z.ver, .slice z.pa z.procs.length z.pc, .slice z.la z.links.length z.lc, .slice z.ea z.events.length z.ec]] W fun e w' => e = .returned (.agg #[.int .i64 0, .int .i64 0]) ∧ Below W.heap.size W w') := Lib.hid (fun W hW => check_right (hX.zat.on hW) (by rw [HZ0.out]; exact HRn.out))
    have HN1 := Lib.hid (fun W hW => names_one hX.zat hzs hsm W hW)
    have HN2 := Lib.hid (fun W1 a g c h1 hB W hW => names_two hX.kw.at_ hxs hsm (W1 := W1) (a := a) (g := g) c h1 hB W hW)
    have HS1 : Hid (∀ W, Below w8.heap.size w8 W → Calls Try.prog 29 #[.agg #[.int .i64 y.ver, .slice y.pa y.procs.length y.pc, .slice y.la y.links.length y.lc, .slice y.ea y.events.length y.ec], .agg #[.int .i64 z.ver, .slice z.pa z.procs.length z.pc, .slice z.la z.links.length z.lc, .slice z.ea z.events.length z.ec]] W fun e w' => e = .returned (.bool true) ∧ Below W.heap.size W w') := Lib.hid (fun W hW => rsame_t (hY.on hW) (hX.zat.on hW) (HY0.out.trans HZ0.out.symm))
    have HLw := Lib.hid hX.kw.low
    by_cases hv : x.ver < 3
    · have hvb : decide (x.ver < 3) = true := decide_eq_true hv
      clear hX hY hyb hyf hxs hzs hsm HV HSz HSz' HNm HR HRn HY0 HZ0 hv
      refine wp_region_held_drew (S := (fun W => Below w8.heap.size w8 W)) (by kernel_rfl) ?_ (fun hHeld => ?_)
      · exact (Below.refl _ _).drew
      refine wpAnyH_take (i := 0) (oi := { dst := some 38, op := Go.Op.load 26 (Go.Operand.tmp 3), type := 26, pos := "law.go:93", after := #[], guard := none }) (v := ?_) rfl (by kernel_rfl) (by kernel_rfl) (by kernel_rfl) (fun _ _ _ h => h) (Or.inl ⟨by rfl, ?_⟩) (by assumption) ?_
      rotate_left
      · (intro W hSw; (try dsimp only at hSw); go_simp; try with_reducible rfl)
      try simp only [Act.put, List.setIfInBounds_toArray, List.set_cons_zero, List.set_cons_succ]
      refine wpAnyH_take (i := 2) (oi := { dst := some 40, op := Go.Op.build 31 #[], type := 31, pos := "law.go:93", after := #[], guard := none }) (v := ?_) rfl (by kernel_rfl) (by kernel_rfl) (by kernel_rfl) (fun _ _ _ h => h) (Or.inl ⟨by rfl, ?_⟩) (by assumption) ?_
      rotate_left
      · (intro W hSw; (try dsimp only at hSw); go_simp; try with_reducible rfl)
      try simp only [Act.put, List.setIfInBounds_toArray, List.set_cons_zero, List.set_cons_succ]
      refine wpAnyH_ready (rs := [1]) (by kernel_rfl) (by simp) ?_
      refine AllReadyH.cons (o := { dst := some 39, op := Go.Op.call { callee := Go.Callee.value (Go.Operand.func 11), args := #[Go.Operand.tmp 38], argTypes := #[26] }, type := 31, pos := "law.go:93", after := #[{ on := 0, ground := Go.Ground.data }], guard := none }) rfl (fun K hK => ?_) AllReadyH.nil
      go_simp
      go_at_call 11
      with_reducible refine (HCk.out _ (by assumption)).mono ?_
      rintro e w10 ⟨rfl, hb⟩
      have hS10 : Below w8.heap.size w8 w10 := Below.trans (show Below w8.heap.size w8 _ by assumption) (hb.mono (show Below w8.heap.size w8 _ by assumption).size)
      clear hb
      refine hK.out _ _ ?_ (fun hHeld => ?_)
      · exact hS10
      clear hK K
      try simp only [Act.put, List.setIfInBounds_toArray, List.set_cons_zero, List.set_cons_succ]
      refine wpAnyH_take (i := 3) (oi := { dst := some 41, op := Go.Op.binOp Go.BinOp.eql 31 (Go.Operand.tmp 39) (Go.Operand.tmp 40) 31, type := 4, pos := "law.go:93", after := #[{ on := 1, ground := Go.Ground.data }, { on := 2, ground := Go.Ground.data }], guard := none }) (v := ?_) rfl (by kernel_rfl) (by kernel_rfl) (by kernel_rfl) (fun _ _ _ h => h) (Or.inl ⟨by rfl, ?_⟩) (by assumption) ?_
      rotate_left
      · (intro W hSw; (try dsimp only at hSw); go_simp; try with_reducible rfl)
      try simp only [Act.put, List.setIfInBounds_toArray, List.set_cons_zero, List.set_cons_succ]
      refine wpAnyH_take (i := 4) (oi := { dst := some 42, op := Go.Op.move (Go.Operand.tmp 41), type := 4, pos := "law.go:93", after := #[{ on := 3, ground := Go.Ground.data }, { on := 1, ground := Go.Ground.chain }], guard := none }) (v := ?_) rfl (by kernel_rfl) (by kernel_rfl) (by kernel_rfl) (fun _ _ _ h => h) (Or.inl ⟨by rfl, ?_⟩) (by assumption) ?_
      rotate_left
      · (intro W hSw; (try dsimp only at hSw); go_simp; try with_reducible rfl)
      try simp only [Act.put, List.setIfInBounds_toArray, List.set_cons_zero, List.set_cons_succ]
      refine wpAnyH_take (i := 5) (oi := { dst := some 43, op := Go.Op.fieldAddr 26 (Go.Operand.tmp 3) 0, type := 0, pos := "law.go:93", after := #[{ on := 4, ground := Go.Ground.guard }], guard := some (4, true) }) (v := ?_) rfl (by kernel_rfl) (by kernel_rfl) (by kernel_rfl) (fun _ _ _ h => h) (Or.inl ⟨by rfl, ?_⟩) (by assumption) ?_
      rotate_left
      · (intro W hSw; (try dsimp only at hSw); go_simp; try with_reducible rfl)
      try simp only [Act.put, List.setIfInBounds_toArray, List.set_cons_zero, List.set_cons_succ]
      refine wpAnyH_take (i := 6) (oi := { dst := some 44, op := Go.Op.load 3 (Go.Operand.tmp 43), type := 3, pos := "law.go:93", after := #[{ on := 5, ground := Go.Ground.data }, { on := 4, ground := Go.Ground.guard }], guard := some (4, true) }) (v := ?_) rfl (by kernel_rfl) (by kernel_rfl) (by kernel_rfl) (fun _ _ _ h => h) (Or.inl ⟨by rfl, ?_⟩) (by assumption) ?_
      rotate_left
      · (intro W hSw; (try dsimp only at hSw); go_simp; try with_reducible rfl)
      try simp only [Act.put, List.setIfInBounds_toArray, List.set_cons_zero, List.set_cons_succ]
      refine wpAnyH_take (i := 7) (oi := { dst := some 45, op := Go.Op.binOp Go.BinOp.eql 3 (Go.Operand.tmp 44) (Go.Operand.const (Go.Value.int Go.IntKind.i64 3)) 3, type := 4, pos := "law.go:93", after := #[{ on := 6, ground := Go.Ground.data }, { on := 4, ground := Go.Ground.guard }], guard := some (4, true) }) (v := ?_) rfl (by kernel_rfl) (by kernel_rfl) (by kernel_rfl) (fun _ _ _ h => h) (Or.inl ⟨by rfl, ?_⟩) (by assumption) ?_
      rotate_left
      · (intro W hSw; (try dsimp only at hSw); go_simp; try with_reducible rfl)
      try simp only [Act.put, List.setIfInBounds_toArray, List.set_cons_zero, List.set_cons_succ]
      refine wpAnyH_take (i := 8) (oi := { dst := some 46, op := Go.Op.pick (Go.Operand.tmp 42) (Go.Operand.tmp 45) (Go.Operand.const (Go.Value.bool false)), type := 4, pos := "law.go:93", after := #[{ on := 4, ground := Go.Ground.data }, { on := 7, ground := Go.Ground.data }], guard := none }) (v := ?_) rfl (by kernel_rfl) (by kernel_rfl) (by kernel_rfl) (fun _ _ _ h => h) (Or.inl ⟨by rfl, ?_⟩) (by assumption) ?_
      rotate_left
      · (intro W hSw; (try dsimp only at hSw); go_simp; try with_reducible rfl)
      try simp only [Act.put, List.setIfInBounds_toArray, List.set_cons_zero, List.set_cons_succ]
      refine wpAnyH_take (i := 9) (oi := { dst := some 47, op := Go.Op.move (Go.Operand.tmp 46), type := 4, pos := "law.go:93", after := #[{ on := 8, ground := Go.Ground.data }, { on := 4, ground := Go.Ground.chain }], guard := none }) (v := ?_) rfl (by kernel_rfl) (by kernel_rfl) (by kernel_rfl) (fun _ _ _ h => h) (Or.inl ⟨by rfl, ?_⟩) (by assumption) ?_
      rotate_left
      · (intro W hSw; (try dsimp only at hSw); go_simp; try with_reducible rfl)
      try simp only [Act.put, List.setIfInBounds_toArray, List.set_cons_zero, List.set_cons_succ]
      refine wpAnyH_take (i := 10) (oi := { dst := some 48, op := Go.Op.load 26 (Go.Operand.tmp 3), type := 26, pos := "law.go:93", after := #[{ on := 9, ground := Go.Ground.guard }], guard := some (9, true) }) (v := ?_) rfl (by kernel_rfl) (by kernel_rfl) (by kernel_rfl) (fun _ _ _ h => h) (Or.inl ⟨by rfl, ?_⟩) (by assumption) ?_
      rotate_left
      · (intro W hSw; (try dsimp only at hSw); go_simp; try with_reducible rfl)
      try simp only [Act.put, List.setIfInBounds_toArray, List.set_cons_zero, List.set_cons_succ]
      refine wpAnyH_take (i := 12) (oi := { dst := some 50, op := Go.Op.load 26 (Go.Operand.tmp 1), type := 26, pos := "law.go:93", after := #[{ on := 9, ground := Go.Ground.guard }], guard := some (9, true) }) (v := ?_) rfl (by kernel_rfl) (by kernel_rfl) (by kernel_rfl) (fun _ _ _ h => h) (Or.inl ⟨by rfl, ?_⟩) (by assumption) ?_
      rotate_left
      · (intro W hSw; (try dsimp only at hSw); go_simp; try with_reducible rfl)
      try simp only [Act.put, List.setIfInBounds_toArray, List.set_cons_zero, List.set_cons_succ]
      refine wpAnyH_ready (rs := [11]) (by kernel_rfl) (by simp) ?_
      refine AllReadyH.cons (o := { dst := some 49, op := Go.Op.call { callee := Go.Callee.value (Go.Operand.func 15), args := #[Go.Operand.tmp 48], argTypes := #[26] }, type := 40, pos := "law.go:93", after := #[{ on := 10, ground := Go.Ground.data }, { on := 9, ground := Go.Ground.chain }, { on := 9, ground := Go.Ground.guard }], guard := some (9, true) }) rfl (fun K hK => ?_) AllReadyH.nil
      go_simp
      go_at_call 15
      with_reducible refine (HN1.out _ (by assumption)).mono ?_
      clear HN1
      rintro e w11 ⟨n1, k1, g1, rfl, hNx, hS11⟩
      refine hK.out _ _ ?_ (fun hHeld => ?_)
      · exact hS11
      clear hK K
      try simp only [Act.put, List.setIfInBounds_toArray, List.set_cons_zero, List.set_cons_succ]
      refine wpAnyH_ready (rs := [13]) (by kernel_rfl) (by simp) ?_
      refine AllReadyH.cons (o := { dst := some 51, op := Go.Op.call { callee := Go.Callee.value (Go.Operand.func 15), args := #[Go.Operand.tmp 50], argTypes := #[26] }, type := 40, pos := "law.go:93", after := #[{ on := 12, ground := Go.Ground.data }, { on := 11, ground := Go.Ground.chain }, { on := 9, ground := Go.Ground.guard }], guard := some (9, true) }) rfl (fun K hK => ?_) AllReadyH.nil
      go_simp
      go_at_call 15
      with_reducible refine (HN2.out w11 _ _ k1 hNx.out hS11 _ (by first | exact Below.refl _ _ | exact (Below.refl _ _).drew)).mono ?_
      clear HN2
      rintro e w12 ⟨n2, k2, rfl, hNy, hS12⟩
      refine hK.out _ _ ?_ (fun hHeld => ?_)
      · exact hS12
      clear hK K
      try simp only [Act.put, List.setIfInBounds_toArray, List.set_cons_zero, List.set_cons_succ]
      refine wpAnyH_ready (rs := [14]) (by kernel_rfl) (by simp) ?_
      refine AllReadyH.cons (o := { dst := some 52, op := Go.Op.call { callee := Go.Callee.value (Go.Operand.func 21), args := #[Go.Operand.tmp 49, Go.Operand.tmp 51], argTypes := #[40, 40] }, type := 4, pos := "law.go:93", after := #[{ on := 11, ground := Go.Ground.data }, { on := 13, ground := Go.Ground.data }, { on := 13, ground := Go.Ground.chain }, { on := 9, ground := Go.Ground.guard }], guard := some (9, true) }) rfl (fun K hK => ?_) AllReadyH.nil
      go_simp
      go_at_call 21
      with_reducible refine (hNy.out _ (by first | exact Below.refl _ _ | exact (Below.refl _ _).drew)).mono ?_
      clear hNy
      rintro e w13 ⟨rfl, hS13⟩
      refine hK.out _ _ ?_ (fun hHeld => ?_)
      · exact hS13
      clear hK K
      try simp only [Act.put, List.setIfInBounds_toArray, List.set_cons_zero, List.set_cons_succ]
      refine wpAnyH_take (i := 15) (oi := { dst := some 53, op := Go.Op.pick (Go.Operand.tmp 47) (Go.Operand.tmp 52) (Go.Operand.const (Go.Value.bool false)), type := 4, pos := "law.go:93", after := #[{ on := 9, ground := Go.Ground.data }, { on := 14, ground := Go.Ground.data }], guard := none }) (v := ?_) rfl (by kernel_rfl) (by kernel_rfl) (by kernel_rfl) (fun _ _ _ h => h) (Or.inl ⟨by rfl, ?_⟩) (by assumption) ?_
      rotate_left
      · (intro W hSw; (try dsimp only at hSw); go_simp; try with_reducible rfl)
      try simp only [Act.put, List.setIfInBounds_toArray, List.set_cons_zero, List.set_cons_succ]
      refine wpAnyH_take (i := 16) (oi := { dst := some 54, op := Go.Op.move (Go.Operand.tmp 53), type := 4, pos := "law.go:93", after := #[{ on := 15, ground := Go.Ground.data }, { on := 14, ground := Go.Ground.chain }], guard := none }) (v := ?_) rfl (by kernel_rfl) (by kernel_rfl) (by kernel_rfl) (fun _ _ _ h => h) (Or.inl ⟨by rfl, ?_⟩) (by assumption) ?_
      rotate_left
      · (intro W hSw; (try dsimp only at hSw); go_simp; try with_reducible rfl)
      try simp only [Act.put, List.setIfInBounds_toArray, List.set_cons_zero, List.set_cons_succ]
      refine wpAnyH_take (i := 17) (oi := { dst := some 55, op := Go.Op.load 31 (Go.Operand.tmp 6), type := 31, pos := "law.go:93", after := #[{ on := 16, ground := Go.Ground.guard }], guard := some (16, true) }) (v := ?_) rfl (by kernel_rfl) (by kernel_rfl) (by kernel_rfl) (fun _ _ _ h => h) (Or.inl ⟨by rfl, ?_⟩) (by assumption) ?_
      rotate_left
      · (intro W hSw; (try dsimp only at hSw); go_simp; try with_reducible rfl)
      try simp only [Act.put, List.setIfInBounds_toArray, List.set_cons_zero, List.set_cons_succ]
      refine wpAnyH_take (i := 18) (oi := { dst := some 56, op := Go.Op.build 31 #[], type := 31, pos := "law.go:93", after := #[{ on := 16, ground := Go.Ground.guard }], guard := some (16, true) }) (v := ?_) rfl (by kernel_rfl) (by kernel_rfl) (by kernel_rfl) (fun _ _ _ h => h) (Or.inl ⟨by rfl, ?_⟩) (by assumption) ?_
      rotate_left
      · (intro W hSw; (try dsimp only at hSw); go_simp; try with_reducible rfl)
      try simp only [Act.put, List.setIfInBounds_toArray, List.set_cons_zero, List.set_cons_succ]
      refine wpAnyH_take (i := 19) (oi := { dst := some 57, op := Go.Op.binOp Go.BinOp.eql 31 (Go.Operand.tmp 55) (Go.Operand.tmp 56) 31, type := 4, pos := "law.go:93", after := #[{ on := 17, ground := Go.Ground.data }, { on := 18, ground := Go.Ground.data }, { on := 16, ground := Go.Ground.guard }], guard := some (16, true) }) (v := ?_) rfl (by kernel_rfl) (by kernel_rfl) (by kernel_rfl) (fun _ _ _ h => h) (Or.inl ⟨by rfl, ?_⟩) (by assumption) ?_
      rotate_left
      · (intro W hSw; (try dsimp only at hSw); go_simp; try with_reducible rfl)
      try simp only [Act.put, List.setIfInBounds_toArray, List.set_cons_zero, List.set_cons_succ]
      refine wpAnyH_take (i := 20) (oi := { dst := some 58, op := Go.Op.pick (Go.Operand.tmp 54) (Go.Operand.tmp 57) (Go.Operand.const (Go.Value.bool false)), type := 4, pos := "law.go:93", after := #[{ on := 16, ground := Go.Ground.data }, { on := 19, ground := Go.Ground.data }], guard := none }) (v := ?_) rfl (by kernel_rfl) (by kernel_rfl) (by kernel_rfl) (fun _ _ _ h => h) (Or.inl ⟨by rfl, ?_⟩) (by assumption) ?_
      rotate_left
      · (intro W hSw; (try dsimp only at hSw); go_simp; try with_reducible rfl)
      try simp only [Act.put, List.setIfInBounds_toArray, List.set_cons_zero, List.set_cons_succ]
      refine wpAnyH_take (i := 21) (oi := { dst := some 59, op := Go.Op.move (Go.Operand.tmp 58), type := 4, pos := "law.go:93", after := #[{ on := 20, ground := Go.Ground.data }, { on := 16, ground := Go.Ground.chain }], guard := none }) (v := ?_) rfl (by kernel_rfl) (by kernel_rfl) (by kernel_rfl) (fun _ _ _ h => h) (Or.inl ⟨by rfl, ?_⟩) (by assumption) ?_
      rotate_left
      · (intro W hSw; (try dsimp only at hSw); go_simp; try with_reducible rfl)
      try simp only [Act.put, List.setIfInBounds_toArray, List.set_cons_zero, List.set_cons_succ]
      refine wpAnyH_take (i := 22) (oi := { dst := some 60, op := Go.Op.load 26 (Go.Operand.tmp 5), type := 26, pos := "law.go:93", after := #[{ on := 21, ground := Go.Ground.guard }], guard := some (21, true) }) (v := ?_) rfl (by kernel_rfl) (by kernel_rfl) (by kernel_rfl) (fun _ _ _ h => h) (Or.inl ⟨by rfl, ?_⟩) (by assumption) ?_
      rotate_left
      · (intro W hSw; (try dsimp only at hSw); go_simp; try with_reducible rfl)
      try simp only [Act.put, List.setIfInBounds_toArray, List.set_cons_zero, List.set_cons_succ]
      refine wpAnyH_take (i := 23) (oi := { dst := some 61, op := Go.Op.load 26 (Go.Operand.tmp 3), type := 26, pos := "law.go:93", after := #[{ on := 21, ground := Go.Ground.guard }], guard := some (21, true) }) (v := ?_) rfl (by kernel_rfl) (by kernel_rfl) (by kernel_rfl) (fun _ _ _ h => h) (Or.inl ⟨by rfl, ?_⟩) (by assumption) ?_
      rotate_left
      · (intro W hSw; (try dsimp only at hSw); go_simp; try with_reducible rfl)
      try simp only [Act.put, List.setIfInBounds_toArray, List.set_cons_zero, List.set_cons_succ]
      refine wpAnyH_ready (rs := [24]) (by kernel_rfl) (by simp) ?_
      refine AllReadyH.cons (o := { dst := some 62, op := Go.Op.call { callee := Go.Callee.value (Go.Operand.func 29), args := #[Go.Operand.tmp 60, Go.Operand.tmp 61], argTypes := #[26, 26] }, type := 4, pos := "law.go:93", after := #[{ on := 22, ground := Go.Ground.data }, { on := 23, ground := Go.Ground.data }, { on := 21, ground := Go.Ground.chain }, { on := 21, ground := Go.Ground.guard }], guard := some (21, true) }) rfl (fun K hK => ?_) AllReadyH.nil
      go_simp
      go_at_call 29
      with_reducible refine (HS1.out _ (by assumption)).mono ?_
      clear HS1
      rintro e w14 ⟨rfl, hb⟩
      have hS14 : Below w8.heap.size w8 w14 := Below.trans (show Below w8.heap.size w8 _ by assumption) (hb.mono (show Below w8.heap.size w8 _ by assumption).size)
      clear hb
      refine hK.out _ _ ?_ (fun hHeld => ?_)
      · exact hS14
      clear hK K
      try simp only [Act.put, List.setIfInBounds_toArray, List.set_cons_zero, List.set_cons_succ]
      refine wpAnyH_take (i := 25) (oi := { dst := some 63, op := Go.Op.pick (Go.Operand.tmp 59) (Go.Operand.tmp 62) (Go.Operand.const (Go.Value.bool false)), type := 4, pos := "law.go:93", after := #[{ on := 21, ground := Go.Ground.data }, { on := 24, ground := Go.Ground.data }], guard := none }) (v := ?_) rfl (by kernel_rfl) (by kernel_rfl) (by kernel_rfl) (fun _ _ _ h => h) (Or.inl ⟨by rfl, ?_⟩) (by assumption) ?_
      rotate_left
      · (intro W hSw; (try dsimp only at hSw); go_simp; try with_reducible rfl)
      try simp only [Act.put, List.setIfInBounds_toArray, List.set_cons_zero, List.set_cons_succ]
      refine wpAnyH_take (i := 26) (oi := { dst := some 64, op := Go.Op.move (Go.Operand.tmp 63), type := 4, pos := "law.go:93", after := #[{ on := 25, ground := Go.Ground.data }, { on := 24, ground := Go.Ground.chain }], guard := none }) (v := ?_) rfl (by kernel_rfl) (by kernel_rfl) (by kernel_rfl) (fun _ _ _ h => h) (Or.inl ⟨by rfl, ?_⟩) (by assumption) ?_
      rotate_left
      · (intro W hSw; (try dsimp only at hSw); go_simp; try with_reducible rfl)
      try simp only [Act.put, List.setIfInBounds_toArray, List.set_cons_zero, List.set_cons_succ]
      refine wpAnyH_take (i := 27) (oi := { dst := some 65, op := Go.Op.fieldAddr 26 (Go.Operand.tmp 1) 0, type := 0, pos := "law.go:93", after := #[{ on := 26, ground := Go.Ground.guard }], guard := some (26, true) }) (v := ?_) rfl (by kernel_rfl) (by kernel_rfl) (by kernel_rfl) (fun _ _ _ h => h) (Or.inl ⟨by rfl, ?_⟩) (by assumption) ?_
      rotate_left
      · (intro W hSw; (try dsimp only at hSw); go_simp; try with_reducible rfl)
      try simp only [Act.put, List.setIfInBounds_toArray, List.set_cons_zero, List.set_cons_succ]
      refine wpAnyH_take (i := 28) (oi := { dst := some 66, op := Go.Op.load 3 (Go.Operand.tmp 65), type := 3, pos := "law.go:93", after := #[{ on := 27, ground := Go.Ground.data }, { on := 26, ground := Go.Ground.guard }], guard := some (26, true) }) (v := ?_) rfl (by kernel_rfl) (by kernel_rfl) (by kernel_rfl) (fun _ _ _ h => h) (Or.inl ⟨by rfl, ?_⟩) (by assumption) ?_
      rotate_left
      · (intro W hSw; (try dsimp only at hSw); go_simp; try with_reducible rfl)
      try simp only [Act.put, List.setIfInBounds_toArray, List.set_cons_zero, List.set_cons_succ]
      refine wpAnyH_take (i := 29) (oi := { dst := some 67, op := Go.Op.binOp Go.BinOp.lss 3 (Go.Operand.tmp 66) (Go.Operand.const (Go.Value.int Go.IntKind.i64 3)) 3, type := 4, pos := "law.go:93", after := #[{ on := 28, ground := Go.Ground.data }, { on := 26, ground := Go.Ground.guard }], guard := some (26, true) }) (v := ?_) rfl (by kernel_rfl) (by kernel_rfl) (by kernel_rfl) (fun _ _ _ h => h) (Or.inl ⟨by rfl, ?_⟩) (by assumption) ?_
      rotate_left
      · (intro W hSw; (try dsimp only at hSw); go_simp; try with_reducible rfl)
      try simp only [Act.put, List.setIfInBounds_toArray, List.set_cons_zero, List.set_cons_succ]
      refine wpAnyH_take (i := 30) (oi := { dst := some 68, op := Go.Op.move (Go.Operand.tmp 67), type := 4, pos := "law.go:93", after := #[{ on := 29, ground := Go.Ground.data }, { on := 26, ground := Go.Ground.chain }, { on := 26, ground := Go.Ground.guard }], guard := some (26, true) }) (v := ?_) rfl (by kernel_rfl) (by kernel_rfl) (by kernel_rfl) (fun _ _ _ h => h) (Or.inl ⟨by rfl, ?_⟩) (by assumption) ?_
      rotate_left
      · (intro W hSw; (try dsimp only at hSw); go_simp; try with_reducible rfl)
      try simp only [Act.put, List.setIfInBounds_toArray, List.set_cons_zero, List.set_cons_succ]
      refine wpAnyH_take (i := 31) (oi := { dst := some 69, op := Go.Op.load 26 (Go.Operand.tmp 1), type := 26, pos := "law.go:93", after := #[{ on := 30, ground := Go.Ground.guard }], guard := some (30, false) }) (v := undef) rfl (by kernel_rfl) (by kernel_rfl) (by kernel_rfl) (fun _ _ _ h => h) (Or.inr ⟨by rfl, rfl⟩) (by assumption) ?_
      try simp only [Act.put, List.setIfInBounds_toArray, List.set_cons_zero, List.set_cons_succ]
      refine wpAnyH_take (i := 32) (oi := { dst := some 70, op := Go.Op.load 26 (Go.Operand.tmp 3), type := 26, pos := "law.go:93", after := #[{ on := 30, ground := Go.Ground.guard }], guard := some (30, false) }) (v := undef) rfl (by kernel_rfl) (by kernel_rfl) (by kernel_rfl) (fun _ _ _ h => h) (Or.inr ⟨by rfl, rfl⟩) (by assumption) ?_
      try simp only [Act.put, List.setIfInBounds_toArray, List.set_cons_zero, List.set_cons_succ]
      refine wpAnyH_take (i := 33) (oi := { dst := some 71, op := Go.Op.call { callee := Go.Callee.value (Go.Operand.func 29), args := #[Go.Operand.tmp 69, Go.Operand.tmp 70], argTypes := #[26, 26] }, type := 4, pos := "law.go:93", after := #[{ on := 31, ground := Go.Ground.data }, { on := 32, ground := Go.Ground.data }, { on := 30, ground := Go.Ground.chain }, { on := 30, ground := Go.Ground.guard }], guard := some (30, false) }) (v := undef) rfl (by kernel_rfl) (by kernel_rfl) (by kernel_rfl) (fun _ _ _ h => h) (Or.inr ⟨by rfl, rfl⟩) (by assumption) ?_
      try simp only [Act.put, List.setIfInBounds_toArray, List.set_cons_zero, List.set_cons_succ]
      refine wpAnyH_take (i := 34) (oi := { dst := some 72, op := Go.Op.pick (Go.Operand.tmp 68) (Go.Operand.const (Go.Value.bool true)) (Go.Operand.tmp 71), type := 4, pos := "law.go:93", after := #[{ on := 30, ground := Go.Ground.data }, { on := 33, ground := Go.Ground.data }, { on := 26, ground := Go.Ground.guard }], guard := some (26, true) }) (v := ?_) rfl (by kernel_rfl) (by kernel_rfl) (by kernel_rfl) (fun _ _ _ h => h) (Or.inl ⟨by rfl, ?_⟩) (by assumption) ?_
      rotate_left
      · (intro W hSw; (try dsimp only at hSw); go_simp; try with_reducible rfl)
      try simp only [Act.put, List.setIfInBounds_toArray, List.set_cons_zero, List.set_cons_succ]
      refine wpAnyH_take (i := 35) (oi := { dst := some 73, op := Go.Op.pick (Go.Operand.tmp 64) (Go.Operand.tmp 72) (Go.Operand.const (Go.Value.bool false)), type := 4, pos := "law.go:93", after := #[{ on := 26, ground := Go.Ground.data }, { on := 34, ground := Go.Ground.data }], guard := none }) (v := ?_) rfl (by kernel_rfl) (by kernel_rfl) (by kernel_rfl) (fun _ _ _ h => h) (Or.inl ⟨by rfl, ?_⟩) (by assumption) ?_
      rotate_left
      · (intro W hSw; (try dsimp only at hSw); go_simp; try with_reducible rfl)
      try simp only [Act.put, List.setIfInBounds_toArray, List.set_cons_zero, List.set_cons_succ]
      refine wpAnyH_take (i := 36) (oi := { dst := some 74, op := Go.Op.move (Go.Operand.tmp 73), type := 4, pos := "law.go:93", after := #[{ on := 35, ground := Go.Ground.data }, { on := 33, ground := Go.Ground.chain }], guard := none }) (v := ?_) rfl (by kernel_rfl) (by kernel_rfl) (by kernel_rfl) (fun _ _ _ h => h) (Or.inl ⟨by rfl, ?_⟩) (by assumption) ?_
      rotate_left
      · (intro W hSw; (try dsimp only at hSw); go_simp; try with_reducible rfl)
      try simp only [Act.put, List.setIfInBounds_toArray, List.set_cons_zero, List.set_cons_succ]
      refine wpAnyH_take (i := 37) (oi := { dst := some 75, op := Go.Op.fieldAddr 26 (Go.Operand.tmp 3) 3, type := 0, pos := "law.go:93", after := #[{ on := 36, ground := Go.Ground.guard }], guard := some (36, true) }) (v := ?_) rfl (by kernel_rfl) (by kernel_rfl) (by kernel_rfl) (fun _ _ _ h => h) (Or.inl ⟨by rfl, ?_⟩) (by assumption) ?_
      rotate_left
      · (intro W hSw; (try dsimp only at hSw); go_simp; try with_reducible rfl)
      try simp only [Act.put, List.setIfInBounds_toArray, List.set_cons_zero, List.set_cons_succ]
      refine wpAnyH_take (i := 38) (oi := { dst := some 76, op := Go.Op.load 24 (Go.Operand.tmp 75), type := 24, pos := "law.go:93", after := #[{ on := 37, ground := Go.Ground.data }, { on := 36, ground := Go.Ground.guard }], guard := some (36, true) }) (v := ?_) rfl (by kernel_rfl) (by kernel_rfl) (by kernel_rfl) (fun _ _ _ h => h) (Or.inl ⟨by rfl, ?_⟩) (by assumption) ?_
      rotate_left
      · (intro W hSw; (try dsimp only at hSw); go_simp; try with_reducible rfl)
      try simp only [Act.put, List.setIfInBounds_toArray, List.set_cons_zero, List.set_cons_succ]
      refine wpAnyH_take (i := 39) (oi := { dst := some 77, op := Go.Op.call { callee := Go.Callee.builtin Go.Builtin.len, args := #[Go.Operand.tmp 76], argTypes := #[24] }, type := 3, pos := "law.go:93", after := #[{ on := 38, ground := Go.Ground.data }, { on := 36, ground := Go.Ground.guard }], guard := some (36, true) }) (v := ?_) rfl (by kernel_rfl) (by kernel_rfl) (by kernel_rfl) (fun _ _ _ h => h) (Or.inl ⟨by rfl, ?_⟩) (by assumption) ?_
      rotate_left
      · (intro W hSw; (try dsimp only at hSw); go_simp; try with_reducible rfl)
      try simp only [Act.put, List.setIfInBounds_toArray, List.set_cons_zero, List.set_cons_succ]
      refine wpAnyH_take (i := 40) (oi := { dst := some 78, op := Go.Op.fieldAddr 26 (Go.Operand.tmp 1) 3, type := 0, pos := "law.go:93", after := #[{ on := 36, ground := Go.Ground.guard }], guard := some (36, true) }) (v := ?_) rfl (by kernel_rfl) (by kernel_rfl) (by kernel_rfl) (fun _ _ _ h => h) (Or.inl ⟨by rfl, ?_⟩) (by assumption) ?_
      rotate_left
      · (intro W hSw; (try dsimp only at hSw); go_simp; try with_reducible rfl)
      try simp only [Act.put, List.setIfInBounds_toArray, List.set_cons_zero, List.set_cons_succ]
      refine wpAnyH_take (i := 41) (oi := { dst := some 79, op := Go.Op.load 24 (Go.Operand.tmp 78), type := 24, pos := "law.go:93", after := #[{ on := 40, ground := Go.Ground.data }, { on := 36, ground := Go.Ground.guard }], guard := some (36, true) }) (v := ?_) rfl (by kernel_rfl) (by kernel_rfl) (by kernel_rfl) (fun _ _ _ h => h) (Or.inl ⟨by rfl, ?_⟩) (by assumption) ?_
      rotate_left
      · (intro W hSw; (try dsimp only at hSw); go_simp; try with_reducible rfl)
      try simp only [Act.put, List.setIfInBounds_toArray, List.set_cons_zero, List.set_cons_succ]
      refine wpAnyH_take (i := 42) (oi := { dst := some 80, op := Go.Op.call { callee := Go.Callee.builtin Go.Builtin.len, args := #[Go.Operand.tmp 79], argTypes := #[24] }, type := 3, pos := "law.go:93", after := #[{ on := 41, ground := Go.Ground.data }, { on := 36, ground := Go.Ground.guard }], guard := some (36, true) }) (v := ?_) rfl (by kernel_rfl) (by kernel_rfl) (by kernel_rfl) (fun _ _ _ h => h) (Or.inl ⟨by rfl, ?_⟩) (by assumption) ?_
      rotate_left
      · (intro W hSw; (try dsimp only at hSw); go_simp; try with_reducible rfl)
      try simp only [Act.put, List.setIfInBounds_toArray, List.set_cons_zero, List.set_cons_succ]
      refine wpAnyH_take (i := 43) (oi := { dst := some 81, op := Go.Op.binOp Go.BinOp.eql 3 (Go.Operand.tmp 77) (Go.Operand.tmp 80) 3, type := 4, pos := "law.go:93", after := #[{ on := 39, ground := Go.Ground.data }, { on := 42, ground := Go.Ground.data }, { on := 36, ground := Go.Ground.guard }], guard := some (36, true) }) (v := ?_) rfl (by kernel_rfl) (by kernel_rfl) (by kernel_rfl) (fun _ _ _ h => h) (Or.inl ⟨by rfl, ?_⟩) (by assumption) ?_
      rotate_left
      · (intro W hSw; (try dsimp only at hSw); go_simp; try with_reducible rfl)
      try simp only [Act.put, List.setIfInBounds_toArray, List.set_cons_zero, List.set_cons_succ]
      refine wpAnyH_take (i := 44) (oi := { dst := some 82, op := Go.Op.pick (Go.Operand.tmp 74) (Go.Operand.tmp 81) (Go.Operand.const (Go.Value.bool false)), type := 4, pos := "law.go:93", after := #[{ on := 36, ground := Go.Ground.data }, { on := 43, ground := Go.Ground.data }], guard := none }) (v := ?_) rfl (by kernel_rfl) (by kernel_rfl) (by kernel_rfl) (fun _ _ _ h => h) (Or.inl ⟨by rfl, ?_⟩) (by assumption) ?_
      rotate_left
      · (intro W hSw; (try dsimp only at hSw); go_simp; try with_reducible rfl)
      try simp only [Act.put, List.setIfInBounds_toArray, List.set_cons_zero, List.set_cons_succ]
      refine wpAnyH_take (i := 45) (oi := { dst := some 2, op := Go.Op.assign (Go.Operand.tmp 82), type := 4, pos := "law.go:93", after := #[{ on := 44, ground := Go.Ground.data }, { on := 36, ground := Go.Ground.chain }, { on := 0, ground := Go.Ground.phase }, { on := 1, ground := Go.Ground.phase }, { on := 2, ground := Go.Ground.phase }, { on := 3, ground := Go.Ground.phase }, { on := 4, ground := Go.Ground.phase }, { on := 5, ground := Go.Ground.phase }, { on := 6, ground := Go.Ground.phase }, { on := 7, ground := Go.Ground.phase }, { on := 8, ground := Go.Ground.phase }, { on := 9, ground := Go.Ground.phase }, { on := 10, ground := Go.Ground.phase }, { on := 11, ground := Go.Ground.phase }, { on := 12, ground := Go.Ground.phase }, { on := 13, ground := Go.Ground.phase }, { on := 14, ground := Go.Ground.phase }, { on := 15, ground := Go.Ground.phase }, { on := 16, ground := Go.Ground.phase }, { on := 17, ground := Go.Ground.phase }, { on := 18, ground := Go.Ground.phase }, { on := 19, ground := Go.Ground.phase }, { on := 20, ground := Go.Ground.phase }, { on := 21, ground := Go.Ground.phase }, { on := 22, ground := Go.Ground.phase }, { on := 23, ground := Go.Ground.phase }, { on := 24, ground := Go.Ground.phase }, { on := 25, ground := Go.Ground.phase }, { on := 26, ground := Go.Ground.phase }, { on := 27, ground := Go.Ground.phase }, { on := 28, ground := Go.Ground.phase }, { on := 29, ground := Go.Ground.phase }, { on := 30, ground := Go.Ground.phase }, { on := 31, ground := Go.Ground.phase }, { on := 32, ground := Go.Ground.phase }, { on := 33, ground := Go.Ground.phase }, { on := 34, ground := Go.Ground.phase }, { on := 35, ground := Go.Ground.phase }, { on := 36, ground := Go.Ground.phase }, { on := 37, ground := Go.Ground.phase }, { on := 38, ground := Go.Ground.phase }, { on := 39, ground := Go.Ground.phase }, { on := 40, ground := Go.Ground.phase }, { on := 41, ground := Go.Ground.phase }, { on := 42, ground := Go.Ground.phase }, { on := 43, ground := Go.Ground.phase }, { on := 44, ground := Go.Ground.phase }], guard := none }) (v := ?_) rfl (by kernel_rfl) (by kernel_rfl) (by kernel_rfl) (fun _ _ _ h => h) (Or.inl ⟨by rfl, ?_⟩) (by assumption) ?_
      rotate_left
      · (intro W hSw; (try dsimp only at hSw); go_simp; try with_reducible rfl)
      try simp only [Act.put, List.setIfInBounds_toArray, List.set_cons_zero, List.set_cons_succ]
      refine wpAnyH_done (by kernel_rfl) ?_ _

      have HEn : Hid (Below w8.heap.size w8 w14) := Lib.hid hS14
      clear da0 da1 da2 da3 db0 db1 db2 db3 dc0 dc1 dc2 dc3 df0 df1 hS10 hS11 hS12 hS13 hS14
      go_wp2
      go_ret
      exact ⟨rfl, HLw.out.trans (HEn.out.mono HLw.out.size)⟩
    · have hvb : decide (x.ver < 3) = false := decide_eq_false hv
      have HS2 : Hid (∀ W, Below w8.heap.size w8 W → Calls Try.prog 29 #[.agg #[.int .i64 x.ver, .slice x.pa x.procs.length x.pc, .slice x.la x.links.length x.lc, .slice x.ea x.events.length x.ec], .agg #[.int .i64 z.ver, .slice z.pa z.procs.length z.pc, .slice z.la z.links.length z.lc, .slice z.ea z.events.length z.ec]] W fun e w' => e = .returned (.bool true) ∧ Below W.heap.size W w') := Lib.hid (fun W hW => rsame_t (hX.kw.at_.on hW) (hX.zat.on hW) (by rw [HZ0.out, new_3 HR.out (by have := HR.out.ver; show x.ver = 3; have h2 : x.m.ver = x.ver := rfl; omega)]))
      clear hX hY hyb hyf hxs hzs hsm HV HSz HSz' HNm HR HRn HY0 HZ0 hv
      go_region_held3 (fun W => Below w8.heap.size w8 W) (first | assumption | exact Below.refl _ _ | exact (Below.refl _ _).drew | exact Below.drew (by assumption)) (first
        | (go_at_call 11; with_reducible refine (HCk.out _ (by assumption)).mono ?_; rintro e w10 ⟨rfl, hb⟩; have hS10 : Below w8.heap.size w8 w10 := Below.trans (show Below w8.heap.size w8 _ by assumption) (hb.mono (show Below w8.heap.size w8 _ by assumption).size); clear hb)
        | (go_at_call 15; with_reducible refine (HN1.out _ (by assumption)).mono ?_; clear HN1; rintro e w11 ⟨n1, k1, g1, rfl, hNx, hS11⟩)
        | (go_at_call 15; with_reducible refine (HN2.out w11 _ _ k1 hNx.out hS11 _ (by first | exact Below.refl _ _ | exact (Below.refl _ _).drew)).mono ?_; clear HN2; rintro e w12 ⟨n2, k2, rfl, hNy, hS12⟩)
        | (go_at_call 21; with_reducible refine (hNy.out _ (by first | exact Below.refl _ _ | exact (Below.refl _ _).drew)).mono ?_; clear hNy; rintro e w13 ⟨rfl, hS13⟩)
        | (go_at_call 29; with_reducible refine (HS1.out _ (by assumption)).mono ?_; clear HS1; rintro e w14 ⟨rfl, hb⟩; have hS14 : Below w8.heap.size w8 w14 := Below.trans (show Below w8.heap.size w8 _ by assumption) (hb.mono (show Below w8.heap.size w8 _ by assumption).size); clear hb)
        | (go_at_call 29; with_reducible refine (HS2.out _ (by assumption)).mono ?_; clear HS2; rintro e w15 ⟨rfl, hb⟩; have hS15 : Below w8.heap.size w8 w15 := Below.trans (show Below w8.heap.size w8 _ by assumption) (hb.mono (show Below w8.heap.size w8 _ by assumption).size); clear hb))
      have HEn : Hid (Below w8.heap.size w8 w15) := Lib.hid hS15
      clear da0 da1 da2 da3 db0 db1 db2 db3 dc0 dc1 dc2 dc3 df0 df1 hS10 hS11 hS12 hS13 hS14 hS15
      go_wp2
      go_ret
      exact ⟨rfl, HLw.out.trans (HEn.out.mono HLw.out.size)⟩
end Go.Proofs.Ytgnlehenbdcgmaa.Md
