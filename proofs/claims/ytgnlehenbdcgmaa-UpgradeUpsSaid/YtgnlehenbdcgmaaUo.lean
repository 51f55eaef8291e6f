/- Upgrade: the example. -/
import Derived.Test.YtgnlehenbdcgmaaUm
import Derived.Test.YtgnlehenbdcgmaaMdQ
set_option linter.unusedVariables false
set_option linter.unusedSectionVars false
set_option linter.unusedSimpArgs false
namespace Go.Proofs.Ytgnlehenbdcgmaa.Md
open Go.RowKit Go.Shelf

theorem eqlU (a b : Int) (V : World) : (binOp BinOp.eql 31 (.agg #[.int .i64 a, .int .i64 b]) (.agg #[.int .i64 a, .int .i64 b])).run Try.prog V = .ok (.bool true) V := by
  simp [go_sem, run_equalIn_agg _ _ _ _ _ Try.structFl Try.stoodFl]
def usP : ProcV := ⟨⟨smA, 0, [], []⟩, none, 0, 0, 0, none, 0, 0, 0⟩
def usV (B : Nat) (d : Int) : ModelV := ⟨1, [usP], [⟨smL, smA, smA, d, 0⟩], [], some ⟨B + 1, 0, none⟩, B + 1, 0, 1, some ⟨B + 1 + 1, 0, none⟩, B + 1 + 1, 0, 1, none, 0, 0, 0⟩
def usM (d : Int) : ModelM := ⟨1, [⟨smA, 0, [], []⟩], [⟨smL, smA, smA, d, 0⟩], []⟩
theorem usV_m (B : Nat) (d : Int) : (usV B d).m = usM d := rfl
theorem usV_at {B : Nat} {d : Int} {W : World} (h1 : W.heap[B + 1]? = some (.cells #[.string ⟨#[97]⟩, .int .i64 0, .slice none 0 0, .slice none 0 0] 36 (0, 0))) (h2 : W.heap[B + 1 + 1]? = some (.cells #[.string ⟨#[108]⟩, .string ⟨#[97]⟩, .string ⟨#[97]⟩, .int .i64 d, .int .i64 0] 57 (0, 0))) : ModelAt W.heap.size W (usV B d) := by
  refine ⟨rows_block (enc := encP) (L := [usP]) (fun _ => rfl) h1 rfl (by show 1 ≤ maxLen; decide) (fun p hp => ?_) rfl, fun p hp => ?_, rows_block (enc := encL) (L := [(⟨smL, smA, smA, d, 0⟩ : LinkM)]) (fun _ => rfl) h2 rfl (by show 1 ≤ maxLen; decide) (fun p hp => ?_) rfl, RowsAt.nil rfl rfl⟩
  · simp only [List.mem_cons, List.not_mem_nil, or_false] at hp
    subst hp
    show (1 : Nat) ≤ maxLen
    decide
  · simp only [usV, List.mem_cons, List.not_mem_nil, or_false] at hp
    subst hp
    exact ⟨RowsAt.nil rfl rfl, RowsAt.nil rfl rfl⟩
  · simp only [List.mem_cons, List.not_mem_nil, or_false] at hp
    subst hp
    exact ⟨by show (1 : Nat) ≤ maxLen; decide, by show (1 : Nat) ≤ maxLen; decide, by show (1 : Nat) ≤ maxLen; decide⟩
theorem usV_sized (B : Nat) (d : Int) : Sized (usV B d).m := ⟨by show 1 ≤ 20000; decide, by show 1 ≤ 20000; decide, by show 0 ≤ 20000; decide, fun p hp => by
  simp only [usV_m, usM, List.mem_cons, List.not_mem_nil, or_false] at hp
  subst hp
  exact ⟨by show 0 ≤ 20000; decide, by show 0 ≤ 20000; decide⟩⟩
theorem usample_any (w : World) (d : Int) : Calls Try.prog 52 #[.int .i64 d] w fun e w' => e = .returned (.agg #[.int .i64 1, .slice (some ⟨w.heap.size + 1, 0, none⟩) 1 1, .slice (some ⟨w.heap.size + 1 + 1, 0, none⟩) 1 1, .slice none 0 0]) ∧ ModelAt w'.heap.size w' (usV w.heap.size d) ∧ Below w.heap.size w w' := by
  go_enter Try.func52, Try.ntmps52
  go_wp2
  have hx0 := heap_alloc (heap_alloc (heap_new (w := w) (.cells #[.int .i64 1, .slice (some ⟨w.heap.size + 1, 0, none⟩) 1 1, .slice (some ⟨w.heap.size + 1 + 1, 0, none⟩) 1 1, .slice none 0 0] 26) rfl) (.cells #[.string ⟨#[97]⟩, .int .i64 0, .slice none 0 0, .slice none 0 0] 36)) (.cells #[.string ⟨#[108]⟩, .string ⟨#[97]⟩, .string ⟨#[97]⟩, .int .i64 d, .int .i64 0] 57)
  have k0 := heap_cell hx0 (i := 0) rfl
  have k1 := heap_cell hx0 (i := 1) rfl
  have k2 := heap_cell hx0 (i := 2) rfl
  have k3 := heap_cell hx0 (i := 3) rfl
  simp only [List.getElem_toArray, List.getElem_cons_zero, List.getElem_cons_succ] at k0 k1 k2 k3
  refine ⟨rfl, .agg #[.int .i64 1, .slice (some ⟨w.heap.size + 1, 0, none⟩) 1 1, .slice (some ⟨w.heap.size + 1 + 1, 0, none⟩) 1 1, .slice none 0 0], by simp [results, Try.f52, go_sem, k0, k1, k2, k3], rfl, usV_at (heap_alloc (heap_new _ (by simp)) _) (heap_new _ (by simp)), (((Below.refl _ w).alloc (Nat.le_refl _) _).alloc (by simp) _).alloc (by simp; omega) _⟩
def usM3 : ModelM := ⟨3, [⟨smA, 1, [], []⟩], [⟨smL, smA, smA, 5000, 1⟩], []⟩
def usM2 : ModelM := ⟨2, [⟨smA, 0, [], []⟩], [⟨smL, smA, smA, 5000, 0⟩], []⟩
theorem us_lat : LatR (usM 5) = (usM3, 0, 0) := by kernel_rfl
theorem us_up : UpR (usM 5) = (usM2, 0, 0) := by kernel_rfl
theorem us_far : ((LatR (usM 1099511627776)).2.1, (LatR (usM 1099511627776)).2.2) = (30, 2) := by kernel_rfl
theorem us_top : ((UpR ⟨3, [], [], []⟩).2.1, (UpR ⟨3, [], [], []⟩).2.2) = (43, 0) := by kernel_rfl
theorem us_ways : ((waysD (usM 5)).take 9).length = 3 := by kernel_rfl
theorem one_at {base : Nat} {W : World} {x : ModelV} (h : OwnM base W x) {v : Int} {p : ProcM} {l : LinkM} {es : List EventM} (hm : x.m = ⟨v, [p], [l], es⟩) : x.ver = v ∧ x.procs.length = 1 ∧ x.links.length = 1 ∧ x.pa = some ⟨x.pb, 0, none⟩ ∧ x.la = some ⟨x.lb, 0, none⟩ ∧ W.cell? ⟨x.pb, 1, none⟩ = some (.int .i64 p.weight) ∧ W.cell? ⟨x.lb, 3, none⟩ = some (.int .i64 l.delay) ∧ W.cell? ⟨x.lb, 4, none⟩ = some (.int .i64 l.weight) := by
  have h1 : x.ver = v := congrArg ModelM.ver hm
  have h2 : x.procs.map (·.p) = [p] := congrArg ModelM.procs hm
  have h3 : x.links = [l] := congrArg ModelM.links hm
  obtain ⟨q, hq, rfl⟩ : ∃ q, x.procs = [q] ∧ q.p = p := by
    rcases hx : x.procs with _ | ⟨q, _ | ⟨r, t⟩⟩
    · rw [hx] at h2; simp at h2
    · rw [hx] at h2
      exact ⟨q, rfl, by simpa using h2⟩
    · rw [hx] at h2; simp at h2
  have ha := h.at_
  have e1 := ha.procs.cell 0 q (by rw [hq]; rfl) 1 _ rfl
  have e2 := ha.links.cell 0 l (by rw [h3]; rfl) 3 _ rfl
  have e3 := ha.links.cell 0 l (by rw [h3]; rfl) 4 _ rfl
  rw [h.po] at e1
  rw [h.lo] at e2 e3
  have p1 := ha.procs.addr.resolve_left (by rw [hq]; simp)
  have p2 := ha.links.addr.resolve_left (by rw [h3]; simp)
  rw [h.po] at p1
  rw [h.lo] at p2
  exact ⟨h1, by rw [hq]; rfl, by rw [h3]; rfl, p1, p2, e1, e2, e3⟩
theorem ulat5 {w : World} {B : Nat} (h : ModelAt w.heap.size w (usV B 5)) : Calls Try.prog 27 #[.agg #[.int .i64 1, .slice (some ⟨B + 1, 0, none⟩) 1 1, .slice (some ⟨B + 1 + 1, 0, none⟩) 1 1, .slice none 0 0]] w (UpQ w (usM3, 0, 0)) := by
  have h := latest_any h (usV_sized B 5)
  rw [usV_m, us_lat] at h
  exact h
theorem uup5 {w : World} {B : Nat} (h : ModelAt w.heap.size w (usV B 5)) : Calls Try.prog 25 #[.agg #[.int .i64 1, .slice (some ⟨B + 1, 0, none⟩) 1 1, .slice (some ⟨B + 1 + 1, 0, none⟩) 1 1, .slice none 0 0]] w (UpQ w (usM2, 0, 0)) := by
  have h := upgradeUp_any h (usV_sized B 5)
  rw [usV_m, us_up] at h
  exact h
def FltQ (w : World) (a b : Int) (e : Ending) (w' : World) : Prop := ∃ m : Array Value, m.size = 4 ∧ e = .returned (.tuple #[.agg m, .agg #[.int .i64 a, .int .i64 b]]) ∧ Below w.heap.size w w'
theorem ulat40 {w : World} {B : Nat} (h : ModelAt w.heap.size w (usV B 1099511627776)) : Calls Try.prog 27 #[.agg #[.int .i64 1, .slice (some ⟨B + 1, 0, none⟩) 1 1, .slice (some ⟨B + 1 + 1, 0, none⟩) 1 1, .slice none 0 0]] w (UpQ w ((LatR (usM 1099511627776)).1, 30, 2)) := by
  have h := latest_any h (usV_sized B 1099511627776)
  have e : LatR (usM 1099511627776) = ((LatR (usM 1099511627776)).1, 30, 2) := by kernel_rfl
  rw [usV_m, e] at h
  exact h
theorem uup3 (w : World) : Calls Try.prog 25 #[.agg #[.int .i64 3, .slice none 0 0, .slice none 0 0, .slice none 0 0]] w (UpQ w ((UpR ⟨3, [], [], []⟩).1, 43, 0)) := by
  have h := upgradeUp_any (nil_at w 3) ⟨by show 0 ≤ 20000; decide, by show 0 ≤ 20000; decide, by show 0 ≤ 20000; decide, fun p hp => by simp [nilV_m] at hp⟩
  have e : UpR ⟨3, [], [], []⟩ = ((UpR ⟨3, [], [], []⟩).1, 43, 0) := by kernel_rfl
  rw [nilV_m, e] at h
  exact h
theorem uways5 {w : World} {B : Nat} (h : ModelAt w.heap.size w (usV B 5)) : Calls Try.prog 30 #[.agg #[.int .i64 1, .slice (some ⟨B + 1, 0, none⟩) 1 1, .slice (some ⟨B + 1 + 1, 0, none⟩) 1 1, .slice none 0 0], .int .i64 9] w fun e w' => ∃ a c, e = .returned (.slice a 3 c) ∧ Below w.heap.size w w' := by
  have h := lways_any h (usV_sized B 5) 9
  refine Calls.mono (show Calls Try.prog 30 #[.agg #[.int .i64 1, .slice (some ⟨B + 1, 0, none⟩) 1 1, .slice (some ⟨B + 1 + 1, 0, none⟩) 1 1, .slice none 0 0], .int .i64 9] w _ from h) ?_
  rintro e w' ⟨L, a, c, g, rfl, _, _, hD, hb⟩
  have hL : L.length = 3 := by
    have := congrArg List.length hD
    rw [List.length_map] at this
    rw [this]
    exact us_ways
  rw [hL]
  exact ⟨a, c, rfl, hb⟩
set_option maxRecDepth 100000 in
set_option maxHeartbeats 4000000 in
theorem ualive_any (w : World) : Calls Try.prog 23 #[] w fun e w' => e = .returned (.bool true) ∧ Below w.heap.size w w' := by
  have HS1 := Lib.hid (usample_any w 5)
  go_enter Try.func23, Try.ntmps23
  go_wp2_with fail
  refine HS1.out.mono ?_
  clear HS1
  rintro e w1 ⟨rfl, hm, hb1⟩
  have HC := Lib.hid (ulat5 hm)
  have HB := Lib.hid hb1
  clear hm hb1
  go_wp2_with fail
  refine HC.out.mono ?_
  clear HC
  rintro e w2 ⟨x, rfl, hx, ho, hb⟩
  obtain ⟨e1, e2, e3, e4, e5, -, -, -⟩ := one_at ho hx
  rw [e1, e2, e3, e4, e5]
  have HO := Lib.hid ho
  have HXm := Lib.hid hx
  replace HB := Lib.hid (HB.out.trans (hb.mono HB.out.size))
  clear e1 e2 e3 e4 e5 hb ho hx
  go_wp2_with fail
  have hbx : Below w2.heap.size w2 ((w2.alloc (.cells #[.int .i64 3, .slice (some ⟨x.pb, 0, none⟩) 1 x.pc, .slice (some ⟨x.lb, 0, none⟩) 1 x.lc, .slice x.ea x.events.length x.ec] 26)).alloc (.cells #[.int .i64 0, .int .i64 0] 31)) := ((Below.refl _ w2).alloc (Nat.le_refl _) _).alloc (by simp) _
  have hm1 : ((w2.alloc (.cells #[.int .i64 3, .slice (some ⟨x.pb, 0, none⟩) 1 x.pc, .slice (some ⟨x.lb, 0, none⟩) 1 x.lc, .slice x.ea x.events.length x.ec] 26)).alloc (.cells #[.int .i64 0, .int .i64 0] 31)).heap[w2.heap.size]? = some (.cells #[.int .i64 3, .slice (some ⟨x.pb, 0, none⟩) 1 x.pc, .slice (some ⟨x.lb, 0, none⟩) 1 x.lc, .slice x.ea x.events.length x.ec] 26 (0, 0)) := heap_alloc (heap_new _ rfl) _
  have hf1 : ((w2.alloc (.cells #[.int .i64 3, .slice (some ⟨x.pb, 0, none⟩) 1 x.pc, .slice (some ⟨x.lb, 0, none⟩) 1 x.lc, .slice x.ea x.events.length x.ec] 26)).alloc (.cells #[.int .i64 0, .int .i64 0] 31)).heap[w2.heap.size + 1]? = some (.cells #[.int .i64 0, .int .i64 0] 31 (0, 0)) := heap_new _ (by simp)
  replace HO := Lib.hid (HO.out.on hbx)
  replace HB := Lib.hid (HB.out.trans (hbx.mono HB.out.size))
  have HM1 := Lib.hid hm1
  have HF1 := Lib.hid hf1
  clear hbx hm1 hf1
  generalize ((w2.alloc (.cells #[.int .i64 3, .slice (some ⟨x.pb, 0, none⟩) 1 x.pc, .slice (some ⟨x.lb, 0, none⟩) 1 x.lc, .slice x.ea x.events.length x.ec] 26)).alloc (.cells #[.int .i64 0, .int .i64 0] 31)) = W2 at *
  generalize w2.heap.size = A1 at *
  refine (usample_any W2 5).mono ?_
  rintro e w3 ⟨rfl, hm, hb⟩
  have HC := Lib.hid (uup5 hm)
  replace HO := Lib.hid (HO.out.on hb)
  replace HM1 := Lib.hid (heap_below HM1.out hb (heap_lt HM1.out))
  replace HF1 := Lib.hid (heap_below HF1.out hb (heap_lt HF1.out))
  replace HB := Lib.hid (HB.out.trans (hb.mono HB.out.size))
  clear hm hb
  go_wp2_with fail
  refine HC.out.mono ?_
  clear HC
  rintro e w4 ⟨y, rfl, hy, ho, hb⟩
  obtain ⟨e1, e2, e3, e4, e5, -, -, -⟩ := one_at ho hy
  rw [e1, e2, e3, e4, e5]
  have HOy := Lib.hid ho
  have HYm := Lib.hid hy
  replace HO := Lib.hid (HO.out.on hb)
  replace HM1 := Lib.hid (heap_below HM1.out hb (heap_lt HM1.out))
  replace HF1 := Lib.hid (heap_below HF1.out hb (heap_lt HF1.out))
  replace HB := Lib.hid (HB.out.trans (hb.mono HB.out.size))
  clear e1 e2 e3 e4 e5 hb ho hy
  go_wp2_with fail
  have hbx : Below w4.heap.size w4 ((w4.alloc (.cells #[.int .i64 2, .slice (some ⟨y.pb, 0, none⟩) 1 y.pc, .slice (some ⟨y.lb, 0, none⟩) 1 y.lc, .slice y.ea y.events.length y.ec] 26)).alloc (.cells #[.int .i64 0, .int .i64 0] 31)) := ((Below.refl _ w4).alloc (Nat.le_refl _) _).alloc (by simp) _
  have hm1 : ((w4.alloc (.cells #[.int .i64 2, .slice (some ⟨y.pb, 0, none⟩) 1 y.pc, .slice (some ⟨y.lb, 0, none⟩) 1 y.lc, .slice y.ea y.events.length y.ec] 26)).alloc (.cells #[.int .i64 0, .int .i64 0] 31)).heap[w4.heap.size]? = some (.cells #[.int .i64 2, .slice (some ⟨y.pb, 0, none⟩) 1 y.pc, .slice (some ⟨y.lb, 0, none⟩) 1 y.lc, .slice y.ea y.events.length y.ec] 26 (0, 0)) := heap_alloc (heap_new _ rfl) _
  have hf1 : ((w4.alloc (.cells #[.int .i64 2, .slice (some ⟨y.pb, 0, none⟩) 1 y.pc, .slice (some ⟨y.lb, 0, none⟩) 1 y.lc, .slice y.ea y.events.length y.ec] 26)).alloc (.cells #[.int .i64 0, .int .i64 0] 31)).heap[w4.heap.size + 1]? = some (.cells #[.int .i64 0, .int .i64 0] 31 (0, 0)) := heap_new _ (by simp)
  replace HO := Lib.hid (HO.out.on hbx)
  replace HOy := Lib.hid (HOy.out.on hbx)
  replace HM1 := Lib.hid (heap_below HM1.out hbx (heap_lt HM1.out))
  replace HF1 := Lib.hid (heap_below HF1.out hbx (heap_lt HF1.out))
  replace HB := Lib.hid (HB.out.trans (hbx.mono HB.out.size))
  have HM3 := Lib.hid hm1
  have HF3 := Lib.hid hf1
  clear hbx hm1 hf1
  generalize ((w4.alloc (.cells #[.int .i64 2, .slice (some ⟨y.pb, 0, none⟩) 1 y.pc, .slice (some ⟨y.lb, 0, none⟩) 1 y.lc, .slice y.ea y.events.length y.ec] 26)).alloc (.cells #[.int .i64 0, .int .i64 0] 31)) = W4 at *
  generalize w4.heap.size = A3 at *
  refine (usample_any W4 1099511627776).mono ?_
  rintro e w5 ⟨rfl, hm, hb⟩
  have HC := Lib.hid (ulat40 hm)
  replace HO := Lib.hid (HO.out.on hb)
  replace HOy := Lib.hid (HOy.out.on hb)
  replace HM1 := Lib.hid (heap_below HM1.out hb (heap_lt HM1.out))
  replace HF1 := Lib.hid (heap_below HF1.out hb (heap_lt HF1.out))
  replace HM3 := Lib.hid (heap_below HM3.out hb (heap_lt HM3.out))
  replace HF3 := Lib.hid (heap_below HF3.out hb (heap_lt HF3.out))
  replace HB := Lib.hid (HB.out.trans (hb.mono HB.out.size))
  clear hm hb
  go_wp2_with fail
  refine HC.out.mono ?_
  clear HC
  rintro e w6 ⟨z, rfl, -, -, hb⟩
  replace HO := Lib.hid (HO.out.on hb)
  replace HOy := Lib.hid (HOy.out.on hb)
  replace HM1 := Lib.hid (heap_below HM1.out hb (heap_lt HM1.out))
  replace HF1 := Lib.hid (heap_below HF1.out hb (heap_lt HF1.out))
  replace HM3 := Lib.hid (heap_below HM3.out hb (heap_lt HM3.out))
  replace HF3 := Lib.hid (heap_below HF3.out hb (heap_lt HF3.out))
  replace HB := Lib.hid (HB.out.trans (hb.mono HB.out.size))
  clear hb
  go_wp2_with fail
  have hbx : Below w6.heap.size w6 ((w6.alloc (.cells #[.int .i64 z.ver, .slice z.pa z.procs.length z.pc, .slice z.la z.links.length z.lc, .slice z.ea z.events.length z.ec] 26)).alloc (.cells #[.int .i64 30, .int .i64 2] 31)) := ((Below.refl _ w6).alloc (Nat.le_refl _) _).alloc (by simp) _
  have hm1 : ((w6.alloc (.cells #[.int .i64 z.ver, .slice z.pa z.procs.length z.pc, .slice z.la z.links.length z.lc, .slice z.ea z.events.length z.ec] 26)).alloc (.cells #[.int .i64 30, .int .i64 2] 31)).heap[w6.heap.size]? = some (.cells #[.int .i64 z.ver, .slice z.pa z.procs.length z.pc, .slice z.la z.links.length z.lc, .slice z.ea z.events.length z.ec] 26 (0, 0)) := heap_alloc (heap_new _ rfl) _
  have hf1 : ((w6.alloc (.cells #[.int .i64 z.ver, .slice z.pa z.procs.length z.pc, .slice z.la z.links.length z.lc, .slice z.ea z.events.length z.ec] 26)).alloc (.cells #[.int .i64 30, .int .i64 2] 31)).heap[w6.heap.size + 1]? = some (.cells #[.int .i64 30, .int .i64 2] 31 (0, 0)) := heap_new _ (by simp)
  replace HO := Lib.hid (HO.out.on hbx)
  replace HOy := Lib.hid (HOy.out.on hbx)
  replace HM1 := Lib.hid (heap_below HM1.out hbx (heap_lt HM1.out))
  replace HF1 := Lib.hid (heap_below HF1.out hbx (heap_lt HF1.out))
  replace HM3 := Lib.hid (heap_below HM3.out hbx (heap_lt HM3.out))
  replace HF3 := Lib.hid (heap_below HF3.out hbx (heap_lt HF3.out))
  replace HB := Lib.hid (HB.out.trans (hbx.mono HB.out.size))
  have HM5 := Lib.hid hm1
  have HF5 := Lib.hid hf1
  clear hbx hm1 hf1
  generalize ((w6.alloc (.cells #[.int .i64 z.ver, .slice z.pa z.procs.length z.pc, .slice z.la z.links.length z.lc, .slice z.ea z.events.length z.ec] 26)).alloc (.cells #[.int .i64 30, .int .i64 2] 31)) = W6 at *
  generalize w6.heap.size = A5 at *
  refine (uup3 W6).mono ?_
  rintro e w7 ⟨u, rfl, -, -, hb⟩
  replace HO := Lib.hid (HO.out.on hb)
  replace HOy := Lib.hid (HOy.out.on hb)
  replace HM1 := Lib.hid (heap_below HM1.out hb (heap_lt HM1.out))
  replace HF1 := Lib.hid (heap_below HF1.out hb (heap_lt HF1.out))
  replace HM3 := Lib.hid (heap_below HM3.out hb (heap_lt HM3.out))
  replace HF3 := Lib.hid (heap_below HF3.out hb (heap_lt HF3.out))
  replace HF5 := Lib.hid (heap_below HF5.out hb (heap_lt HF5.out))
  replace HB := Lib.hid (HB.out.trans (hb.mono HB.out.size))
  clear hb
  go_upto_region 5 with fail
  have hbx : Below w7.heap.size w7 ((w7.alloc (.cells #[.int .i64 u.ver, .slice u.pa u.procs.length u.pc, .slice u.la u.links.length u.lc, .slice u.ea u.events.length u.ec] 26)).alloc (.cells #[.int .i64 43, .int .i64 0] 31)) := ((Below.refl _ w7).alloc (Nat.le_refl _) _).alloc (by simp) _
  have hm1 : ((w7.alloc (.cells #[.int .i64 u.ver, .slice u.pa u.procs.length u.pc, .slice u.la u.links.length u.lc, .slice u.ea u.events.length u.ec] 26)).alloc (.cells #[.int .i64 43, .int .i64 0] 31)).heap[w7.heap.size]? = some (.cells #[.int .i64 u.ver, .slice u.pa u.procs.length u.pc, .slice u.la u.links.length u.lc, .slice u.ea u.events.length u.ec] 26 (0, 0)) := heap_alloc (heap_new _ rfl) _
  have hf1 : ((w7.alloc (.cells #[.int .i64 u.ver, .slice u.pa u.procs.length u.pc, .slice u.la u.links.length u.lc, .slice u.ea u.events.length u.ec] 26)).alloc (.cells #[.int .i64 43, .int .i64 0] 31)).heap[w7.heap.size + 1]? = some (.cells #[.int .i64 43, .int .i64 0] 31 (0, 0)) := heap_new _ (by simp)
  replace HO := Lib.hid (HO.out.on hbx)
  replace HOy := Lib.hid (HOy.out.on hbx)
  replace HM1 := Lib.hid (heap_below HM1.out hbx (heap_lt HM1.out))
  replace HF1 := Lib.hid (heap_below HF1.out hbx (heap_lt HF1.out))
  replace HM3 := Lib.hid (heap_below HM3.out hbx (heap_lt HM3.out))
  replace HF3 := Lib.hid (heap_below HF3.out hbx (heap_lt HF3.out))
  replace HF5 := Lib.hid (heap_below HF5.out hbx (heap_lt HF5.out))
  replace HB := Lib.hid (HB.out.trans (hbx.mono HB.out.size))
  have HM7 := Lib.hid hm1
  have HF7 := Lib.hid hf1
  clear hbx hm1 hf1
  generalize ((w7.alloc (.cells #[.int .i64 u.ver, .slice u.pa u.procs.length u.pc, .slice u.la u.links.length u.lc, .slice u.ea u.events.length u.ec] 26)).alloc (.cells #[.int .i64 43, .int .i64 0] 31)) = W8 at *
  generalize w7.heap.size = A7 at *
  obtain ⟨-, -, -, -, -, px, lx, mx⟩ := one_at HO.out HXm.out
  obtain ⟨-, -, -, -, -, py, ly, my⟩ := one_at HOy.out HYm.out
  have px : W8.cell? ⟨x.pb, 1, none⟩ = some (.int .i64 1) := px
  have lx : W8.cell? ⟨x.lb, 3, none⟩ = some (.int .i64 5000) := lx
  have mx : W8.cell? ⟨x.lb, 4, none⟩ = some (.int .i64 1) := mx
  have my : W8.cell? ⟨y.lb, 4, none⟩ = some (.int .i64 0) := my
  clear py ly
  have a0 : W8.cell? ⟨A1, 0, none⟩ = some (.int .i64 3) := heap_cell HM1.out rfl
  have a1 : W8.cell? ⟨A1, 1, none⟩ = some (.slice (some ⟨x.pb, 0, none⟩) 1 x.pc) := heap_cell HM1.out rfl
  have a2 : W8.cell? ⟨A1, 2, none⟩ = some (.slice (some ⟨x.lb, 0, none⟩) 1 x.lc) := heap_cell HM1.out rfl
  have a3 : W8.cell? ⟨A1, 3, none⟩ = some (.slice x.ea x.events.length x.ec) := heap_cell HM1.out rfl
  have b0 : W8.cell? ⟨A1 + 1, 0, none⟩ = some (.int .i64 0) := heap_cell HF1.out rfl
  have b1 : W8.cell? ⟨A1 + 1, 1, none⟩ = some (.int .i64 0) := heap_cell HF1.out rfl
  have d0 : W8.cell? ⟨A3, 0, none⟩ = some (.int .i64 2) := heap_cell HM3.out rfl
  have d1 : W8.cell? ⟨A3, 1, none⟩ = some (.slice (some ⟨y.pb, 0, none⟩) 1 y.pc) := heap_cell HM3.out rfl
  have d2 : W8.cell? ⟨A3, 2, none⟩ = some (.slice (some ⟨y.lb, 0, none⟩) 1 y.lc) := heap_cell HM3.out rfl
  have d3 : W8.cell? ⟨A3, 3, none⟩ = some (.slice y.ea y.events.length y.ec) := heap_cell HM3.out rfl
  have g0 : W8.cell? ⟨A3 + 1, 0, none⟩ = some (.int .i64 0) := heap_cell HF3.out rfl
  have g1 : W8.cell? ⟨A3 + 1, 1, none⟩ = some (.int .i64 0) := heap_cell HF3.out rfl
  have h0 : W8.cell? ⟨A5 + 1, 0, none⟩ = some (.int .i64 30) := heap_cell HF5.out rfl
  have h1 : W8.cell? ⟨A5 + 1, 1, none⟩ = some (.int .i64 2) := heap_cell HF5.out rfl
  have i0 : W8.cell? ⟨A7 + 1, 0, none⟩ = some (.int .i64 43) := heap_cell HF7.out rfl
  have i1 : W8.cell? ⟨A7 + 1, 1, none⟩ = some (.int .i64 0) := heap_cell HF7.out rfl
  have hq1 := eqlU 0 0
  have hq2 := eqlU 30 2
  have hq3 := eqlU 43 0
  have HSm := Lib.hid (usample_any W8 5)
  go_wp2_with fail
  refine HSm.out.mono ?_
  clear HSm
  rintro e w9 ⟨rfl, hm, hb⟩
  have HC := Lib.hid (uways5 hm)
  replace HB := Lib.hid (HB.out.trans (hb.mono HB.out.size))
  clear hm hb
  go_wp2_with fail
  refine HC.out.mono ?_
  clear HC
  rintro e w10 ⟨a, c, rfl, hb⟩
  replace HB := Lib.hid (HB.out.trans (hb.mono HB.out.size))
  clear hb
  go_wp2
  go_ret
  exact ⟨rfl, HB.out⟩
end Go.Proofs.Ytgnlehenbdcgmaa.Md
