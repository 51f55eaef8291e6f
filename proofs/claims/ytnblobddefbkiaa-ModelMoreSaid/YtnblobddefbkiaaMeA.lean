/- The walk of ModelTurns. -/
import Derived.Test.YtnblobddefbkiaaMdZ
set_option linter.unusedVariables false
set_option linter.unusedSectionVars false
set_option linter.unusedSimpArgs false
namespace Go.Proofs.Ytnblobddefbkiaa.Md
open Go.RowKit Go.Shelf

theorem and_255 (n : Int) : bits .and .i64 n 255 = n % 256 := by
  have h511 : (BitVec.ofInt 64 255).toNat = 2 ^ 8 - 1 := by decide
  have key : (BitVec.ofInt 64 n &&& BitVec.ofInt 64 255).toNat = (n % ((2 ^ 64 : Nat) : Int)).toNat % 2 ^ 8 := by
    rw [BitVec.toNat_and, BitVec.toNat_ofInt, h511, Nat.and_two_pow_sub_one_eq_mod]
  show IntKind.i64.wrap ((BitVec.ofInt 64 n &&& BitVec.ofInt 64 255).toNat : Nat) = n % 256
  rw [key, IntKind.wrap_i64]
  omega
theorem hszL (x : LinkM) : (encL x).length = 5 := rfl
theorem hszE (x : EventM) : (encE x).length = 3 := rfl
theorem flat_len {α : Type} {enc : α → List Value} {sz : Nat} (hsz : ∀ x, (enc x).length = sz) : ∀ L : List α, (L.flatMap enc).length = L.length * sz
  | [] => by simp
  | y :: L => by rw [List.flatMap_cons, List.length_append, hsz, flat_len hsz L, List.length_cons, Nat.add_mul]; omega
theorem one_L (L : List LinkM) : ∀ u ∈ L.flatMap encL, u.oneCell' = true := fun u hu => by
  obtain ⟨y, _, hy⟩ := List.mem_flatMap.1 hu
  simp [encL] at hy
  rcases hy with rfl | rfl | rfl | rfl | rfl <;> rfl
theorem one_E (L : List EventM) : ∀ u ∈ L.flatMap encE, u.oneCell' = true := fun u hu => by
  obtain ⟨y, _, hy⟩ := List.mem_flatMap.1 hu
  simp [encE] at hy
  rcases hy with rfl | rfl | rfl <;> rfl
/-- A model beside the one that was handed in, whose links lie in a row of its own. -/
structure TuL (x : ModelV) (w : World) (Q g cap : Nat) (L : List LinkM) (W : World) : Prop where
  boxA : W.heap[w.heap.size]? = some (.cells #[.int .i64 x.ver, .slice x.pa x.procs.length x.pc, .slice x.la x.links.length x.lc, .slice x.ea x.events.length x.ec] 26 (0, 0))
  boxQ : W.heap[Q]? = some (.cells #[.int .i64 x.ver, .slice x.pa x.procs.length x.pc, .slice (some ⟨g, 0, none⟩) x.links.length cap, .slice x.ea x.events.length x.ec] 26 (0, 0))
  row : RowC encL 5 W g 50 L
  low : Below w.heap.size w W
  ord : w.heap.size < Q ∧ Q < g
  len : L.length = x.links.length
theorem TuL.on {x : ModelV} {w : World} {Q g cap : Nat} {L : List LinkM} {W W' : World} (h : TuL x w Q g cap L W) (hb : Below W.heap.size W W') : TuL x w Q g cap L W' :=
  ⟨heap_below h.boxA hb (heap_lt h.boxA), heap_below h.boxQ hb (heap_lt h.boxQ), h.row.on hb, h.low.trans (hb.mono h.low.size), h.ord, h.len⟩
theorem TuL.set {x : ModelV} {w : World} {Q g cap : Nat} {L : List LinkM} {W : World} (h : TuL x w Q g cap L W) {k : Nat} {l l' : LinkM} (hk : L[k]? = some l) {q : Nat} (hq : q < 5) {v : Value} (h' : ∀ r u, (encL l')[r]? = some u → (r = q ∧ u = v) ∨ (r ≠ q ∧ (encL l)[r]? = some u)) : TuL x w Q g cap (L.set k l') (W.setCell ⟨g, k * 5 + q, none⟩ v) :=
  ⟨heap_other h.boxA (by have := h.ord; omega) _ v, heap_other h.boxQ (by have := h.ord; omega) _ v, h.row.set hszL hk hq h', h.low.setCell (p := ⟨g, k * 5 + q, none⟩) (by show w.heap.size ≤ g; have := h.ord; omega) v, h.ord, by rw [List.length_set]; exact h.len⟩
theorem encL_delay (l : LinkM) (d : Int) : ∀ r u, (encL { l with delay := d })[r]? = some u → (r = 3 ∧ u = .int .i64 d) ∨ (r ≠ 3 ∧ (encL l)[r]? = some u)
  | 0, u, h => .inr ⟨by decide, h⟩
  | 1, u, h => .inr ⟨by decide, h⟩
  | 2, u, h => .inr ⟨by decide, h⟩
  | 3, u, h => .inl ⟨rfl, by simpa [encL] using h.symm⟩
  | 4, u, h => .inr ⟨by decide, h⟩
  | r + 5, u, h => by simp [encL] at h
theorem encL_weight (l : LinkM) (d : Int) : ∀ r u, (encL { l with weight := d })[r]? = some u → (r = 4 ∧ u = .int .i64 d) ∨ (r ≠ 4 ∧ (encL l)[r]? = some u)
  | 0, u, h => .inr ⟨by decide, h⟩
  | 1, u, h => .inr ⟨by decide, h⟩
  | 2, u, h => .inr ⟨by decide, h⟩
  | 3, u, h => .inr ⟨by decide, h⟩
  | 4, u, h => .inl ⟨rfl, by simpa [encL] using h.symm⟩
  | r + 5, u, h => by simp [encL] at h
theorem fit_set {x : ModelV} {B : Nat} {w : World} (hm : ModelAt B w x) {k : Nat} {l l' : LinkM} (hl : x.links[k]? = some l) (hs : sameL l l') : ∀ y ∈ x.links.set k l', fitL y := fun y hy => by
  rcases List.mem_or_eq_of_mem_set hy with h | rfl
  · exact hm.links.fits y h
  · have := hm.links.fits l (List.mem_of_getElem? hl)
    unfold fitL at *
    rw [hs.1, hs.2.1, hs.2.2]
    exact this
theorem turn_link' {x : ModelV} (h : Right x.m) {k : Nat} {l l' : LinkM} (hk : x.links[k]? = some l) (hs : sameL l l') {e : Int} (he : lnE x.ver (fstP (nmsP x.m)) (fstP (nmsL x.m)) k l' = e) (h0 : e ≠ 0) : mdE { x.m with links := x.links.set k l' } = (e, (x.procs.length : Int) + (k : Int) + 1) := by
  have := turn_link (m := x.m) h hk hs he h0
  rw [show x.m.procs.length = x.procs.length by unfold ModelV.m; simp, show ((x.procs.length + (k + 1) : Nat) : Int) = (x.procs.length : Int) + (k : Int) + 1 by omega] at this
  exact this
theorem neqS (a b c d : Int) (V : World) : (binOp BinOp.neq 33 (.agg #[.int .i64 a, .int .i64 b]) (.agg #[.int .i64 c, .int .i64 d])).run Try.prog V = .ok (.bool (!decide (a = c ∧ b = d))) V := by
  simp [go_sem, run_equalIn_agg _ _ _ _ _ Try.structFl Try.stoodFl]
  split <;> (try split) <;> simp_all
theorem neqR (a b : Int) (V : World) : (binOp BinOp.neq 33 (.agg #[.int .i64 a, .int .i64 b]) (.agg #[.int .i64 a, .int .i64 b])).run Try.prog V = .ok (.bool false) V := by rw [neqS, decide_eq_true ⟨rfl, rfl⟩]; rfl
theorem TuL.made {x : ModelV} {w W5 : World} {Q g cap : Nat} (ha5 : W5.heap[w.heap.size]? = some (.cells #[.int .i64 x.ver, .slice x.pa x.procs.length x.pc, .slice x.la x.links.length x.lc, .slice x.ea x.events.length x.ec] 26 (0, 0))) (hq5 : W5.heap[Q]? = some (.cells #[.int .i64 x.ver, .slice x.pa x.procs.length x.pc, .slice x.la x.links.length x.lc, .slice x.ea x.events.length x.ec] 26 (0, 0))) (hrc : RowC encL 5 W5 g 50 x.links) (hb5 : Below w.heap.size w W5) (h1 : w.heap.size < Q) (h2 : Q < g) : TuL x w Q g cap x.links (W5.setCell ⟨Q, 2, none⟩ (.slice (some ⟨g, 0, none⟩) x.links.length cap)) :=
  ⟨heap_other ha5 (by omega) 2 _, heap_set hq5 2 (.slice (some ⟨g, 0, none⟩) x.links.length cap), hrc.other (by omega) 2 _, hb5.setCell (p := ⟨Q, 2, none⟩) (by show w.heap.size ≤ Q; omega) _, ⟨h1, h2⟩, rfl⟩
theorem TuL.check {x : ModelV} {w : World} {Q g cap : Nat} {L : List LinkM} {W : World} (h : TuL x w Q g cap L W) (hm : ModelAt w.heap.size w x) (hf : ∀ l ∈ L, fitL l) {W0 : World} (hW0 : Below W0.heap.size W0 W) {e a : Int} (he : mdE { x.m with links := L } = (e, a)) :
    Calls Try.prog 15 #[.agg #[.int .i64 x.ver, .slice x.pa x.procs.length x.pc, .slice (some ⟨g, 0, none⟩) x.links.length cap, .slice x.ea x.events.length x.ec]] W fun ee w' => ee = .returned (.agg #[.int .i64 e, .int .i64 a]) ∧ Hid (Below W0.heap.size W0 w') := by
  have hx := hm.on h.low
  have hr := h.row.rows (by rw [h.len]; exact hx.links.small) hf
  have hc := check_any (x := { x with links := L, la := some ⟨g, 0, none⟩, lb := g, lo := 0, lc := cap }) ⟨hx.procs, hx.inner, hr, hx.events⟩
  rw [show mdE (ModelV.m { x with links := L, la := some ⟨g, 0, none⟩, lb := g, lo := 0, lc := cap }) = (e, a) from he] at hc
  dsimp only at hc
  rw [h.len] at hc
  exact hc.mono fun _ _ hh => ⟨hh.1, Lib.hid (hW0.trans (hh.2.mono hW0.size))⟩
/-- A model beside the one that was handed in, whose events lie in a row of its own. -/
structure TuE (x : ModelV) (w : World) (Q g cap : Nat) (L : List EventM) (W : World) : Prop where
  boxA : W.heap[w.heap.size]? = some (.cells #[.int .i64 x.ver, .slice x.pa x.procs.length x.pc, .slice x.la x.links.length x.lc, .slice x.ea x.events.length x.ec] 26 (0, 0))
  boxQ : W.heap[Q]? = some (.cells #[.int .i64 x.ver, .slice x.pa x.procs.length x.pc, .slice x.la x.links.length x.lc, .slice (some ⟨g, 0, none⟩) x.events.length cap] 26 (0, 0))
  row : RowC encE 3 W g 52 L
  low : Below w.heap.size w W
  ord : w.heap.size < Q ∧ Q < g
  len : L.length = x.events.length
theorem TuE.on {x : ModelV} {w : World} {Q g cap : Nat} {L : List EventM} {W W' : World} (h : TuE x w Q g cap L W) (hb : Below W.heap.size W W') : TuE x w Q g cap L W' :=
  ⟨heap_below h.boxA hb (heap_lt h.boxA), heap_below h.boxQ hb (heap_lt h.boxQ), h.row.on hb, h.low.trans (hb.mono h.low.size), h.ord, h.len⟩
theorem TuE.set {x : ModelV} {w : World} {Q g cap : Nat} {L : List EventM} {W : World} (h : TuE x w Q g cap L W) {k : Nat} {l l' : EventM} (hk : L[k]? = some l) {q : Nat} (hq : q < 3) {v : Value} (h' : ∀ r u, (encE l')[r]? = some u → (r = q ∧ u = v) ∨ (r ≠ q ∧ (encE l)[r]? = some u)) : TuE x w Q g cap (L.set k l') (W.setCell ⟨g, k * 3 + q, none⟩ v) :=
  ⟨heap_other h.boxA (by have := h.ord; omega) _ v, heap_other h.boxQ (by have := h.ord; omega) _ v, h.row.set hszE hk hq h', h.low.setCell (p := ⟨g, k * 3 + q, none⟩) (by show w.heap.size ≤ g; have := h.ord; omega) v, h.ord, by rw [List.length_set]; exact h.len⟩
theorem encE_at (l : EventM) (d : Int) : ∀ r u, (encE { l with at_ := d })[r]? = some u → (r = 1 ∧ u = .int .i64 d) ∨ (r ≠ 1 ∧ (encE l)[r]? = some u)
  | 0, u, h => .inr ⟨by decide, h⟩
  | 1, u, h => .inl ⟨rfl, by simpa [encE] using h.symm⟩
  | 2, u, h => .inr ⟨by decide, h⟩
  | r + 3, u, h => by simp [encE] at h
theorem encE_to (l : EventM) (d : ByteArray) : ∀ r u, (encE { l with to_ := d })[r]? = some u → (r = 0 ∧ u = .string d) ∨ (r ≠ 0 ∧ (encE l)[r]? = some u)
  | 0, u, h => .inl ⟨rfl, by simpa [encE] using h.symm⟩
  | 1, u, h => .inr ⟨by decide, h⟩
  | 2, u, h => .inr ⟨by decide, h⟩
  | r + 3, u, h => by simp [encE] at h
theorem TuE.made {x : ModelV} {w W5 : World} {Q g cap : Nat} (ha5 : W5.heap[w.heap.size]? = some (.cells #[.int .i64 x.ver, .slice x.pa x.procs.length x.pc, .slice x.la x.links.length x.lc, .slice x.ea x.events.length x.ec] 26 (0, 0))) (hq5 : W5.heap[Q]? = some (.cells #[.int .i64 x.ver, .slice x.pa x.procs.length x.pc, .slice x.la x.links.length x.lc, .slice x.ea x.events.length x.ec] 26 (0, 0))) (hrc : RowC encE 3 W5 g 52 x.events) (hb5 : Below w.heap.size w W5) (h1 : w.heap.size < Q) (h2 : Q < g) : TuE x w Q g cap x.events (W5.setCell ⟨Q, 3, none⟩ (.slice (some ⟨g, 0, none⟩) x.events.length cap)) :=
  ⟨heap_other ha5 (by omega) 3 _, heap_set hq5 3 (.slice (some ⟨g, 0, none⟩) x.events.length cap), hrc.other (by omega) 3 _, hb5.setCell (p := ⟨Q, 3, none⟩) (by show w.heap.size ≤ Q; omega) _, ⟨h1, h2⟩, rfl⟩
theorem TuE.check {x : ModelV} {w : World} {Q g cap : Nat} {L : List EventM} {W : World} (h : TuE x w Q g cap L W) (hm : ModelAt w.heap.size w x) (hf : ∀ l ∈ L, fitE l) {W0 : World} (hW0 : Below W0.heap.size W0 W) {e a : Int} (he : mdE { x.m with events := L } = (e, a)) :
    Calls Try.prog 15 #[.agg #[.int .i64 x.ver, .slice x.pa x.procs.length x.pc, .slice x.la x.links.length x.lc, .slice (some ⟨g, 0, none⟩) x.events.length cap]] W fun ee w' => ee = .returned (.agg #[.int .i64 e, .int .i64 a]) ∧ Hid (Below W0.heap.size W0 w') := by
  have hx := hm.on h.low
  have hr := h.row.rows (by rw [h.len]; exact hx.events.small) hf
  have hc := check_any (x := { x with events := L, ea := some ⟨g, 0, none⟩, eb := g, eo := 0, ec := cap }) ⟨hx.procs, hx.inner, hx.links, hr⟩
  rw [show mdE (ModelV.m { x with events := L, ea := some ⟨g, 0, none⟩, eb := g, eo := 0, ec := cap }) = (e, a) from he] at hc
  dsimp only at hc
  rw [h.len] at hc
  exact hc.mono fun _ _ hh => ⟨hh.1, Lib.hid (hW0.trans (hh.2.mono hW0.size))⟩
theorem fit_setE {x : ModelV} {B : Nat} {w : World} (hm : ModelAt B w x) (k : Nat) {v : EventM} (hv : fitE v) : ∀ y ∈ x.events.set k v, fitE y := fun y hy => by
  rcases List.mem_or_eq_of_mem_set hy with h | rfl
  · exact hm.events.fits y h
  · exact hv
theorem turn_event' {x : ModelV} (h : Right x.m) {k : Nat} {v : EventM} (hk : k < x.events.length) {e : Int} (he : evE (fstP (nmsP x.m)) v = e) (h0 : e ≠ 0) : mdE { x.m with events := x.events.set k v } = (e, (x.procs.length : Int) + (x.links.length : Int) + (k : Int) + 1) := by
  have := turn_event (m := x.m) h (k := k) (v := v) hk he h0
  rw [show x.m.procs.length = x.procs.length by unfold ModelV.m; simp, show x.m.links.length = x.links.length from rfl, show ((x.procs.length + x.links.length + (k + 1) : Nat) : Int) = (x.procs.length : Int) + (x.links.length : Int) + (k : Int) + 1 by omega] at this
  exact this
theorem eqlR (a b : Int) (V : World) : (binOp BinOp.eql 33 (.agg #[.int .i64 a, .int .i64 b]) (.agg #[.int .i64 a, .int .i64 b])).run Try.prog V = .ok (.bool true) V := by
  simp [go_sem, run_equalIn_agg _ _ _ _ _ Try.structFl Try.stoodFl]
set_option maxRecDepth 100000 in
set_option maxHeartbeats 4000000 in
theorem walk_ModelTurns (x : ModelV) (i : Int) (w : World) (h : ModelAt w.heap.size w x) (hw : (Lit.int .i64 x.ver).wf = true) (hwi : (Lit.int .i64 i).wf = true) : Calls Try.prog 7 #[.agg #[.int .i64 x.ver, .slice x.pa x.procs.length x.pc, .slice x.la x.links.length x.lc, .slice x.ea x.events.length x.ec], .int .i64 i] w fun e w' => e = .returned (.bool true) ∧ Below w.heap.size w w' := by
  have HM := Lib.hid h
  have HB := Lib.hid (below_one w (.cells #[.int .i64 x.ver, .slice x.pa x.procs.length x.pc, .slice x.la x.links.length x.lc, .slice x.ea x.events.length x.ec] 26))
  have HX : Hid ((w.alloc (.cells #[.int .i64 x.ver, .slice x.pa x.procs.length x.pc, .slice x.la x.links.length x.lc, .slice x.ea x.events.length x.ec] 26)).heap[w.heap.size]? = some (.cells #[.int .i64 x.ver, .slice x.pa x.procs.length x.pc, .slice x.la x.links.length x.lc, .slice x.ea x.events.length x.ec] 26 (0, 0))) := Lib.hid (heap_new _ rfl)
  clear h hw hwi
  obtain ⟨c, hc255, hand⟩ : ∃ c : Nat, c ≤ 255 ∧ bits .and .i64 i 255 = (c : Int) := ⟨(i % 256).toNat, by omega, by rw [and_255]; omega⟩
  go_enter Try.func7, Try.ntmps7
  go_wp2_with fail
  generalize w.alloc (.cells #[.int .i64 x.ver, .slice x.pa x.procs.length x.pc, .slice x.la x.links.length x.lc, .slice x.ea x.events.length x.ec] 26) = w1 at *
  refine (alive_any _).mono ?_
  rintro e w2 ⟨rfl, hb⟩
  replace HX := Lib.hid (heap_below HX.out hb (heap_lt HX.out))
  replace HB := Lib.hid (HB.out.trans (hb.mono HB.out.size))
  clear hb
  have c0 : w2.cell? ⟨w.heap.size, 0, none⟩ = some (.int .i64 x.ver) := heap_cell HX.out rfl
  have c1 : w2.cell? ⟨w.heap.size, 1, none⟩ = some (.slice x.pa x.procs.length x.pc) := heap_cell HX.out rfl
  have c2 : w2.cell? ⟨w.heap.size, 2, none⟩ = some (.slice x.la x.links.length x.lc) := heap_cell HX.out rfl
  have c3 : w2.cell? ⟨w.heap.size, 3, none⟩ = some (.slice x.ea x.events.length x.ec) := heap_cell HX.out rfl
  go_wp2_with fail
  refine (few_any (HM.out.on HB.out)).mono ?_
  rintro e w3 ⟨rfl, hb⟩
  replace HX := Lib.hid (heap_below HX.out hb (heap_lt HX.out))
  replace HB := Lib.hid (HB.out.trans (hb.mono HB.out.size))
  clear hb c0 c1 c2 c3
  obtain ⟨b, hb⟩ : ∃ b, fewB x.m = b := ⟨_, rfl⟩
  rw [hb]
  cases b with
  | false =>
    clear hb
    go_wp2
    go_ret
    exact ⟨rfl, HB.out⟩
  | true =>
    have HF := Lib.hid hb
    clear hb
    have c0 : w3.cell? ⟨w.heap.size, 0, none⟩ = some (.int .i64 x.ver) := heap_cell HX.out rfl
    have c1 : w3.cell? ⟨w.heap.size, 1, none⟩ = some (.slice x.pa x.procs.length x.pc) := heap_cell HX.out rfl
    have c2 : w3.cell? ⟨w.heap.size, 2, none⟩ = some (.slice x.la x.links.length x.lc) := heap_cell HX.out rfl
    have c3 : w3.cell? ⟨w.heap.size, 3, none⟩ = some (.slice x.ea x.events.length x.ec) := heap_cell HX.out rfl
    go_wp2_with fail
    refine (check_any (HM.out.on HB.out)).mono ?_
    rintro e w4 ⟨rfl, hb⟩
    replace HX := Lib.hid (heap_below HX.out hb (heap_lt HX.out))
    replace HB := Lib.hid (HB.out.trans (hb.mono HB.out.size))
    clear hb c0 c1 c2 c3
    obtain ⟨E, hE⟩ : ∃ E, mdE x.m = E := ⟨_, rfl⟩
    rw [hE]
    obtain ⟨e1, e2⟩ := E
    have hfd : ∀ W, (Instr.field 33 (.agg #[.int .i64 e1, .int .i64 e2]) 0).run Try.prog W = .ok (.int .i64 e1) W := fun W => field0 e1 e2 W
    by_cases he : e1 = 0
    · have hR : Right x.m := right_of (by rw [hE]; exact he)
      subst he
      have HR := Lib.hid hR
      clear hR hE
      have c0 : w4.cell? ⟨w.heap.size, 0, none⟩ = some (.int .i64 x.ver) := heap_cell HX.out rfl
      have c1 : w4.cell? ⟨w.heap.size, 1, none⟩ = some (.slice x.pa x.procs.length x.pc) := heap_cell HX.out rfl
      have c2 : w4.cell? ⟨w.heap.size, 2, none⟩ = some (.slice x.la x.links.length x.lc) := heap_cell HX.out rfl
      have c3 : w4.cell? ⟨w.heap.size, 3, none⟩ = some (.slice x.ea x.events.length x.ec) := heap_cell HX.out rfl
      have hltA := heap_lt HX.out
      have hlt1 : w.heap.size < w4.heap.size + 1 := by omega
      have hne : ¬ w.heap.size = w4.heap.size := by omega
      by_cases hl0 : 0 < x.links.length
      · have hli : (0 : Int) < (x.links.length : Int) := by omega
        obtain ⟨k, hk, hrem⟩ : ∃ k : Nat, k < x.links.length ∧ Int.tmod (c : Int) (x.links.length : Int) = (k : Int) := ⟨c % x.links.length, Nat.mod_lt _ hl0, by rw [Int.tmod_eq_emod_of_nonneg (by omega)]; omega⟩
        have hn0 : ¬ (x.links.length : Int) = 0 := by omega
        obtain ⟨i0, hi0, hz0, hz1, hz2⟩ := info_parts Try.infoL
        have HI := Lib.hid hi0
        have HZ0 := Lib.hid hz0
        have HZ1 := Lib.hid hz1
        have HZ2 := Lib.hid hz2
        have hxat := HM.out.on HB.out
        have ha := hxat.links.addr.resolve_left (by omega)
        have hfw : x.procs.length ≤ 12 ∧ x.links.length ≤ 24 ∧ x.events.length ≤ 24 := by
          have := HF.out
          unfold fewB ModelV.m at this
          simp at this
          omega
        obtain ⟨hp12, hl24, he24⟩ := hfw
        have HNw : Hid (∀ j u, (x.links.flatMap encL)[j]? = some u → ((w4.alloc (.cells #[.int .i64 x.ver, .slice x.pa x.procs.length x.pc, .slice x.la x.links.length x.lc, .slice x.ea x.events.length x.ec] 26)).alloc (.cells #[] 50)).cell? ((⟨x.lb, x.lo, none⟩ : Addr).add j) = some u) := Lib.hid (rows_cells hszL ((hxat.links.kept ((below_one w4 (.cells #[.int .i64 x.ver, .slice x.pa x.procs.length x.pc, .slice x.la x.links.length x.lc, .slice x.ea x.events.length x.ec] 26)).trans ((below_one _ (.cells #[] 50)).mono (by simp))) (Nat.le_refl _))))
        have HG0 : Hid (Gath ((w4.alloc (.cells #[.int .i64 x.ver, .slice x.pa x.procs.length x.pc, .slice x.la x.links.length x.lc, .slice x.ea x.events.length x.ec] 26)).alloc (.cells #[] 50)) (w4.heap.size + 1 + 1) 50 5 (.slice (some ⟨w4.heap.size + 1, 0, none⟩) 0 0) 0 []) := Lib.hid (.inl ⟨rfl, rfl, _, rfl⟩)
        have HBq := Lib.hid (heap_alloc (heap_new (w := w4) (.cells #[.int .i64 x.ver, .slice x.pa x.procs.length x.pc, .slice x.la x.links.length x.lc, .slice x.ea x.events.length x.ec] 26) rfl) (.cells #[] 50))
        have HBa := Lib.hid (heap_alloc (heap_alloc HX.out (.cells #[.int .i64 x.ver, .slice x.pa x.procs.length x.pc, .slice x.la x.links.length x.lc, .slice x.ea x.events.length x.ec] 26)) (.cells #[] 50))
        have HBb := Lib.hid (HB.out.trans (((below_one w4 (.cells #[.int .i64 x.ver, .slice x.pa x.procs.length x.pc, .slice x.la x.links.length x.lc, .slice x.ea x.events.length x.ec] 26)).trans ((below_one _ (.cells #[] 50)).mono (by simp))).mono HB.out.size))
        obtain ⟨l, hl⟩ : ∃ l, x.links[k]? = some l := ⟨_, List.getElem?_eq_getElem hk⟩
        have HL := Lib.hid hl
        have hki : (k : Int) < (x.links.length : Int) := by omega
        have hk0 : (0 : Int) ≤ (k : Int) := Int.natCast_nonneg k
        clear hi0 hz0 hz1 hz2 hl
        have HLa := Lib.hid ha
        clear ha
        have hxat2 := Lib.hid hxat
        clear hxat
        go_upto_region 11 with (at_builtin; refine wpList_append_gathP _ rfl _ _ 23 rfl (w4.heap.size + 1 + 1) 50 i0 (.agg zL) 5 64 Try.underlying23 HI.out HZ0.out HZ1.out HZ2.out rfl (by decide) _ _ _ rfl HG0.out ⟨x.lb, x.lo, none⟩ x.links.length x.lc (x.links.flatMap encL) (by rw [← HLa.out]; rfl) (flat_len hszL _) HNw.out (one_L _) hl0 (by unfold maxLen; omega) (by omega) (by simp) ?_; intro v' w5 row hown hg hrow; rw [Nat.zero_add, List.nil_append] at hown; obtain ⟨g, cap, rfl, hgb, hrc⟩ := rowc_owned hszL hown rfl hl0; have hrow' : ∀ r, row = some r → w4.heap.size + 1 + 1 ≤ r := (fun r e => (hrow r e).2); have hq5 := heap_kept HBq.out hg (fun e => by have := hrow' _ e.symm; omega); have ha5 := heap_kept HBa.out hg (fun e => by have := hrow' _ e.symm; omega); have hb5 := HBb.out.grown hg (by simp; omega) (fun r e => by have := hrow' r e; omega); have q0 : w5.cell? ⟨w4.heap.size, 0, none⟩ = some (.int .i64 x.ver) := heap_cell hq5 rfl; have q2 : w5.cell? ⟨w4.heap.size, 2, none⟩ = some (.slice x.la x.links.length x.lc) := heap_cell hq5 rfl; have f2 := heap_frozen hq5 2; have r3 : w5.cell? ⟨g, k * 5 + 3, none⟩ = some (.int .i64 l.delay) := hrc.cell HL.out rfl; have f3 := hrc.frozen (k * 5 + 3); have hgq : ¬ g = w4.heap.size := (by omega); have hT := TuL.made (cap := cap) ha5 hq5 hrc hb5 hltA (by omega); clear hown hg hrow hrow' hq5 ha5 hb5 hrc)
        have hln := HR.out.links k l HL.out
        have hT1 := hT.set (l := l) (l' := { l with delay := 0 }) HL.out (q := 3) (by decide) (v := .int .i64 0) (encL_delay l 0)
        have he1 := turn_link' HR.out HL.out (l' := { l with delay := 0 }) ⟨rfl, rfl, rfl⟩ (ln_delay hln).1 (by decide)
        have hf1 := fit_set HM.out HL.out (l' := { l with delay := 0 }) ⟨rfl, rfl, rfl⟩
        generalize (w5.setCell ⟨w4.heap.size, 2, none⟩ (.slice (some ⟨g, 0, none⟩) x.links.length cap)).setCell ⟨g, k * 5 + 3, none⟩ (.int .i64 0) = W6 at *
        have HT1 := Lib.hid hT1
        have HC1 : Hid (∀ W, Below W6.heap.size W6 W → Calls Try.prog 15 #[.agg #[.int .i64 x.ver, .slice x.pa x.procs.length x.pc, .slice (some ⟨g, 0, none⟩) x.links.length cap, .slice x.ea x.events.length x.ec]] W fun ee w' => ee = .returned (.agg #[.int .i64 42, .int .i64 ((x.procs.length : Int) + (k : Int) + 1)]) ∧ Hid (Below W6.heap.size W6 w')) := Lib.hid (fun W hW => (HT1.out.on hW).check HM.out hf1 hW he1)
        have HS1 : Hid (∀ W, Below W6.heap.size W6 W → W.cell? ⟨w4.heap.size, 0, none⟩ = some (.int .i64 x.ver) ∧ W.cell? ⟨w4.heap.size, 1, none⟩ = some (.slice x.pa x.procs.length x.pc) ∧ W.cell? ⟨w4.heap.size, 2, none⟩ = some (.slice (some ⟨g, 0, none⟩) x.links.length cap) ∧ W.cell? ⟨w4.heap.size, 3, none⟩ = some (.slice x.ea x.events.length x.ec) ∧ W.cell? ⟨w.heap.size, 1, none⟩ = some (.slice x.pa x.procs.length x.pc) ∧ Hid (Below W6.heap.size W6 W)) := Lib.hid (fun W hW => ⟨heap_cell (HT1.out.on hW).boxQ rfl, heap_cell (HT1.out.on hW).boxQ rfl, heap_cell (HT1.out.on hW).boxQ rfl, heap_cell (HT1.out.on hW).boxQ rfl, heap_cell (HT1.out.on hW).boxA rfl, Lib.hid hW⟩)
        have hpi : (x.procs.length : Int) ≤ 12 := by omega
        have hp0 : (0 : Int) ≤ (x.procs.length : Int) := Int.natCast_nonneg _
        have hk24 : (k : Int) ≤ 24 := by omega
        have hnq1 := neqR 42 ((x.procs.length : Int) + (k : Int) + 1)
        have hwr1 : IntKind.i64.wrap ((x.procs.length : Int) + (k : Int)) = (x.procs.length : Int) + (k : Int) := by rw [IntKind.wrap_i64]; omega
        have hwr2 : IntKind.i64.wrap ((x.procs.length : Int) + (k : Int) + 1) = (x.procs.length : Int) + (k : Int) + 1 := by rw [IntKind.wrap_i64]; omega
        clear hT hT1 he1 hf1 c0 c1 c2 c3 q0 q2 f2 r3 f3 hfd
        go_region_held3 (fun W => W.cell? ⟨w4.heap.size, 0, none⟩ = some (.int .i64 x.ver) ∧ W.cell? ⟨w4.heap.size, 1, none⟩ = some (.slice x.pa x.procs.length x.pc) ∧ W.cell? ⟨w4.heap.size, 2, none⟩ = some (.slice (some ⟨g, 0, none⟩) x.links.length cap) ∧ W.cell? ⟨w4.heap.size, 3, none⟩ = some (.slice x.ea x.events.length x.ec) ∧ W.cell? ⟨w.heap.size, 1, none⟩ = some (.slice x.pa x.procs.length x.pc) ∧ Hid (Below W6.heap.size W6 W)) (first | exact HS1.out _ (Below.refl _ _) | exact HS1.out _ (Below.refl _ _).drew | exact HS1.out _ hB1.out | exact HS1.out _ hB1.out.drew) (first
          | (go_at_call 15; refine (HC1.out _ (by first | exact Below.refl _ _ | exact (Below.refl _ _).drew)).mono ?_; clear HC1; rintro e u1 ⟨rfl, hB1⟩))
        have hT2 := HT1.out.on hB1.out
        have HT2 := Lib.hid hT2
        have hu1 := hB1.out.size
        clear hT2
        obtain ⟨l1, hl1⟩ : ∃ l1, { l with delay := 0 } = l1 := ⟨_, rfl⟩
        go_upto_region 13 with fail
        have hq : u1.heap[w4.heap.size]? = _ := HT2.out.boxQ
        have hd : (fun X : World => X.heap[w4.heap.size]? = some (.cells #[.int .i64 x.ver, .slice x.pa x.procs.length x.pc, .slice (some ⟨g, 0, none⟩) x.links.length cap, .slice x.ea x.events.length x.ec] 26 (0, 0))) u1.drew := hq
        refine (wpIn_wide (n := 3)).1 ?_
        refine region_T_calm (fun X => X.heap[w4.heap.size]? = some (.cells #[.int .i64 x.ver, .slice x.pa x.procs.length x.pc, .slice (some ⟨g, 0, none⟩) x.links.length cap, .slice x.ea x.events.length x.ec] 26 (0, 0))) (fun _ => true) rfl (by kernel_rfl) ?_
        change AnyT _ _ _ _ _ _ _ _ 12 _ _ (World.drew _)
        refine AnyT.take (i := 0) (v := .pointer (some ⟨w4.heap.size, 2, none⟩)) rfl rfl (by kernel_rfl) (by kernel_rfl) (by kernel_rfl) (by kernel_rfl) (by kernel_rfl) (fun _ _ _ h => h) (by kernel_rfl) (fun X hX => by go_simp) (fun _ => rfl) hd ?_
        try simp only [List.getElem_toArray, List.getElem_cons_zero, List.getElem_cons_succ, Act.put, List.setIfInBounds_toArray, List.set_cons_zero, List.set_cons_succ]
        refine AnyT.take (i := 1) (v := .slice (some ⟨g, 0, none⟩) x.links.length cap) rfl rfl (by kernel_rfl) (by kernel_rfl) (by kernel_rfl) (by kernel_rfl) (by kernel_rfl) (fun _ _ _ h => h) (by kernel_rfl) (fun X hX => by have c := heap_cell hX (i := 2) rfl; simp only [List.getElem_toArray, List.getElem_cons_zero, List.getElem_cons_succ] at c; go_simp) (fun _ => rfl) hd ?_
        try simp only [List.getElem_toArray, List.getElem_cons_zero, List.getElem_cons_succ, Act.put, List.setIfInBounds_toArray, List.set_cons_zero, List.set_cons_succ]
        refine AnyT.take (i := 2) (v := .int .i64 (k : Int)) rfl rfl (by kernel_rfl) (by kernel_rfl) (by kernel_rfl) (by kernel_rfl) (by kernel_rfl) (fun _ _ _ h => h) (by kernel_rfl) (fun X hX => by go_simp) (fun _ => rfl) hd ?_
        try simp only [List.getElem_toArray, List.getElem_cons_zero, List.getElem_cons_succ, Act.put, List.setIfInBounds_toArray, List.set_cons_zero, List.set_cons_succ]
        refine AnyT.take (i := 3) (v := .pointer (some ⟨w4.heap.size, 2, none⟩)) rfl rfl (by kernel_rfl) (by kernel_rfl) (by kernel_rfl) (by kernel_rfl) (by kernel_rfl) (fun _ _ _ h => h) (by kernel_rfl) (fun X hX => by go_simp) (fun _ => rfl) hd ?_
        try simp only [List.getElem_toArray, List.getElem_cons_zero, List.getElem_cons_succ, Act.put, List.setIfInBounds_toArray, List.set_cons_zero, List.set_cons_succ]
        refine AnyT.take (i := 4) (v := .slice (some ⟨g, 0, none⟩) x.links.length cap) rfl rfl (by kernel_rfl) (by kernel_rfl) (by kernel_rfl) (by kernel_rfl) (by kernel_rfl) (fun _ _ _ h => h) (by kernel_rfl) (fun X hX => by have c := heap_cell hX (i := 2) rfl; simp only [List.getElem_toArray, List.getElem_cons_zero, List.getElem_cons_succ] at c; go_simp) (fun _ => rfl) hd ?_
        try simp only [List.getElem_toArray, List.getElem_cons_zero, List.getElem_cons_succ, Act.put, List.setIfInBounds_toArray, List.set_cons_zero, List.set_cons_succ]
        refine AnyT.take (i := 5) (v := .int .i64 (k : Int)) rfl rfl (by kernel_rfl) (by kernel_rfl) (by kernel_rfl) (by kernel_rfl) (by kernel_rfl) (fun _ _ _ h => h) (by kernel_rfl) (fun X hX => by go_simp) (fun _ => rfl) hd ?_
        try simp only [List.getElem_toArray, List.getElem_cons_zero, List.getElem_cons_succ, Act.put, List.setIfInBounds_toArray, List.set_cons_zero, List.set_cons_succ]
        refine AnyT.take (i := 6) (v := .pointer (some ⟨g, k * 5, none⟩)) rfl rfl (by kernel_rfl) (by kernel_rfl) (by kernel_rfl) (by kernel_rfl) (by kernel_rfl) (fun _ _ _ h => h) (by kernel_rfl) (fun X hX => by go_simp) (fun _ => rfl) hd ?_
        try simp only [List.getElem_toArray, List.getElem_cons_zero, List.getElem_cons_succ, Act.put, List.setIfInBounds_toArray, List.set_cons_zero, List.set_cons_succ]
        refine AnyT.take (i := 7) (v := .pointer (some ⟨g, k * 5 + 3, none⟩)) rfl rfl (by kernel_rfl) (by kernel_rfl) (by kernel_rfl) (by kernel_rfl) (by kernel_rfl) (fun _ _ _ h => h) (by kernel_rfl) (fun X hX => by go_simp) (fun _ => rfl) hd ?_
        try simp only [List.getElem_toArray, List.getElem_cons_zero, List.getElem_cons_succ, Act.put, List.setIfInBounds_toArray, List.set_cons_zero, List.set_cons_succ]
        have hlk : (x.links.set k { l with delay := 0 })[k]? = some { l with delay := 0 } := List.getElem?_set_self hk
        have r3 : u1.drew.cell? ⟨g, k * 5 + 3, none⟩ = some (.int .i64 0) := HT2.out.row.cell hlk rfl
        have r4 : u1.drew.cell? ⟨g, k * 5 + 4, none⟩ = some (.int .i64 l.weight) := HT2.out.row.cell hlk rfl
        have f3 : u1.drew.frozen? ⟨g, k * 5 + 3, none⟩ = false := HT2.out.row.frozen (k * 5 + 3)
        have f4 : u1.drew.frozen? ⟨g, k * 5 + 4, none⟩ = false := HT2.out.row.frozen (k * 5 + 4)
        have r4' : u1.cell? ⟨g, k * 5 + 4, none⟩ = some (.int .i64 l.weight) := r4
        have f4' : u1.frozen? ⟨g, k * 5 + 4, none⟩ = false := f4
        refine AnyT.ready (rs := [8]) (by kernel_rfl) (by simp) (ReadyT.cons rfl (fun K hK => ?_) ReadyT.nil)
        go_simp
        have hS8 := heap_other (w := u1.drew) hq (V := g) (fun e => hgq e.symm) (k * 5 + 3) (.int .i64 1)
        refine hK _ _ (fun _ => hS8) ?_
        clear hK K
        try simp only [List.getElem_toArray, List.getElem_cons_zero, List.getElem_cons_succ, Act.put, List.setIfInBounds_toArray, List.set_cons_zero, List.set_cons_succ]
        refine AnyT.take (i := 9) (v := .pointer (some ⟨g, k * 5, none⟩)) rfl rfl (by kernel_rfl) (by kernel_rfl) (by kernel_rfl) (by kernel_rfl) (by kernel_rfl) (fun _ _ _ h => h) (by kernel_rfl) (fun X hX => by go_simp) (fun _ => rfl) hS8 ?_
        try simp only [List.getElem_toArray, List.getElem_cons_zero, List.getElem_cons_succ, Act.put, List.setIfInBounds_toArray, List.set_cons_zero, List.set_cons_succ]
        refine AnyT.take (i := 10) (v := .pointer (some ⟨g, k * 5 + 4, none⟩)) rfl rfl (by kernel_rfl) (by kernel_rfl) (by kernel_rfl) (by kernel_rfl) (by kernel_rfl) (fun _ _ _ h => h) (by kernel_rfl) (fun X hX => by go_simp) (fun _ => rfl) hS8 ?_
        try simp only [List.getElem_toArray, List.getElem_cons_zero, List.getElem_cons_succ, Act.put, List.setIfInBounds_toArray, List.set_cons_zero, List.set_cons_succ]
        refine AnyT.ready (rs := [11]) (by kernel_rfl) (by simp) (ReadyT.cons rfl (fun K hK => ?_) ReadyT.nil)
        go_simp
        refine hK _ _ (fun _ => heap_other hS8 (V := g) (fun e => hgq e.symm) (k * 5 + 4) (.int .i64 (-1))) ?_
        clear hK K
        try simp only [List.getElem_toArray, List.getElem_cons_zero, List.getElem_cons_succ, Act.put, List.setIfInBounds_toArray, List.set_cons_zero, List.set_cons_succ]
        refine AnyT.done (by kernel_rfl) (noPan_normal ?_) _
        have hTa := HT2.out.set (l' := { l with delay := 1 }) hlk (q := 3) (by decide) (v := .int .i64 1) (encL_delay { l with delay := 0 } 1)
        rw [List.set_set] at hTa
        have hTb := hTa.set (l' := { l with delay := 1, weight := -1 }) (List.getElem?_set_self hk) (q := 4) (by decide) (v := .int .i64 (-1)) (encL_weight { l with delay := 1 } (-1))
        rw [List.set_set] at hTb
        have hTc := hTb.on (Below.refl _ _).drew
        have he2 := turn_link' HR.out HL.out (l' := { l with delay := 1, weight := -1 }) ⟨rfl, rfl, rfl⟩ (ln_delay hln).2 (by decide)
        have hf2 := fit_set HM.out HL.out (l' := { l with delay := 1, weight := -1 }) ⟨rfl, rfl, rfl⟩
        generalize ((u1.setCell ⟨g, k * 5 + 3, none⟩ (.int .i64 1)).setCell ⟨g, k * 5 + 4, none⟩ (.int .i64 (-1))).drew = W7 at *
        have HT3 := Lib.hid hTc
        have HC2 : Hid (∀ W, Below W7.heap.size W7 W → Calls Try.prog 15 #[.agg #[.int .i64 x.ver, .slice x.pa x.procs.length x.pc, .slice (some ⟨g, 0, none⟩) x.links.length cap, .slice x.ea x.events.length x.ec]] W fun ee w' => ee = .returned (.agg #[.int .i64 41, .int .i64 ((x.procs.length : Int) + (k : Int) + 1)]) ∧ Hid (Below W7.heap.size W7 w')) := Lib.hid (fun W hW => (HT3.out.on hW).check HM.out hf2 hW he2)
        have HS2 : Hid (∀ W, Below W7.heap.size W7 W → W.cell? ⟨w4.heap.size, 0, none⟩ = some (.int .i64 x.ver) ∧ W.cell? ⟨w4.heap.size, 1, none⟩ = some (.slice x.pa x.procs.length x.pc) ∧ W.cell? ⟨w4.heap.size, 2, none⟩ = some (.slice (some ⟨g, 0, none⟩) x.links.length cap) ∧ W.cell? ⟨w4.heap.size, 3, none⟩ = some (.slice x.ea x.events.length x.ec) ∧ W.cell? ⟨w.heap.size, 1, none⟩ = some (.slice x.pa x.procs.length x.pc) ∧ Hid (Below W7.heap.size W7 W)) := Lib.hid (fun W hW => ⟨heap_cell (HT3.out.on hW).boxQ rfl, heap_cell (HT3.out.on hW).boxQ rfl, heap_cell (HT3.out.on hW).boxQ rfl, heap_cell (HT3.out.on hW).boxQ rfl, heap_cell (HT3.out.on hW).boxA rfl, Lib.hid hW⟩)
        have hnq2 := neqR 41 ((x.procs.length : Int) + (k : Int) + 1)
        clear hTa hTb hTc he2 hf2 hq hd hS8 r3 r4 f3 f4 r4' f4' hlk
        go_upto_region 14 with fail
        go_region_held3 (fun W => W.cell? ⟨w4.heap.size, 0, none⟩ = some (.int .i64 x.ver) ∧ W.cell? ⟨w4.heap.size, 1, none⟩ = some (.slice x.pa x.procs.length x.pc) ∧ W.cell? ⟨w4.heap.size, 2, none⟩ = some (.slice (some ⟨g, 0, none⟩) x.links.length cap) ∧ W.cell? ⟨w4.heap.size, 3, none⟩ = some (.slice x.ea x.events.length x.ec) ∧ W.cell? ⟨w.heap.size, 1, none⟩ = some (.slice x.pa x.procs.length x.pc) ∧ Hid (Below W7.heap.size W7 W)) (first | exact HS2.out _ (Below.refl _ _) | exact HS2.out _ (Below.refl _ _).drew | exact HS2.out _ hB2.out | exact HS2.out _ hB2.out.drew) (first
          | (go_at_call 15; refine (HC2.out _ (by first | exact Below.refl _ _ | exact (Below.refl _ _).drew)).mono ?_; clear HC2; rintro e u2 ⟨rfl, hB2⟩))
        have HT4 := Lib.hid (HT3.out.on hB2.out)
        have HXu := Lib.hid HT4.out.boxA
        have HBu := Lib.hid HT4.out.low
        have hltB := heap_lt HXu.out
        have hneB : ¬ w.heap.size = u2.heap.size := by omega
        have hltB1 : w.heap.size < u2.heap.size + 1 := by omega
        have e0 : u2.cell? ⟨w.heap.size, 0, none⟩ = some (.int .i64 x.ver) := heap_cell HXu.out rfl
        have e1 : u2.cell? ⟨w.heap.size, 1, none⟩ = some (.slice x.pa x.procs.length x.pc) := heap_cell HXu.out rfl
        have e2c : u2.cell? ⟨w.heap.size, 2, none⟩ = some (.slice x.la x.links.length x.lc) := heap_cell HXu.out rfl
        have e3 : u2.cell? ⟨w.heap.size, 3, none⟩ = some (.slice x.ea x.events.length x.ec) := heap_cell HXu.out rfl
        by_cases hv0 : 0 < x.events.length
        · have hvi : (0 : Int) < (x.events.length : Int) := by omega
          obtain ⟨ke, hke, hrme⟩ : ∃ k : Nat, k < x.events.length ∧ Int.tmod (c : Int) (x.events.length : Int) = (k : Int) := ⟨c % x.events.length, Nat.mod_lt _ hv0, by rw [Int.tmod_eq_emod_of_nonneg (by omega)]; omega⟩
          have hve0 : ¬ (x.events.length : Int) = 0 := by omega
          obtain ⟨j0, hj0, hy0, hy1, hy2⟩ := info_parts Try.infoE
          have HJ := Lib.hid hj0
          have HY0 := Lib.hid hy0
          have HY1 := Lib.hid hy1
          have HY2 := Lib.hid hy2
          have hxe := HM.out.on HBu.out
          have HEa := Lib.hid (hxe.events.addr.resolve_left (by omega))
          have HNe : Hid (∀ j u, (x.events.flatMap encE)[j]? = some u → ((u2.alloc (.cells #[.int .i64 x.ver, .slice x.pa x.procs.length x.pc, .slice x.la x.links.length x.lc, .slice x.ea x.events.length x.ec] 26)).alloc (.cells #[] 52)).cell? ((⟨x.eb, x.eo, none⟩ : Addr).add j) = some u) := Lib.hid (rows_cells hszE ((hxe.events.kept ((below_one u2 (.cells #[.int .i64 x.ver, .slice x.pa x.procs.length x.pc, .slice x.la x.links.length x.lc, .slice x.ea x.events.length x.ec] 26)).trans ((below_one _ (.cells #[] 52)).mono (by simp))) (Nat.le_refl _))))
          have HGe : Hid (Gath ((u2.alloc (.cells #[.int .i64 x.ver, .slice x.pa x.procs.length x.pc, .slice x.la x.links.length x.lc, .slice x.ea x.events.length x.ec] 26)).alloc (.cells #[] 52)) (u2.heap.size + 1 + 1) 52 3 (.slice (some ⟨u2.heap.size + 1, 0, none⟩) 0 0) 0 []) := Lib.hid (.inl ⟨rfl, rfl, _, rfl⟩)
          have HQe := Lib.hid (heap_alloc (heap_new (w := u2) (.cells #[.int .i64 x.ver, .slice x.pa x.procs.length x.pc, .slice x.la x.links.length x.lc, .slice x.ea x.events.length x.ec] 26) rfl) (.cells #[] 52))
          have HAe := Lib.hid (heap_alloc (heap_alloc HXu.out (.cells #[.int .i64 x.ver, .slice x.pa x.procs.length x.pc, .slice x.la x.links.length x.lc, .slice x.ea x.events.length x.ec] 26)) (.cells #[] 52))
          have HLe := Lib.hid (HBu.out.trans (((below_one u2 (.cells #[.int .i64 x.ver, .slice x.pa x.procs.length x.pc, .slice x.la x.links.length x.lc, .slice x.ea x.events.length x.ec] 26)).trans ((below_one _ (.cells #[] 52)).mono (by simp))).mono HBu.out.size))
          obtain ⟨v0, hv⟩ : ∃ v, x.events[ke]? = some v := ⟨_, List.getElem?_eq_getElem hke⟩
          have HV := Lib.hid hv
          have hkei : (ke : Int) < (x.events.length : Int) := by omega
          have hke0 : (0 : Int) ≤ (ke : Int) := Int.natCast_nonneg ke
          clear hj0 hy0 hy1 hy2 hv hxe
          go_upto_region 21 with (at_builtin; refine wpList_append_gathP _ rfl _ _ 24 rfl (u2.heap.size + 1 + 1) 52 j0 (.agg zE) 3 32 Try.underlying24 HJ.out HY0.out HY1.out HY2.out rfl (by decide) _ _ _ rfl HGe.out ⟨x.eb, x.eo, none⟩ x.events.length x.ec (x.events.flatMap encE) (by rw [← HEa.out]; rfl) (flat_len hszE _) HNe.out (one_E _) hv0 (by unfold maxLen; omega) (by omega) (by simp) ?_; intro v' w8 row hown hg hrow; rw [Nat.zero_add, List.nil_append] at hown; obtain ⟨ge, cape, rfl, hge, hrc⟩ := rowc_owned hszE hown rfl hv0; have hrow' : ∀ r, row = some r → u2.heap.size + 1 + 1 ≤ r := (fun r e => (hrow r e).2); have hq5 := heap_kept HQe.out hg (fun e => by have := hrow' _ e.symm; omega); have ha5 := heap_kept HAe.out hg (fun e => by have := hrow' _ e.symm; omega); have hb5 := HLe.out.grown hg (by simp; omega) (fun r e => by have := hrow' r e; omega); have q0 : w8.cell? ⟨u2.heap.size, 0, none⟩ = some (.int .i64 x.ver) := heap_cell hq5 rfl; have q3 : w8.cell? ⟨u2.heap.size, 3, none⟩ = some (.slice x.ea x.events.length x.ec) := heap_cell hq5 rfl; have f3 := heap_frozen hq5 3; have r1 : w8.cell? ⟨ge, ke * 3 + 1, none⟩ = some (.int .i64 v0.at_) := hrc.cell HV.out rfl; have f1 := hrc.frozen (ke * 3 + 1); have hgq2 : ¬ ge = u2.heap.size := (by omega); have hTe := TuE.made (cap := cape) ha5 hq5 hrc hb5 hltB (by omega); clear hown hg hrow hrow' hq5 ha5 hb5 hrc)
          have hev := HR.out.events ke v0 HV.out
          have hTe1 := hTe.set (l := v0) (l' := { v0 with at_ := -1 }) HV.out (q := 1) (by decide) (v := .int .i64 (-1)) (encE_at v0 (-1))
          have hee1 := turn_event' HR.out hke (v := { v0 with at_ := -1 }) (ev_at HR.out hev).1 (by decide)
          have hfe1 := fit_setE HM.out ke (v := { v0 with at_ := -1 }) (HM.out.events.fits v0 (List.mem_of_getElem? HV.out))
          generalize (w8.setCell ⟨u2.heap.size, 3, none⟩ (.slice (some ⟨ge, 0, none⟩) x.events.length cape)).setCell ⟨ge, ke * 3 + 1, none⟩ (.int .i64 (-1)) = W9 at *
          have HTe1 := Lib.hid hTe1
          have HCe : Hid (∀ W, Below W9.heap.size W9 W → Calls Try.prog 15 #[.agg #[.int .i64 x.ver, .slice x.pa x.procs.length x.pc, .slice x.la x.links.length x.lc, .slice (some ⟨ge, 0, none⟩) x.events.length cape]] W fun ee w' => ee = .returned (.agg #[.int .i64 23, .int .i64 ((x.procs.length : Int) + (x.links.length : Int) + (ke : Int) + 1)]) ∧ Hid (Below W9.heap.size W9 w')) := Lib.hid (fun W hW => (HTe1.out.on hW).check HM.out hfe1 hW hee1)
          have HSe : Hid (∀ W, Below W9.heap.size W9 W → W.cell? ⟨u2.heap.size, 0, none⟩ = some (.int .i64 x.ver) ∧ W.cell? ⟨u2.heap.size, 1, none⟩ = some (.slice x.pa x.procs.length x.pc) ∧ W.cell? ⟨u2.heap.size, 2, none⟩ = some (.slice x.la x.links.length x.lc) ∧ W.cell? ⟨u2.heap.size, 3, none⟩ = some (.slice (some ⟨ge, 0, none⟩) x.events.length cape) ∧ W.cell? ⟨w.heap.size, 1, none⟩ = some (.slice x.pa x.procs.length x.pc) ∧ W.cell? ⟨w.heap.size, 2, none⟩ = some (.slice x.la x.links.length x.lc) ∧ Hid (Below W9.heap.size W9 W)) := Lib.hid (fun W hW => ⟨heap_cell (HTe1.out.on hW).boxQ rfl, heap_cell (HTe1.out.on hW).boxQ rfl, heap_cell (HTe1.out.on hW).boxQ rfl, heap_cell (HTe1.out.on hW).boxQ rfl, heap_cell (HTe1.out.on hW).boxA rfl, heap_cell (HTe1.out.on hW).boxA rfl, Lib.hid hW⟩)
          have hei : (ke : Int) ≤ 24 := by omega
          have hl0i : (0 : Int) ≤ (x.links.length : Int) := Int.natCast_nonneg _
          have hlii : (x.links.length : Int) ≤ 24 := by omega
          have hpii : (x.procs.length : Int) ≤ 12 := by omega
          have hp0i : (0 : Int) ≤ (x.procs.length : Int) := Int.natCast_nonneg _
          have hnqe := neqR 23 ((x.procs.length : Int) + (x.links.length : Int) + (ke : Int) + 1)
          have heqe := eqlR 4 ((x.procs.length : Int) + (x.links.length : Int) + (ke : Int) + 1)
          have hwe1 : IntKind.i64.wrap ((x.procs.length : Int) + (x.links.length : Int)) = (x.procs.length : Int) + (x.links.length : Int) := by rw [IntKind.wrap_i64]; omega
          have hwe2 : IntKind.i64.wrap ((x.procs.length : Int) + (x.links.length : Int) + (ke : Int)) = (x.procs.length : Int) + (x.links.length : Int) + (ke : Int) := by rw [IntKind.wrap_i64]; omega
          have hwe3 : IntKind.i64.wrap ((x.procs.length : Int) + (x.links.length : Int) + (ke : Int) + 1) = (x.procs.length : Int) + (x.links.length : Int) + (ke : Int) + 1 := by rw [IntKind.wrap_i64]; omega
          clear hTe hTe1 hee1 hfe1 e0 e1 e2c e3 q0 q3 f3 r1 f1
          go_region_held3 (fun W => W.cell? ⟨u2.heap.size, 0, none⟩ = some (.int .i64 x.ver) ∧ W.cell? ⟨u2.heap.size, 1, none⟩ = some (.slice x.pa x.procs.length x.pc) ∧ W.cell? ⟨u2.heap.size, 2, none⟩ = some (.slice x.la x.links.length x.lc) ∧ W.cell? ⟨u2.heap.size, 3, none⟩ = some (.slice (some ⟨ge, 0, none⟩) x.events.length cape) ∧ W.cell? ⟨w.heap.size, 1, none⟩ = some (.slice x.pa x.procs.length x.pc) ∧ W.cell? ⟨w.heap.size, 2, none⟩ = some (.slice x.la x.links.length x.lc) ∧ Hid (Below W9.heap.size W9 W)) (first | exact HSe.out _ (Below.refl _ _) | exact HSe.out _ (Below.refl _ _).drew | exact HSe.out _ hBe1.out | exact HSe.out _ hBe1.out.drew) (first
            | (go_at_call 15; refine (HCe.out _ (by first | exact Below.refl _ _ | exact (Below.refl _ _).drew)).mono ?_; clear HCe; rintro e u8 ⟨rfl, hBe1⟩))
          have hlk2 : (x.events.set ke { v0 with at_ := -1 })[ke]? = some { v0 with at_ := -1 } := List.getElem?_set_self hke
          have hTe2 := HTe1.out.on hBe1.out
          have HTe2 := Lib.hid hTe2
          have hTe3 := hTe2.set (l' := { v0 with at_ := -1, to_ := ⟨#[]⟩ }) hlk2 (q := 0) (by decide) (v := .string ⟨#[]⟩) (encE_to { v0 with at_ := -1 } ⟨#[]⟩)
          rw [List.set_set, Nat.add_zero] at hTe3
          have HTe3 := Lib.hid hTe3
          have q3 : u8.cell? ⟨u2.heap.size, 3, none⟩ = some (.slice (some ⟨ge, 0, none⟩) x.events.length cape) := heap_cell HTe2.out.boxQ rfl
          have r0 : u8.cell? ⟨ge, ke * 3, none⟩ = some (.string v0.to_) := HTe2.out.row.cell hlk2 (r := 0) rfl
          have f0 : u8.frozen? ⟨ge, ke * 3, none⟩ = false := HTe2.out.row.frozen (ke * 3)
          clear hTe2 hTe3 hlk2
          go_upto_region 24 with fail
          clear q3 r0 f0
          have hee1 := turn_event' HR.out hke (v := { v0 with at_ := -1, to_ := ⟨#[]⟩ }) (ev_at HR.out hev).2 (by decide)
          have hfe1 := fit_setE HM.out ke (v := { v0 with at_ := -1, to_ := ⟨#[]⟩ }) (by show (0 : Nat) ≤ maxLen; decide)
          generalize u8.setCell ⟨ge, ke * 3, none⟩ (.string ⟨#[]⟩) = W10 at *
          have HCf : Hid (∀ W, Below W10.heap.size W10 W → Calls Try.prog 15 #[.agg #[.int .i64 x.ver, .slice x.pa x.procs.length x.pc, .slice x.la x.links.length x.lc, .slice (some ⟨ge, 0, none⟩) x.events.length cape]] W fun ee w' => ee = .returned (.agg #[.int .i64 4, .int .i64 ((x.procs.length : Int) + (x.links.length : Int) + (ke : Int) + 1)]) ∧ Hid (Below W10.heap.size W10 w')) := Lib.hid (fun W hW => (HTe3.out.on hW).check HM.out hfe1 hW hee1)
          have HSf : Hid (∀ W, Below W10.heap.size W10 W → W.cell? ⟨u2.heap.size, 0, none⟩ = some (.int .i64 x.ver) ∧ W.cell? ⟨u2.heap.size, 1, none⟩ = some (.slice x.pa x.procs.length x.pc) ∧ W.cell? ⟨u2.heap.size, 2, none⟩ = some (.slice x.la x.links.length x.lc) ∧ W.cell? ⟨u2.heap.size, 3, none⟩ = some (.slice (some ⟨ge, 0, none⟩) x.events.length cape) ∧ W.cell? ⟨w.heap.size, 1, none⟩ = some (.slice x.pa x.procs.length x.pc) ∧ W.cell? ⟨w.heap.size, 2, none⟩ = some (.slice x.la x.links.length x.lc) ∧ Hid (Below W10.heap.size W10 W)) := Lib.hid (fun W hW => ⟨heap_cell (HTe3.out.on hW).boxQ rfl, heap_cell (HTe3.out.on hW).boxQ rfl, heap_cell (HTe3.out.on hW).boxQ rfl, heap_cell (HTe3.out.on hW).boxQ rfl, heap_cell (HTe3.out.on hW).boxA rfl, heap_cell (HTe3.out.on hW).boxA rfl, Lib.hid hW⟩)
          clear hee1 hfe1
          go_region_held3 (fun W => W.cell? ⟨u2.heap.size, 0, none⟩ = some (.int .i64 x.ver) ∧ W.cell? ⟨u2.heap.size, 1, none⟩ = some (.slice x.pa x.procs.length x.pc) ∧ W.cell? ⟨u2.heap.size, 2, none⟩ = some (.slice x.la x.links.length x.lc) ∧ W.cell? ⟨u2.heap.size, 3, none⟩ = some (.slice (some ⟨ge, 0, none⟩) x.events.length cape) ∧ W.cell? ⟨w.heap.size, 1, none⟩ = some (.slice x.pa x.procs.length x.pc) ∧ W.cell? ⟨w.heap.size, 2, none⟩ = some (.slice x.la x.links.length x.lc) ∧ Hid (Below W10.heap.size W10 W)) (first | exact HSf.out _ (Below.refl _ _) | exact HSf.out _ (Below.refl _ _).drew | exact HSf.out _ hBf1.out | exact HSf.out _ hBf1.out.drew) (first
            | (go_at_call 15; refine (HCf.out _ (by first | exact Below.refl _ _ | exact (Below.refl _ _).drew)).mono ?_; clear HCf; rintro e u9 ⟨rfl, hBf1⟩))
          have HTe4 := Lib.hid (HTe3.out.on hBf1.out)
          go_wp2
          go_ret
          exact ⟨rfl, HTe4.out.low⟩
        · have hvi : ¬ (0 : Int) < (x.events.length : Int) := by omega
          go_wp2
          go_ret
          exact ⟨rfl, HBu.out⟩
      · have hli : ¬ (0 : Int) < (x.links.length : Int) := by omega
        have hfw : x.procs.length ≤ 12 ∧ x.links.length ≤ 24 ∧ x.events.length ≤ 24 := by
          have := HF.out
          unfold fewB ModelV.m at this
          simp at this
          omega
        obtain ⟨hp12, hl24, he24⟩ := hfw
        clear c0 c1 c2 c3
        have hltB := heap_lt HX.out
        have hneB : ¬ w.heap.size = w4.heap.size := by omega
        have hltB1 : w.heap.size < w4.heap.size + 1 := by omega
        have e0 : w4.cell? ⟨w.heap.size, 0, none⟩ = some (.int .i64 x.ver) := heap_cell HX.out rfl
        have e1 : w4.cell? ⟨w.heap.size, 1, none⟩ = some (.slice x.pa x.procs.length x.pc) := heap_cell HX.out rfl
        have e2c : w4.cell? ⟨w.heap.size, 2, none⟩ = some (.slice x.la x.links.length x.lc) := heap_cell HX.out rfl
        have e3 : w4.cell? ⟨w.heap.size, 3, none⟩ = some (.slice x.ea x.events.length x.ec) := heap_cell HX.out rfl
        by_cases hv0 : 0 < x.events.length
        · have hvi : (0 : Int) < (x.events.length : Int) := by omega
          obtain ⟨ke, hke, hrme⟩ : ∃ k : Nat, k < x.events.length ∧ Int.tmod (c : Int) (x.events.length : Int) = (k : Int) := ⟨c % x.events.length, Nat.mod_lt _ hv0, by rw [Int.tmod_eq_emod_of_nonneg (by omega)]; omega⟩
          have hve0 : ¬ (x.events.length : Int) = 0 := by omega
          obtain ⟨j0, hj0, hy0, hy1, hy2⟩ := info_parts Try.infoE
          have HJ := Lib.hid hj0
          have HY0 := Lib.hid hy0
          have HY1 := Lib.hid hy1
          have HY2 := Lib.hid hy2
          have hxe := HM.out.on HB.out
          have HEa := Lib.hid (hxe.events.addr.resolve_left (by omega))
          have HNe : Hid (∀ j u, (x.events.flatMap encE)[j]? = some u → ((w4.alloc (.cells #[.int .i64 x.ver, .slice x.pa x.procs.length x.pc, .slice x.la x.links.length x.lc, .slice x.ea x.events.length x.ec] 26)).alloc (.cells #[] 52)).cell? ((⟨x.eb, x.eo, none⟩ : Addr).add j) = some u) := Lib.hid (rows_cells hszE ((hxe.events.kept ((below_one w4 (.cells #[.int .i64 x.ver, .slice x.pa x.procs.length x.pc, .slice x.la x.links.length x.lc, .slice x.ea x.events.length x.ec] 26)).trans ((below_one _ (.cells #[] 52)).mono (by simp))) (Nat.le_refl _))))
          have HGe : Hid (Gath ((w4.alloc (.cells #[.int .i64 x.ver, .slice x.pa x.procs.length x.pc, .slice x.la x.links.length x.lc, .slice x.ea x.events.length x.ec] 26)).alloc (.cells #[] 52)) (w4.heap.size + 1 + 1) 52 3 (.slice (some ⟨w4.heap.size + 1, 0, none⟩) 0 0) 0 []) := Lib.hid (.inl ⟨rfl, rfl, _, rfl⟩)
          have HQe := Lib.hid (heap_alloc (heap_new (w := w4) (.cells #[.int .i64 x.ver, .slice x.pa x.procs.length x.pc, .slice x.la x.links.length x.lc, .slice x.ea x.events.length x.ec] 26) rfl) (.cells #[] 52))
          have HAe := Lib.hid (heap_alloc (heap_alloc HX.out (.cells #[.int .i64 x.ver, .slice x.pa x.procs.length x.pc, .slice x.la x.links.length x.lc, .slice x.ea x.events.length x.ec] 26)) (.cells #[] 52))
          have HLe := Lib.hid (HB.out.trans (((below_one w4 (.cells #[.int .i64 x.ver, .slice x.pa x.procs.length x.pc, .slice x.la x.links.length x.lc, .slice x.ea x.events.length x.ec] 26)).trans ((below_one _ (.cells #[] 52)).mono (by simp))).mono HB.out.size))
          obtain ⟨v0, hv⟩ : ∃ v, x.events[ke]? = some v := ⟨_, List.getElem?_eq_getElem hke⟩
          have HV := Lib.hid hv
          have hkei : (ke : Int) < (x.events.length : Int) := by omega
          have hke0 : (0 : Int) ≤ (ke : Int) := Int.natCast_nonneg ke
          clear hj0 hy0 hy1 hy2 hv hxe
          go_upto_region 21 with (at_builtin; refine wpList_append_gathP _ rfl _ _ 24 rfl (w4.heap.size + 1 + 1) 52 j0 (.agg zE) 3 32 Try.underlying24 HJ.out HY0.out HY1.out HY2.out rfl (by decide) _ _ _ rfl HGe.out ⟨x.eb, x.eo, none⟩ x.events.length x.ec (x.events.flatMap encE) (by rw [← HEa.out]; rfl) (flat_len hszE _) HNe.out (one_E _) hv0 (by unfold maxLen; omega) (by omega) (by simp) ?_; intro v' w8 row hown hg hrow; rw [Nat.zero_add, List.nil_append] at hown; obtain ⟨ge, cape, rfl, hge, hrc⟩ := rowc_owned hszE hown rfl hv0; have hrow' : ∀ r, row = some r → w4.heap.size + 1 + 1 ≤ r := (fun r e => (hrow r e).2); have hq5 := heap_kept HQe.out hg (fun e => by have := hrow' _ e.symm; omega); have ha5 := heap_kept HAe.out hg (fun e => by have := hrow' _ e.symm; omega); have hb5 := HLe.out.grown hg (by simp; omega) (fun r e => by have := hrow' r e; omega); have q0 : w8.cell? ⟨w4.heap.size, 0, none⟩ = some (.int .i64 x.ver) := heap_cell hq5 rfl; have q3 : w8.cell? ⟨w4.heap.size, 3, none⟩ = some (.slice x.ea x.events.length x.ec) := heap_cell hq5 rfl; have f3 := heap_frozen hq5 3; have r1 : w8.cell? ⟨ge, ke * 3 + 1, none⟩ = some (.int .i64 v0.at_) := hrc.cell HV.out rfl; have f1 := hrc.frozen (ke * 3 + 1); have hgq2 : ¬ ge = w4.heap.size := (by omega); have hTe := TuE.made (cap := cape) ha5 hq5 hrc hb5 hltB (by omega); clear hown hg hrow hrow' hq5 ha5 hb5 hrc)
          have hev := HR.out.events ke v0 HV.out
          have hTe1 := hTe.set (l := v0) (l' := { v0 with at_ := -1 }) HV.out (q := 1) (by decide) (v := .int .i64 (-1)) (encE_at v0 (-1))
          have hee1 := turn_event' HR.out hke (v := { v0 with at_ := -1 }) (ev_at HR.out hev).1 (by decide)
          have hfe1 := fit_setE HM.out ke (v := { v0 with at_ := -1 }) (HM.out.events.fits v0 (List.mem_of_getElem? HV.out))
          generalize (w8.setCell ⟨w4.heap.size, 3, none⟩ (.slice (some ⟨ge, 0, none⟩) x.events.length cape)).setCell ⟨ge, ke * 3 + 1, none⟩ (.int .i64 (-1)) = W9 at *
          have HTe1 := Lib.hid hTe1
          have HCe : Hid (∀ W, Below W9.heap.size W9 W → Calls Try.prog 15 #[.agg #[.int .i64 x.ver, .slice x.pa x.procs.length x.pc, .slice x.la x.links.length x.lc, .slice (some ⟨ge, 0, none⟩) x.events.length cape]] W fun ee w' => ee = .returned (.agg #[.int .i64 23, .int .i64 ((x.procs.length : Int) + (x.links.length : Int) + (ke : Int) + 1)]) ∧ Hid (Below W9.heap.size W9 w')) := Lib.hid (fun W hW => (HTe1.out.on hW).check HM.out hfe1 hW hee1)
          have HSe : Hid (∀ W, Below W9.heap.size W9 W → W.cell? ⟨w4.heap.size, 0, none⟩ = some (.int .i64 x.ver) ∧ W.cell? ⟨w4.heap.size, 1, none⟩ = some (.slice x.pa x.procs.length x.pc) ∧ W.cell? ⟨w4.heap.size, 2, none⟩ = some (.slice x.la x.links.length x.lc) ∧ W.cell? ⟨w4.heap.size, 3, none⟩ = some (.slice (some ⟨ge, 0, none⟩) x.events.length cape) ∧ W.cell? ⟨w.heap.size, 1, none⟩ = some (.slice x.pa x.procs.length x.pc) ∧ W.cell? ⟨w.heap.size, 2, none⟩ = some (.slice x.la x.links.length x.lc) ∧ Hid (Below W9.heap.size W9 W)) := Lib.hid (fun W hW => ⟨heap_cell (HTe1.out.on hW).boxQ rfl, heap_cell (HTe1.out.on hW).boxQ rfl, heap_cell (HTe1.out.on hW).boxQ rfl, heap_cell (HTe1.out.on hW).boxQ rfl, heap_cell (HTe1.out.on hW).boxA rfl, heap_cell (HTe1.out.on hW).boxA rfl, Lib.hid hW⟩)
          have hei : (ke : Int) ≤ 24 := by omega
          have hl0i : (0 : Int) ≤ (x.links.length : Int) := Int.natCast_nonneg _
          have hlii : (x.links.length : Int) ≤ 24 := by omega
          have hpii : (x.procs.length : Int) ≤ 12 := by omega
          have hp0i : (0 : Int) ≤ (x.procs.length : Int) := Int.natCast_nonneg _
          have hnqe := neqR 23 ((x.procs.length : Int) + (x.links.length : Int) + (ke : Int) + 1)
          have heqe := eqlR 4 ((x.procs.length : Int) + (x.links.length : Int) + (ke : Int) + 1)
          have hwe1 : IntKind.i64.wrap ((x.procs.length : Int) + (x.links.length : Int)) = (x.procs.length : Int) + (x.links.length : Int) := by rw [IntKind.wrap_i64]; omega
          have hwe2 : IntKind.i64.wrap ((x.procs.length : Int) + (x.links.length : Int) + (ke : Int)) = (x.procs.length : Int) + (x.links.length : Int) + (ke : Int) := by rw [IntKind.wrap_i64]; omega
          have hwe3 : IntKind.i64.wrap ((x.procs.length : Int) + (x.links.length : Int) + (ke : Int) + 1) = (x.procs.length : Int) + (x.links.length : Int) + (ke : Int) + 1 := by rw [IntKind.wrap_i64]; omega
          clear hTe hTe1 hee1 hfe1 e0 e1 e2c e3 q0 q3 f3 r1 f1
          go_region_held3 (fun W => W.cell? ⟨w4.heap.size, 0, none⟩ = some (.int .i64 x.ver) ∧ W.cell? ⟨w4.heap.size, 1, none⟩ = some (.slice x.pa x.procs.length x.pc) ∧ W.cell? ⟨w4.heap.size, 2, none⟩ = some (.slice x.la x.links.length x.lc) ∧ W.cell? ⟨w4.heap.size, 3, none⟩ = some (.slice (some ⟨ge, 0, none⟩) x.events.length cape) ∧ W.cell? ⟨w.heap.size, 1, none⟩ = some (.slice x.pa x.procs.length x.pc) ∧ W.cell? ⟨w.heap.size, 2, none⟩ = some (.slice x.la x.links.length x.lc) ∧ Hid (Below W9.heap.size W9 W)) (first | exact HSe.out _ (Below.refl _ _) | exact HSe.out _ (Below.refl _ _).drew | exact HSe.out _ hBe1.out | exact HSe.out _ hBe1.out.drew) (first
            | (go_at_call 15; refine (HCe.out _ (by first | exact Below.refl _ _ | exact (Below.refl _ _).drew)).mono ?_; clear HCe; rintro e u8 ⟨rfl, hBe1⟩))
          have hlk2 : (x.events.set ke { v0 with at_ := -1 })[ke]? = some { v0 with at_ := -1 } := List.getElem?_set_self hke
          have hTe2 := HTe1.out.on hBe1.out
          have HTe2 := Lib.hid hTe2
          have hTe3 := hTe2.set (l' := { v0 with at_ := -1, to_ := ⟨#[]⟩ }) hlk2 (q := 0) (by decide) (v := .string ⟨#[]⟩) (encE_to { v0 with at_ := -1 } ⟨#[]⟩)
          rw [List.set_set, Nat.add_zero] at hTe3
          have HTe3 := Lib.hid hTe3
          have q3 : u8.cell? ⟨w4.heap.size, 3, none⟩ = some (.slice (some ⟨ge, 0, none⟩) x.events.length cape) := heap_cell HTe2.out.boxQ rfl
          have r0 : u8.cell? ⟨ge, ke * 3, none⟩ = some (.string v0.to_) := HTe2.out.row.cell hlk2 (r := 0) rfl
          have f0 : u8.frozen? ⟨ge, ke * 3, none⟩ = false := HTe2.out.row.frozen (ke * 3)
          clear hTe2 hTe3 hlk2
          go_upto_region 24 with fail
          clear q3 r0 f0
          have hee1 := turn_event' HR.out hke (v := { v0 with at_ := -1, to_ := ⟨#[]⟩ }) (ev_at HR.out hev).2 (by decide)
          have hfe1 := fit_setE HM.out ke (v := { v0 with at_ := -1, to_ := ⟨#[]⟩ }) (by show (0 : Nat) ≤ maxLen; decide)
          generalize u8.setCell ⟨ge, ke * 3, none⟩ (.string ⟨#[]⟩) = W10 at *
          have HCf : Hid (∀ W, Below W10.heap.size W10 W → Calls Try.prog 15 #[.agg #[.int .i64 x.ver, .slice x.pa x.procs.length x.pc, .slice x.la x.links.length x.lc, .slice (some ⟨ge, 0, none⟩) x.events.length cape]] W fun ee w' => ee = .returned (.agg #[.int .i64 4, .int .i64 ((x.procs.length : Int) + (x.links.length : Int) + (ke : Int) + 1)]) ∧ Hid (Below W10.heap.size W10 w')) := Lib.hid (fun W hW => (HTe3.out.on hW).check HM.out hfe1 hW hee1)
          have HSf : Hid (∀ W, Below W10.heap.size W10 W → W.cell? ⟨w4.heap.size, 0, none⟩ = some (.int .i64 x.ver) ∧ W.cell? ⟨w4.heap.size, 1, none⟩ = some (.slice x.pa x.procs.length x.pc) ∧ W.cell? ⟨w4.heap.size, 2, none⟩ = some (.slice x.la x.links.length x.lc) ∧ W.cell? ⟨w4.heap.size, 3, none⟩ = some (.slice (some ⟨ge, 0, none⟩) x.events.length cape) ∧ W.cell? ⟨w.heap.size, 1, none⟩ = some (.slice x.pa x.procs.length x.pc) ∧ W.cell? ⟨w.heap.size, 2, none⟩ = some (.slice x.la x.links.length x.lc) ∧ Hid (Below W10.heap.size W10 W)) := Lib.hid (fun W hW => ⟨heap_cell (HTe3.out.on hW).boxQ rfl, heap_cell (HTe3.out.on hW).boxQ rfl, heap_cell (HTe3.out.on hW).boxQ rfl, heap_cell (HTe3.out.on hW).boxQ rfl, heap_cell (HTe3.out.on hW).boxA rfl, heap_cell (HTe3.out.on hW).boxA rfl, Lib.hid hW⟩)
          clear hee1 hfe1
          go_region_held3 (fun W => W.cell? ⟨w4.heap.size, 0, none⟩ = some (.int .i64 x.ver) ∧ W.cell? ⟨w4.heap.size, 1, none⟩ = some (.slice x.pa x.procs.length x.pc) ∧ W.cell? ⟨w4.heap.size, 2, none⟩ = some (.slice x.la x.links.length x.lc) ∧ W.cell? ⟨w4.heap.size, 3, none⟩ = some (.slice (some ⟨ge, 0, none⟩) x.events.length cape) ∧ W.cell? ⟨w.heap.size, 1, none⟩ = some (.slice x.pa x.procs.length x.pc) ∧ W.cell? ⟨w.heap.size, 2, none⟩ = some (.slice x.la x.links.length x.lc) ∧ Hid (Below W10.heap.size W10 W)) (first | exact HSf.out _ (Below.refl _ _) | exact HSf.out _ (Below.refl _ _).drew | exact HSf.out _ hBf1.out | exact HSf.out _ hBf1.out.drew) (first
            | (go_at_call 15; refine (HCf.out _ (by first | exact Below.refl _ _ | exact (Below.refl _ _).drew)).mono ?_; clear HCf; rintro e u9 ⟨rfl, hBf1⟩))
          have HTe4 := Lib.hid (HTe3.out.on hBf1.out)
          go_wp2
          go_ret
          exact ⟨rfl, HTe4.out.low⟩
        · have hvi : ¬ (0 : Int) < (x.events.length : Int) := by omega
          go_wp2
          go_ret
          exact ⟨rfl, HB.out⟩
    · have heb : (e1 != 0) = true := by simpa using he
      clear hE
      go_wp2
      go_ret
      exact ⟨rfl, HB.out⟩
end Go.Proofs.Ytnblobddefbkiaa.Md
