/- Contracts: what the document finds wrong with a link, and with a model. -/
import Derived.Test.YtenjhbibhkjdaaaMeH
set_option linter.unusedVariables false
set_option linter.unusedSectionVars false
set_option linter.unusedSimpArgs false
namespace Go.Proofs.Ytenjhbibhkjdaaa.Md
open Go.RowKit Go.Shelf

theorem link_at_nm {m : ModelM} {i : Nat} {l : LinkM} (hl : m.links[i]? = some l) : (nmsL m)[i]? = some l.name := by unfold nmsL; rw [List.getElem?_map, hl]; rfl
/-- The boxes of a link's check. -/
structure Lb (x : ModelV) (l : LinkM) (w W : World) : Prop where
  a : W.heap[w.heap.size]? = some (.cells #[.int .i64 x.ver, .slice x.pa x.procs.length x.pc, .slice x.la x.links.length x.lc, .slice x.ea x.events.length x.ec] 26 (0, 0))
  b : W.heap[w.heap.size + 1]? = some (.cells #[.string l.name, .string l.frm, .string l.to_, .int .i64 l.delay, .int .i64 l.weight] 50 (0, 0))
  low : Below w.heap.size w W
theorem Lb.on {x : ModelV} {l : LinkM} {w W W' : World} (h : Lb x l w W) (hb : Below W.heap.size W W') : Lb x l w W' :=
  ⟨heap_below h.a hb (heap_lt h.a), heap_below h.b hb (heap_lt h.b), h.low.trans (hb.mono h.low.size)⟩
set_option maxRecDepth 100000 in
set_option maxHeartbeats 4000000 in
theorem rlinkE_any {w : World} {x : ModelV} (h : ModelAt w.heap.size w x) {i : Nat} {l : LinkM} (hl : x.links[i]? = some l) : Calls Try.prog 36 #[.agg #[.int .i64 x.ver, .slice x.pa x.procs.length x.pc, .slice x.la x.links.length x.lc, .slice x.ea x.events.length x.ec], .int .i64 (i : Int)] w fun e w' => e = .returned (.int .i64 (lnE x.ver (fstP (nmsP x.m)) (fstP (nmsL x.m)) i l)) ∧ Below w.heap.size w w' := by
  have hil : i < x.links.length := (List.getElem?_eq_some_iff.1 hl).1
  have hsm := h.links.small
  unfold maxLen at hsm
  have hi0 : (0 : Int) ≤ (i : Int) := Int.natCast_nonneg i
  have hii : (i : Int) < (x.links.length : Int) := by omega
  have HPl := Lib.hid (plc_iff (link_at_nm (m := x.m) (i := i) (l := l) hl))
  have HA : Hid (lnE x.ver (fstP (nmsP x.m)) (fstP (nmsL x.m)) i l = if nmE (fstP (nmsL x.m)) l.name i ≠ 0 then nmE (fstP (nmsL x.m)) l.name i else if !(fstP (nmsP x.m) l.frm).isSome || !(fstP (nmsP x.m) l.to_).isSome then 4 else if !(decide (1 ≤ l.delay) && decide (l.delay ≤ 1099511627776)) then 42 else if wgtB x.ver l.weight then 0 else 41) := Lib.hid rfl
  have HNm : Hid (nmE (fstP (nmsL x.m)) l.name i = if Ic.chkE l.name ≠ 0 then Ic.chkE l.name else if ((fstP (nmsL x.m)) l.name).getD 0 < i then 5 else 0) := Lib.hid rfl
  have HM := Lib.hid h
  have hfl : l.name.size ≤ maxLen := (h.links.fits l (List.mem_of_getElem? hl)).1
  have hX1 := heap_new (w := w) (.cells #[.int .i64 x.ver, .slice x.pa x.procs.length x.pc, .slice x.la x.links.length x.lc, .slice x.ea x.events.length x.ec] 26) rfl
  have hB1 := below_one w (.cells #[.int .i64 x.ver, .slice x.pa x.procs.length x.pc, .slice x.la x.links.length x.lc, .slice x.ea x.events.length x.ec] 26)
  have HT : Hid (Lb x l w ((w.alloc (.cells #[.int .i64 x.ver, .slice x.pa x.procs.length x.pc, .slice x.la x.links.length x.lc, .slice x.ea x.events.length x.ec] 26)).alloc (.cells #[.string l.name, .string l.frm, .string l.to_, .int .i64 l.delay, .int .i64 l.weight] 50))) := Lib.hid ⟨heap_alloc hX1 _, heap_new _ (by simp), hB1.alloc (by simp) _⟩
  have hrow := h.links.kept hB1 (Nat.le_refl _)
  have ha := h.links.addr.resolve_left (by omega)
  have r0 := hrow.cell i l hl 0 _ rfl
  have r1 := hrow.cell i l hl 1 _ rfl
  have r2 := hrow.cell i l hl 2 _ rfl
  have r3 := hrow.cell i l hl 3 _ rfl
  have r4 := hrow.cell i l hl 4 _ rfl
  simp only [Nat.add_zero] at r0 r1 r2 r3 r4
  have a2 := heap_cell hX1 (i := 2) rfl
  rw [show (#[.int .i64 x.ver, .slice x.pa x.procs.length x.pc, .slice x.la x.links.length x.lc, .slice x.ea x.events.length x.ec] : Array Value)[2] = .slice (some ⟨x.lb, x.lo, none⟩) x.links.length x.lc by rw [ha]; rfl] at a2
  clear h hl hX1 hB1 hrow ha hsm
  generalize lnE x.ver (fstP (nmsP x.m)) (fstP (nmsL x.m)) i l = r at *
  go_enter Try.func36, Try.ntmps36
  go_wp2_with fail
  clear r0 r1 r2 r3 r4 a2
  generalize (w.alloc (.cells #[.int .i64 x.ver, .slice x.pa x.procs.length x.pc, .slice x.la x.links.length x.lc, .slice x.ea x.events.length x.ec] 26)).alloc (.cells #[.string l.name, .string l.frm, .string l.to_, .int .i64 l.delay, .int .i64 l.weight] 50) = w2 at *
  refine (Ic.xcheck_any l.name hfl _).mono ?_
  rintro e w' ⟨rfl, rfl⟩
  by_cases hc : Ic.chkE l.name = 0
  · have hn2 := HNm.out
    rw [if_neg (by simpa using hc)] at hn2
    have a0 : w2.cell? ⟨w.heap.size, 0, none⟩ = some (.int .i64 x.ver) := heap_cell HT.out.a rfl
    have a1 : w2.cell? ⟨w.heap.size, 1, none⟩ = some (.slice x.pa x.procs.length x.pc) := heap_cell HT.out.a rfl
    have a2 : w2.cell? ⟨w.heap.size, 2, none⟩ = some (.slice x.la x.links.length x.lc) := heap_cell HT.out.a rfl
    have a3 : w2.cell? ⟨w.heap.size, 3, none⟩ = some (.slice x.ea x.events.length x.ec) := heap_cell HT.out.a rfl
    have b0 : w2.cell? ⟨w.heap.size + 1, 0, none⟩ = some (.string l.name) := heap_cell HT.out.b rfl
    have b1 : w2.cell? ⟨w.heap.size + 1, 1, none⟩ = some (.string l.frm) := heap_cell HT.out.b rfl
    have b2 : w2.cell? ⟨w.heap.size + 1, 2, none⟩ = some (.string l.to_) := heap_cell HT.out.b rfl
    have b3 : w2.cell? ⟨w.heap.size + 1, 3, none⟩ = some (.int .i64 l.delay) := heap_cell HT.out.b rfl
    have b4 : w2.cell? ⟨w.heap.size + 1, 4, none⟩ = some (.int .i64 l.weight) := heap_cell HT.out.b rfl
    rw [hc]
    clear hc
    go_wp2_with fail
    clear a0 a1 a2 a3 b0 b1 b2 b3 b4
    refine (rlink_any (HM.out.on HT.out.low) l.name).mono ?_
    rintro e w3 ⟨rfl, hb⟩
    replace HT := Lib.hid (HT.out.on hb)
    clear hb
    by_cases hj : (fstP (nmsL x.m) l.name).getD 0 < i
    · have hne : (plcI (nmsL x.m) l.name != (i : Int)) = true := by
        simp only [bne_iff_ne, ne_eq]
        exact fun e => absurd hj (HPl.out.1 e)
      have HR : Hid (r = 5) := Lib.hid (by rw [HA.out, hn2, if_pos hj]; rfl)
      clear hn2 HPl hj
      generalize plcI (nmsL x.m) l.name = q at *
      go_wp2
      go_ret
      exact ⟨by rw [HR.out]; rfl, HT.out.low⟩
    · have hpe : plcI (nmsL x.m) l.name = (i : Int) := HPl.out.2 hj
      rw [hpe]
      have hn0 : nmE (fstP (nmsL x.m)) l.name i = 0 := by rw [hn2, if_neg hj]
      have HA2 : Hid (r = if !(fstP (nmsP x.m) l.frm).isSome || !(fstP (nmsP x.m) l.to_).isSome then 4 else if !(decide (1 ≤ l.delay) && decide (l.delay ≤ 1099511627776)) then 42 else if wgtB x.ver l.weight then 0 else 41) := Lib.hid (by rw [HA.out, hn0]; rfl)
      clear hn2 HPl hj HA HNm hn0 hpe
      have a0 : w3.cell? ⟨w.heap.size, 0, none⟩ = some (.int .i64 x.ver) := heap_cell HT.out.a rfl
      have a1 : w3.cell? ⟨w.heap.size, 1, none⟩ = some (.slice x.pa x.procs.length x.pc) := heap_cell HT.out.a rfl
      have a2 : w3.cell? ⟨w.heap.size, 2, none⟩ = some (.slice x.la x.links.length x.lc) := heap_cell HT.out.a rfl
      have a3 : w3.cell? ⟨w.heap.size, 3, none⟩ = some (.slice x.ea x.events.length x.ec) := heap_cell HT.out.a rfl
      have b0 : w3.cell? ⟨w.heap.size + 1, 0, none⟩ = some (.string l.name) := heap_cell HT.out.b rfl
      have b1 : w3.cell? ⟨w.heap.size + 1, 1, none⟩ = some (.string l.frm) := heap_cell HT.out.b rfl
      have b2 : w3.cell? ⟨w.heap.size + 1, 2, none⟩ = some (.string l.to_) := heap_cell HT.out.b rfl
      have b3 : w3.cell? ⟨w.heap.size + 1, 3, none⟩ = some (.int .i64 l.delay) := heap_cell HT.out.b rfl
      have b4 : w3.cell? ⟨w.heap.size + 1, 4, none⟩ = some (.int .i64 l.weight) := heap_cell HT.out.b rfl
      go_wp2_with fail
      clear a0 a1 a2 a3 b0 b1 b2 b3 b4
      refine (rproc_any (HM.out.on HT.out.low) l.frm).mono ?_
      rintro e w4 ⟨rfl, hb⟩
      replace HT := Lib.hid (HT.out.on hb)
      clear hb
      have a0 : w4.cell? ⟨w.heap.size, 0, none⟩ = some (.int .i64 x.ver) := heap_cell HT.out.a rfl
      have a1 : w4.cell? ⟨w.heap.size, 1, none⟩ = some (.slice x.pa x.procs.length x.pc) := heap_cell HT.out.a rfl
      have a2 : w4.cell? ⟨w.heap.size, 2, none⟩ = some (.slice x.la x.links.length x.lc) := heap_cell HT.out.a rfl
      have a3 : w4.cell? ⟨w.heap.size, 3, none⟩ = some (.slice x.ea x.events.length x.ec) := heap_cell HT.out.a rfl
      have b0 : w4.cell? ⟨w.heap.size + 1, 0, none⟩ = some (.string l.name) := heap_cell HT.out.b rfl
      have b1 : w4.cell? ⟨w.heap.size + 1, 1, none⟩ = some (.string l.frm) := heap_cell HT.out.b rfl
      have b2 : w4.cell? ⟨w.heap.size + 1, 2, none⟩ = some (.string l.to_) := heap_cell HT.out.b rfl
      have b3 : w4.cell? ⟨w.heap.size + 1, 3, none⟩ = some (.int .i64 l.delay) := heap_cell HT.out.b rfl
      have b4 : w4.cell? ⟨w.heap.size + 1, 4, none⟩ = some (.int .i64 l.weight) := heap_cell HT.out.b rfl
      cases hf : fstP (nmsP x.m) l.frm with
      | none =>
        have HR : Hid (r = 4) := Lib.hid (by rw [HA2.out, hf]; rfl)
        rw [plc_no hf]
        clear hf
        go_wp2
        go_ret
        exact ⟨by rw [HR.out]; rfl, HT.out.low⟩
      | some jf =>
        rw [plc_yes hf]
        have hjf : ¬ ((jf : Int) < 0) := by omega
        have HA3 : Hid (r = if !(fstP (nmsP x.m) l.to_).isSome then 4 else if !(decide (1 ≤ l.delay) && decide (l.delay ≤ 1099511627776)) then 42 else if wgtB x.ver l.weight then 0 else 41) := Lib.hid (by rw [HA2.out, hf]; rfl)
        clear HA2 hf
        go_wp2_with fail
        clear a0 a1 a2 a3 b0 b1 b2 b3 b4
        refine (rproc_any (HM.out.on HT.out.low) l.to_).mono ?_
        rintro e w5 ⟨rfl, hb⟩
        replace HT := Lib.hid (HT.out.on hb)
        clear hb
        have a0 : w5.cell? ⟨w.heap.size, 0, none⟩ = some (.int .i64 x.ver) := heap_cell HT.out.a rfl
        have a1 : w5.cell? ⟨w.heap.size, 1, none⟩ = some (.slice x.pa x.procs.length x.pc) := heap_cell HT.out.a rfl
        have a2 : w5.cell? ⟨w.heap.size, 2, none⟩ = some (.slice x.la x.links.length x.lc) := heap_cell HT.out.a rfl
        have a3 : w5.cell? ⟨w.heap.size, 3, none⟩ = some (.slice x.ea x.events.length x.ec) := heap_cell HT.out.a rfl
        have b0 : w5.cell? ⟨w.heap.size + 1, 0, none⟩ = some (.string l.name) := heap_cell HT.out.b rfl
        have b1 : w5.cell? ⟨w.heap.size + 1, 1, none⟩ = some (.string l.frm) := heap_cell HT.out.b rfl
        have b2 : w5.cell? ⟨w.heap.size + 1, 2, none⟩ = some (.string l.to_) := heap_cell HT.out.b rfl
        have b3 : w5.cell? ⟨w.heap.size + 1, 3, none⟩ = some (.int .i64 l.delay) := heap_cell HT.out.b rfl
        have b4 : w5.cell? ⟨w.heap.size + 1, 4, none⟩ = some (.int .i64 l.weight) := heap_cell HT.out.b rfl
        cases hf : fstP (nmsP x.m) l.to_ with
        | none =>
          have HR : Hid (r = 4) := Lib.hid (by rw [HA3.out, hf]; rfl)
          rw [plc_no hf]
          clear hf
          go_wp2
          go_ret
          exact ⟨by rw [HR.out]; rfl, HT.out.low⟩
        | some jt =>
          rw [plc_yes hf]
          have hjt : ¬ ((jt : Int) < 0) := by omega
          have HA4 : Hid (r = if !(decide (1 ≤ l.delay) && decide (l.delay ≤ 1099511627776)) then 42 else if wgtB x.ver l.weight then 0 else 41) := Lib.hid (by rw [HA3.out, hf]; rfl)
          clear HA3 hf
          by_cases h1 : l.delay < 1
          · have HR : Hid (r = 42) := Lib.hid (by rw [HA4.out, if_pos (by simp; omega)])
            go_wp2
            go_ret
            exact ⟨by rw [HR.out]; rfl, HT.out.low⟩
          · by_cases h2 : 1099511627776 < l.delay
            · have HR : Hid (r = 42) := Lib.hid (by rw [HA4.out, if_pos (by simp; omega)])
              go_wp2
              go_ret
              exact ⟨by rw [HR.out]; rfl, HT.out.low⟩
            · have HA5 : Hid (r = if wgtB x.ver l.weight then 0 else 41) := Lib.hid (by rw [HA4.out, if_neg (by simp; omega)])
              clear HA4
              go_wp2_with fail
              clear a0 a1 a2 a3 b0 b1 b2 b3 b4
              refine (rweight_any x l.weight _).mono ?_
              rintro e w6 ⟨rfl, hb⟩
              replace HT := Lib.hid (HT.out.on hb)
              clear hb
              generalize wgtB x.ver l.weight = gb at *
              cases gb with
              | false =>
                have HR : Hid (r = 41) := Lib.hid (by rw [HA5.out]; rfl)
                go_wp2
                go_ret
                exact ⟨by rw [HR.out]; rfl, HT.out.low⟩
              | true =>
                have HR : Hid (r = 0) := Lib.hid (by rw [HA5.out]; rfl)
                go_wp2
                go_ret
                exact ⟨by rw [HR.out]; rfl, HT.out.low⟩
  · have HR : Hid (r = 40) := Lib.hid (by rw [HA.out, HNm.out, if_pos hc, if_pos hc]; exact (chk_two l.name).resolve_left hc)
    have h40 : Ic.chkE l.name = 40 := (chk_two l.name).resolve_left hc
    rw [h40]
    go_wp2
    go_ret
    exact ⟨by rw [HR.out]; rfl, HT.out.low⟩
theorem md_or {m : ModelM} (g1 : 1 ≤ m.ver ∧ m.ver ≤ 3) (g2 : m.procs.length ≤ 4096 ∧ m.links.length ≤ 16384 ∧ m.events.length ≤ 16384) : mdE m = orF (erP m) (erL m) (erE m) := by
  unfold mdE
  rw [if_neg (by simp; omega), if_neg (by simp; omega)]
theorem md_proc {m : ModelM} (g1 : 1 ≤ m.ver ∧ m.ver ≤ 3) (g2 : m.procs.length ≤ 4096 ∧ m.links.length ≤ 16384 ∧ m.events.length ≤ 16384) {k : Nat} {q : ProcM} (h0 : ∀ j y, j < k → m.procs[j]? = some y → prE m.ver m.links (fstP (nmsP m)) j y = 0) (hk : m.procs[k]? = some q) (hne : prE m.ver m.links (fstP (nmsP m)) k q ≠ 0) : mdE m = (prE m.ver m.links (fstP (nmsP m)) k q, ((k + 1 : Nat) : Int)) := by
  have e1 : erP m = (prE m.ver m.links (fstP (nmsP m)) k q, ((k + 1 : Nat) : Int)) := by
    unfold erP
    rw [fErr_at _ _ 0 k q (fun j y hj hy => by rw [Nat.zero_add]; exact h0 j y hj hy) hk (by rw [Nat.zero_add]; exact hne)]
    unfold fltP
    simp only [Nat.zero_add]
    rw [if_neg hne]
  rw [md_or g1 g2]
  unfold orF
  rw [e1, if_pos (fun h => hne h.1)]
theorem md_link {m : ModelM} (g1 : 1 ≤ m.ver ∧ m.ver ≤ 3) (g2 : m.procs.length ≤ 4096 ∧ m.links.length ≤ 16384 ∧ m.events.length ≤ 16384) (hp : ∀ (j : Nat) y, m.procs[j]? = some y → prE m.ver m.links (fstP (nmsP m)) j y = 0) {k : Nat} {q : LinkM} (h0 : ∀ j y, j < k → m.links[j]? = some y → lnE m.ver (fstP (nmsP m)) (fstP (nmsL m)) j y = 0) (hk : m.links[k]? = some q) (hne : lnE m.ver (fstP (nmsP m)) (fstP (nmsL m)) k q ≠ 0) : mdE m = (lnE m.ver (fstP (nmsP m)) (fstP (nmsL m)) k q, ((m.procs.length + (k + 1) : Nat) : Int)) := by
  have e1 : erP m = (0, 0) := by
    unfold erP fltP
    rw [(fErr_zero _ _ _).2 fun j y hy => by rw [Nat.zero_add]; exact hp j y hy]
    rfl
  have e2 : erL m = (lnE m.ver (fstP (nmsP m)) (fstP (nmsL m)) k q, ((m.procs.length + (k + 1) : Nat) : Int)) := by
    unfold erL
    rw [fErr_at _ _ 0 k q (fun j y hj hy => by rw [Nat.zero_add]; exact h0 j y hj hy) hk (by rw [Nat.zero_add]; exact hne)]
    unfold fltP
    simp only [Nat.zero_add]
    rw [if_neg hne]
  rw [md_or g1 g2]
  unfold orF
  rw [e1, e2, if_neg (fun h => h ⟨rfl, rfl⟩), if_pos (fun h => hne h.1)]
theorem md_event {m : ModelM} (g1 : 1 ≤ m.ver ∧ m.ver ≤ 3) (g2 : m.procs.length ≤ 4096 ∧ m.links.length ≤ 16384 ∧ m.events.length ≤ 16384) (hp : ∀ (j : Nat) y, m.procs[j]? = some y → prE m.ver m.links (fstP (nmsP m)) j y = 0) (hl : ∀ (j : Nat) y, m.links[j]? = some y → lnE m.ver (fstP (nmsP m)) (fstP (nmsL m)) j y = 0) {k : Nat} {q : EventM} (h0 : ∀ j y, j < k → m.events[j]? = some y → evE (fstP (nmsP m)) y = 0) (hk : m.events[k]? = some q) (hne : evE (fstP (nmsP m)) q ≠ 0) : mdE m = (evE (fstP (nmsP m)) q, ((m.procs.length + m.links.length + (k + 1) : Nat) : Int)) := by
  have e1 : erP m = (0, 0) := by
    unfold erP fltP
    rw [(fErr_zero _ _ _).2 fun j y hy => by rw [Nat.zero_add]; exact hp j y hy]
    rfl
  have e2 : erL m = (0, 0) := by
    unfold erL fltP
    rw [(fErr_zero _ _ _).2 fun j y hy => by rw [Nat.zero_add]; exact hl j y hy]
    rfl
  have e3 : erE m = (evE (fstP (nmsP m)) q, ((m.procs.length + m.links.length + (k + 1) : Nat) : Int)) := by
    unfold erE
    rw [fErr_at (fun _ e => evE (fstP (nmsP m)) e) m.events 0 k q (fun j y hj hy => h0 j y hj hy) hk hne]
    unfold fltP
    simp only [Nat.zero_add]
    rw [if_neg hne]
  rw [md_or g1 g2]
  unfold orF
  rw [e1, e2, if_neg (fun h => h ⟨rfl, rfl⟩), if_neg (fun h => h ⟨rfl, rfl⟩), e3]
end Go.Proofs.Ytenjhbibhkjdaaa.Md
