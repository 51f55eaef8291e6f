/- Contract: the document's check of a model. -/
import Derived.Test.YtenjhbibhkjdaaaMeI
set_option linter.unusedVariables false
set_option linter.unusedSectionVars false
set_option linter.unusedSimpArgs false
namespace Go.Proofs.Ytenjhbibhkjdaaa.Md
open Go.RowKit Go.Shelf

structure Kb (x : ModelV) (w W : World) : Prop where
  a : W.heap[w.heap.size]? = some (.cells #[.int .i64 x.ver, .slice x.pa x.procs.length x.pc, .slice x.la x.links.length x.lc, .slice x.ea x.events.length x.ec] 26 (0, 0))
  low : Below w.heap.size w W
theorem Kb.on {x : ModelV} {w W W' : World} (h : Kb x w W) (hb : Below W.heap.size W W') : Kb x w W' :=
  ⟨heap_below h.a hb (heap_lt h.a), h.low.trans (hb.mono h.low.size)⟩
structure Eb (x : ModelV) (v : EventM) (w w0 W : World) : Prop where
  t : Kb x w W
  v : W.heap[w0.heap.size]? = some (.cells #[.string v.to_, .int .i64 v.at_, .int .i64 v.val] 52 (0, 0))
theorem Eb.on {x : ModelV} {v : EventM} {w w0 W W' : World} (h : Eb x v w w0 W) (hb : Below W.heap.size W W') : Eb x v w w0 W' := ⟨h.t.on hb, heap_below h.v hb (heap_lt h.v)⟩
theorem succ_zero {α : Type} {L : List α} {k : Nat} {p : α} {F : Nat → α → Int} (hp : L[k]? = some p) (HZ : ∀ j y, j < k → L[j]? = some y → F j y = 0) (h0 : F k p = 0) : ∀ j y, j < k + 1 → L[j]? = some y → F j y = 0 := fun j y hj hy => by
  by_cases e : j = k
  · subst e
    rw [hp] at hy
    cases hy
    exact h0
  · exact HZ j y (by omega) hy
theorem all_zero {α : Type} {L : List α} {F : Nat → α → Int} (HZ : ∀ j y, j < L.length → L[j]? = some y → F j y = 0) : ∀ (j : Nat) y, L[j]? = some y → F j y = 0 := fun j y hy => HZ j y (List.getElem?_eq_some_iff.1 hy).1 hy
set_option maxRecDepth 100000 in
set_option maxHeartbeats 4000000 in
theorem rcheck_any {w : World} {x : ModelV} (h : ModelAt w.heap.size w x) : Calls Try.prog 14 #[.agg #[.int .i64 x.ver, .slice x.pa x.procs.length x.pc, .slice x.la x.links.length x.lc, .slice x.ea x.events.length x.ec]] w fun e w' => e = .returned (.tuple #[.int .i64 (mdE x.m).1, .int .i64 (mdE x.m).2]) ∧ Below w.heap.size w w' := by
  have hsP := h.procs.small
  have hsL := h.links.small
  have hsE := h.events.small
  unfold maxLen at hsP hsL hsE
  have HM := Lib.hid h
  have HT : Hid (Kb x w (w.alloc (.cells #[.int .i64 x.ver, .slice x.pa x.procs.length x.pc, .slice x.la x.links.length x.lc, .slice x.ea x.events.length x.ec] 26))) := Lib.hid ⟨heap_new (w := w) _ rfl, below_one w _⟩
  have HA : Hid (mdE x.m = if !(decide (1 ≤ x.ver) && decide (x.ver ≤ 3)) then (43, 0) else if decide (4096 < x.procs.length) || (decide (16384 < x.links.length) || decide (16384 < x.events.length)) then (3, 0) else orF (erP x.m) (erL x.m) (erE x.m)) := Lib.hid (by unfold mdE ModelV.m; simp only [List.length_map])
  have HQ : Hid ((1 ≤ x.m.ver ∧ x.m.ver ≤ 3) → (x.m.procs.length ≤ 4096 ∧ x.m.links.length ≤ 16384 ∧ x.m.events.length ≤ 16384) → ∀ k q, (∀ j y, j < k → x.m.procs[j]? = some y → prE x.ver x.links (fstP (nmsP x.m)) j y = 0) → x.m.procs[k]? = some q → prE x.ver x.links (fstP (nmsP x.m)) k q ≠ 0 → mdE x.m = (prE x.ver x.links (fstP (nmsP x.m)) k q, ((k + 1 : Nat) : Int))) := Lib.hid (fun g1 g2 k q h0 hk hne => md_proc g1 g2 h0 hk hne)
  have HL : Hid ((1 ≤ x.m.ver ∧ x.m.ver ≤ 3) → (x.m.procs.length ≤ 4096 ∧ x.m.links.length ≤ 16384 ∧ x.m.events.length ≤ 16384) → (∀ (j : Nat) y, x.m.procs[j]? = some y → prE x.ver x.links (fstP (nmsP x.m)) j y = 0) → ∀ k q, (∀ j y, j < k → x.links[j]? = some y → lnE x.ver (fstP (nmsP x.m)) (fstP (nmsL x.m)) j y = 0) → x.links[k]? = some q → lnE x.ver (fstP (nmsP x.m)) (fstP (nmsL x.m)) k q ≠ 0 → mdE x.m = (lnE x.ver (fstP (nmsP x.m)) (fstP (nmsL x.m)) k q, ((x.procs.length + (k + 1) : Nat) : Int))) := Lib.hid (fun g1 g2 hp k q h0 hk hne => by
    have := md_link g1 g2 hp h0 hk hne
    rw [show x.m.procs.length = x.procs.length by unfold ModelV.m; simp] at this
    exact this)
  have HEv : Hid ((1 ≤ x.m.ver ∧ x.m.ver ≤ 3) → (x.m.procs.length ≤ 4096 ∧ x.m.links.length ≤ 16384 ∧ x.m.events.length ≤ 16384) → (∀ (j : Nat) y, x.m.procs[j]? = some y → prE x.ver x.links (fstP (nmsP x.m)) j y = 0) → (∀ (j : Nat) y, x.links[j]? = some y → lnE x.ver (fstP (nmsP x.m)) (fstP (nmsL x.m)) j y = 0) → ∀ k q, (∀ j y, j < k → x.events[j]? = some y → evE (fstP (nmsP x.m)) y = 0) → x.events[k]? = some q → evE (fstP (nmsP x.m)) q ≠ 0 → mdE x.m = (evE (fstP (nmsP x.m)) q, ((x.procs.length + x.links.length + (k + 1) : Nat) : Int))) := Lib.hid (fun g1 g2 hp hl k q h0 hk hne => by
    have := md_event g1 g2 hp hl h0 hk hne
    rw [show x.m.procs.length = x.procs.length by unfold ModelV.m; simp] at this
    exact this)
  have HR0 : Hid ((1 ≤ x.m.ver ∧ x.m.ver ≤ 3) → (x.m.procs.length ≤ 4096 ∧ x.m.links.length ≤ 16384 ∧ x.m.events.length ≤ 16384) → (∀ (j : Nat) y, x.m.procs[j]? = some y → prE x.ver x.links (fstP (nmsP x.m)) j y = 0) → (∀ (j : Nat) y, x.links[j]? = some y → lnE x.ver (fstP (nmsP x.m)) (fstP (nmsL x.m)) j y = 0) → (∀ (j : Nat) y, x.events[j]? = some y → evE (fstP (nmsP x.m)) y = 0) → mdE x.m = (0, 0)) := Lib.hid (fun g1 g2 hp hl he => right_zero ⟨g1, g2, hp, hl, he⟩)
  clear h
  generalize mdE x.m = R at *
  go_enter Try.func14, Try.ntmps14
  go_upto_region 1 with fail
  generalize w.alloc (.cells #[.int .i64 x.ver, .slice x.pa x.procs.length x.pc, .slice x.la x.links.length x.lc, .slice x.ea x.events.length x.ec] 26) = w0 at *
  have a0 : w0.cell? ⟨w.heap.size, 0, none⟩ = some (.int .i64 x.ver) := heap_cell HT.out.a rfl
  have a1 : w0.cell? ⟨w.heap.size, 1, none⟩ = some (.slice x.pa x.procs.length x.pc) := heap_cell HT.out.a rfl
  have a2 : w0.cell? ⟨w.heap.size, 2, none⟩ = some (.slice x.la x.links.length x.lc) := heap_cell HT.out.a rfl
  have a3 : w0.cell? ⟨w.heap.size, 3, none⟩ = some (.slice x.ea x.events.length x.ec) := heap_cell HT.out.a rfl
  by_cases g1 : x.ver < 1
  · have HR : Hid (R = (43, 0)) := Lib.hid (by rw [HA.out, if_pos (by simp; omega)])
    go_wp2
    go_ret2
    exact ⟨by rw [HR.out]; rfl, HT.out.low⟩
  · by_cases g2 : 3 < x.ver
    · have HR : Hid (R = (43, 0)) := Lib.hid (by rw [HA.out, if_pos (by simp; omega)])
      go_wp2
      go_ret2
      exact ⟨by rw [HR.out]; rfl, HT.out.low⟩
    · have HV : Hid (1 ≤ x.m.ver ∧ x.m.ver ≤ 3) := Lib.hid (by show 1 ≤ x.ver ∧ x.ver ≤ 3; omega)
      have HA2 : Hid (R = if decide (4096 < x.procs.length) || (decide (16384 < x.links.length) || decide (16384 < x.events.length)) then (3, 0) else orF (erP x.m) (erL x.m) (erE x.m)) := Lib.hid (by rw [HA.out, if_neg (by simp; omega)])
      clear HA
      by_cases g3 : 4096 < x.procs.length
      · have c3 : decide ((4096 : Int) < (x.procs.length : Int)) = true := by simp; omega
        have HR : Hid (R = (3, 0)) := Lib.hid (by rw [HA2.out, if_pos (by simp; omega)])
        clear g3
        go_wp2
        go_ret2
        exact ⟨by rw [HR.out]; rfl, HT.out.low⟩
      · have c3 : decide ((4096 : Int) < (x.procs.length : Int)) = false := by simp; omega
        by_cases g4 : 16384 < x.links.length
        · have c4 : decide ((16384 : Int) < (x.links.length : Int)) = true := by simp; omega
          have HR : Hid (R = (3, 0)) := Lib.hid (by rw [HA2.out, if_pos (by simp; omega)])
          clear g3 g4
          go_wp2
          go_ret2
          exact ⟨by rw [HR.out]; rfl, HT.out.low⟩
        · have c4 : decide ((16384 : Int) < (x.links.length : Int)) = false := by simp; omega
          by_cases g5 : 16384 < x.events.length
          · have c5 : decide ((16384 : Int) < (x.events.length : Int)) = true := by simp; omega
            have HR : Hid (R = (3, 0)) := Lib.hid (by rw [HA2.out, if_pos (by simp; omega)])
            clear g3 g4 g5
            go_wp2
            go_ret2
            exact ⟨by rw [HR.out]; rfl, HT.out.low⟩
          · have c5 : decide ((16384 : Int) < (x.events.length : Int)) = false := by simp; omega
            have HN : Hid (x.m.procs.length ≤ 4096 ∧ x.m.links.length ≤ 16384 ∧ x.m.events.length ≤ 16384) := Lib.hid (by unfold ModelV.m; dsimp only; rw [List.length_map]; omega)
            have HNl : Hid (x.procs.length ≤ 4096 ∧ x.links.length ≤ 16384 ∧ x.events.length ≤ 16384) := Lib.hid (by omega)
            clear g3 g4 g5 HA2
            go_wp2
            clear a0 a1 a2 a3 c3 c4 c5
            go_loopw [4, 5] (fun n i wr => ∃ k : Nat, n = .int .i64 (k : Int) ∧ i = .int .i64 (k : Int) ∧ k ≤ x.procs.length ∧ Hid (Kb x w wr) ∧ Hid (∀ j y, j < k → x.m.procs[j]? = some y → prE x.ver x.links (fstP (nmsP x.m)) j y = 0)) (fun _ i _ => x.procs.length - (intOf i).toNat)
            case atStart => exact ⟨0, rfl, rfl, Nat.zero_le _, HT, Lib.hid (fun j v hj => by omega)⟩
            case round =>
              clear HT
              obtain ⟨k, rfl, rfl, hk, HT, HZ⟩ := hrel
              have hk0 : (0 : Int) ≤ (k : Int) := Int.natCast_nonneg k
              have hkb : (k : Int) ≤ 4096 := by have := HNl.out.1; omega
              have a0 : wr.cell? ⟨w.heap.size, 0, none⟩ = some (.int .i64 x.ver) := heap_cell HT.out.a rfl
              have a1 : wr.cell? ⟨w.heap.size, 1, none⟩ = some (.slice x.pa x.procs.length x.pc) := heap_cell HT.out.a rfl
              have a2 : wr.cell? ⟨w.heap.size, 2, none⟩ = some (.slice x.la x.links.length x.lc) := heap_cell HT.out.a rfl
              have a3 : wr.cell? ⟨w.heap.size, 3, none⟩ = some (.slice x.ea x.events.length x.ec) := heap_cell HT.out.a rfl
              by_cases hlt : k < x.procs.length
              · have hki : (k : Int) < (x.procs.length : Int) := by omega
                obtain ⟨p, hp⟩ : ∃ p, x.procs[k]? = some p := ⟨_, List.getElem?_eq_getElem hlt⟩
                have hpm : x.m.procs[k]? = some p.p := by unfold ModelV.m; rw [List.getElem?_map, hp]; rfl
                go_wp2_with fail
                clear a0 a1 a2 a3
                refine (rprocE_any (HM.out.on HT.out.low) hp).mono ?_
                rintro e w3 ⟨rfl, hb⟩
                replace HT := Lib.hid (HT.out.on hb)
                clear hb
                have HE := Lib.hid (HQ.out HV.out HN.out k p.p HZ.out hpm)
                have HZ2 := Lib.hid (succ_zero hpm HZ.out)
                clear hp hpm HZ
                obtain ⟨se, hse⟩ : ∃ se, prE x.ver x.links (fstP (nmsP x.m)) k p.p = se := ⟨_, rfl⟩
                rw [hse] at HE HZ2 ⊢
                by_cases h0 : se = 0
                · have HZ3 := Lib.hid (HZ2.out h0)
                  subst h0
                  clear hse
                  go_wp2
                  refine ⟨⟨k + 1, by simp, by simp, by omega, HT, HZ3⟩, ?_⟩
                  unfold intOf
                  simp
                  omega
                · have h0b : (se != 0) = true := by simpa using h0
                  have HR := Lib.hid (HE.out h0)
                  clear hse
                  go_wp2
                  go_ret2
                  exact ⟨by rw [HR.out]; simp, HT.out.low⟩
              · obtain rfl : k = x.procs.length := by omega
                have HZp : Hid (∀ (j : Nat) y, x.m.procs[j]? = some y → prE x.ver x.links (fstP (nmsP x.m)) j y = 0) := Lib.hid (fun j y hy => HZ.out j y (by
                  have h1 := (List.getElem?_eq_some_iff.1 hy).1
                  unfold ModelV.m at h1
                  rwa [List.length_map] at h1) hy)
                clear HZ
                go_wp2
                clear a0 a1 a2 a3
                go_loopw [4, 7] (fun n i wr => ∃ k : Nat, n = .int .i64 ((x.procs.length : Int) + (k : Int)) ∧ i = .int .i64 (k : Int) ∧ k ≤ x.links.length ∧ Hid (Kb x w wr) ∧ Hid (∀ j y, j < k → x.links[j]? = some y → lnE x.ver (fstP (nmsP x.m)) (fstP (nmsL x.m)) j y = 0)) (fun _ i _ => x.links.length - (intOf i).toNat)
                case atStart => exact ⟨0, by simp, rfl, Nat.zero_le _, HT, Lib.hid (fun j v hj => by omega)⟩
                case round =>
                  clear HT
                  obtain ⟨k, rfl, rfl, hk, HT, HZ⟩ := hrel
                  have hk0 : (0 : Int) ≤ (k : Int) := Int.natCast_nonneg k
                  have hkb2 : (k : Int) ≤ 16384 := by have := HNl.out.2.1; omega
                  have a0 : wr.cell? ⟨w.heap.size, 0, none⟩ = some (.int .i64 x.ver) := heap_cell HT.out.a rfl
                  have a1 : wr.cell? ⟨w.heap.size, 1, none⟩ = some (.slice x.pa x.procs.length x.pc) := heap_cell HT.out.a rfl
                  have a2 : wr.cell? ⟨w.heap.size, 2, none⟩ = some (.slice x.la x.links.length x.lc) := heap_cell HT.out.a rfl
                  have a3 : wr.cell? ⟨w.heap.size, 3, none⟩ = some (.slice x.ea x.events.length x.ec) := heap_cell HT.out.a rfl
                  by_cases hlt : k < x.links.length
                  · have hki : (k : Int) < (x.links.length : Int) := by omega
                    obtain ⟨l, hl⟩ : ∃ l, x.links[k]? = some l := ⟨_, List.getElem?_eq_getElem hlt⟩
                    go_wp2_with fail
                    clear a0 a1 a2 a3
                    refine (rlinkE_any (HM.out.on HT.out.low) hl).mono ?_
                    rintro e w3 ⟨rfl, hb⟩
                    replace HT := Lib.hid (HT.out.on hb)
                    clear hb
                    have HE := Lib.hid (HL.out HV.out HN.out HZp.out k l HZ.out hl)
                    have HZ2 := Lib.hid (succ_zero hl HZ.out)
                    clear hl HZ
                    obtain ⟨se, hse⟩ : ∃ se, lnE x.ver (fstP (nmsP x.m)) (fstP (nmsL x.m)) k l = se := ⟨_, rfl⟩
                    rw [hse] at HE HZ2 ⊢
                    by_cases h0 : se = 0
                    · have HZ3 := Lib.hid (HZ2.out h0)
                      subst h0
                      clear hse
                      go_wp2
                      refine ⟨⟨k + 1, by simp; omega, by simp, by omega, HT, HZ3⟩, ?_⟩
                      unfold intOf
                      simp
                      omega
                    · have h0b : (se != 0) = true := by simpa using h0
                      have HR := Lib.hid (HE.out h0)
                      clear hse
                      go_wp2
                      go_ret2
                      exact ⟨by rw [HR.out]; simp; omega, HT.out.low⟩
                  · obtain rfl : k = x.links.length := by omega
                    have HZl := Lib.hid (all_zero HZ.out)
                    clear HZ
                    go_wp2
                    clear a0 a1 a2 a3
                    go_loopw [4, 9] (fun n i wr => ∃ k : Nat, n = .int .i64 ((x.procs.length : Int) + (x.links.length : Int) + (k : Int)) ∧ i = .int .i64 (k : Int) ∧ k ≤ x.events.length ∧ Hid (Kb x w wr) ∧ Hid (∀ j y, j < k → x.events[j]? = some y → evE (fstP (nmsP x.m)) y = 0)) (fun _ i _ => x.events.length - (intOf i).toNat)
                    case atStart => exact ⟨0, by simp, rfl, Nat.zero_le _, HT, Lib.hid (fun j v hj => by omega)⟩
                    case round =>
                      clear HT
                      obtain ⟨k, rfl, rfl, hk, HT, HZ⟩ := hrel
                      have hk0 : (0 : Int) ≤ (k : Int) := Int.natCast_nonneg k
                      have hkb3 : (k : Int) ≤ 16384 := by have := HNl.out.2.2; omega
                      have a0 : wr.cell? ⟨w.heap.size, 0, none⟩ = some (.int .i64 x.ver) := heap_cell HT.out.a rfl
                      have a1 : wr.cell? ⟨w.heap.size, 1, none⟩ = some (.slice x.pa x.procs.length x.pc) := heap_cell HT.out.a rfl
                      have a2 : wr.cell? ⟨w.heap.size, 2, none⟩ = some (.slice x.la x.links.length x.lc) := heap_cell HT.out.a rfl
                      have a3 : wr.cell? ⟨w.heap.size, 3, none⟩ = some (.slice x.ea x.events.length x.ec) := heap_cell HT.out.a rfl
                      by_cases hlt : k < x.events.length
                      · have hki : (k : Int) < (x.events.length : Int) := by omega
                        obtain ⟨v, hv⟩ : ∃ v, x.events[k]? = some v := ⟨_, List.getElem?_eq_getElem hlt⟩
                        have hI := (HM.out.events.kept HT.out.low (Nat.le_refl _))
                        have ha := hI.addr.resolve_left (by omega)
                        have r0 : wr.cell? ⟨x.eb, x.eo + k * 3, none⟩ = some (.string v.to_) := hI.cell k v hv 0 _ rfl
                        have r1 : wr.cell? ⟨x.eb, x.eo + k * 3 + 1, none⟩ = some (.int .i64 v.at_) := hI.cell k v hv 1 _ rfl
                        have r2 : wr.cell? ⟨x.eb, x.eo + k * 3 + 2, none⟩ = some (.int .i64 v.val) := hI.cell k v hv 2 _ rfl
                        rw [ha] at a3
                        have HV2 : Hid (Eb x v w wr (wr.alloc (.cells #[.string v.to_, .int .i64 v.at_, .int .i64 v.val] 52))) := Lib.hid ⟨HT.out.on (below_one _ _), heap_new _ rfl⟩
                        have HE := Lib.hid (HEv.out HV.out HN.out HZp.out HZl.out k v HZ.out hv)
                        have HZ2 := Lib.hid (succ_zero (F := fun _ y => evE (fstP (nmsP x.m)) y) hv HZ.out)
                        have HA : Hid (evE (fstP (nmsP x.m)) v = if !(fstP (nmsP x.m) v.to_).isSome then 4 else if !(decide (0 ≤ v.at_) && decide (v.at_ ≤ 1099511627776)) || !numB v.val then 23 else 0) := Lib.hid rfl
                        have hlA := heap_lt HT.out.a
                        have hnA : ¬ w.heap.size = wr.heap.size := by omega
                        clear hI ha hv HZ
                        go_upto_region 25 with fail
                        clear a0 a1 a2 a3 r0 r1 r2 hlA hnA
                        generalize wr.alloc (.cells #[.string v.to_, .int .i64 v.at_, .int .i64 v.val] 52) = w5 at *
                        have a0 : w5.cell? ⟨w.heap.size, 0, none⟩ = some (.int .i64 x.ver) := heap_cell HV2.out.t.a rfl
                        have a1 : w5.cell? ⟨w.heap.size, 1, none⟩ = some (.slice x.pa x.procs.length x.pc) := heap_cell HV2.out.t.a rfl
                        have a2 : w5.cell? ⟨w.heap.size, 2, none⟩ = some (.slice x.la x.links.length x.lc) := heap_cell HV2.out.t.a rfl
                        have a3 : w5.cell? ⟨w.heap.size, 3, none⟩ = some (.slice x.ea x.events.length x.ec) := heap_cell HV2.out.t.a rfl
                        have v0 : w5.cell? ⟨wr.heap.size, 0, none⟩ = some (.string v.to_) := heap_cell HV2.out.v rfl
                        have v1 : w5.cell? ⟨wr.heap.size, 1, none⟩ = some (.int .i64 v.at_) := heap_cell HV2.out.v rfl
                        have v2 : w5.cell? ⟨wr.heap.size, 2, none⟩ = some (.int .i64 v.val) := heap_cell HV2.out.v rfl
                        go_wp2_with fail
                        clear a0 a1 a2 a3 v0 v1 v2
                        refine (rproc_any (HM.out.on HV2.out.t.low) v.to_).mono ?_
                        rintro e w6 ⟨rfl, hb⟩
                        replace HV2 := Lib.hid (HV2.out.on hb)
                        clear hb
                        obtain ⟨se, hse⟩ : ∃ se, evE (fstP (nmsP x.m)) v = se := ⟨_, rfl⟩
                        rw [hse] at HE HA
                        rw [hse] at HZ2
                        clear hse
                        have v0 : w6.cell? ⟨wr.heap.size, 0, none⟩ = some (.string v.to_) := heap_cell HV2.out.v rfl
                        have v1 : w6.cell? ⟨wr.heap.size, 1, none⟩ = some (.int .i64 v.at_) := heap_cell HV2.out.v rfl
                        have v2 : w6.cell? ⟨wr.heap.size, 2, none⟩ = some (.int .i64 v.val) := heap_cell HV2.out.v rfl
                        cases hf : fstP (nmsP x.m) v.to_ with
                        | none =>
                          have h4 : se = 4 := by rw [HA.out, hf]; rfl
                          have HR := Lib.hid (HE.out (by rw [h4]; decide))
                          rw [plc_no hf]
                          subst h4
                          clear hf
                          go_wp2
                          go_ret2
                          exact ⟨by rw [HR.out]; simp; omega, HV2.out.t.low⟩
                        | some jt =>
                          rw [plc_yes hf]
                          have hjt : ¬ ((jt : Int) < 0) := by omega
                          have HA2 : Hid (se = if !(decide (0 ≤ v.at_) && decide (v.at_ ≤ 1099511627776)) || !numB v.val then 23 else 0) := Lib.hid (by rw [HA.out, hf]; rfl)
                          clear HA hf
                          by_cases q1 : v.at_ < 0
                          · have h4 : se = 23 := by rw [HA2.out, if_pos (by simp; omega)]
                            have HR := Lib.hid (HE.out (by rw [h4]; decide))
                            subst h4
                            go_wp2
                            go_ret2
                            exact ⟨by rw [HR.out]; simp; omega, HV2.out.t.low⟩
                          · by_cases q2 : 1099511627776 < v.at_
                            · have h4 : se = 23 := by rw [HA2.out, if_pos (by simp; omega)]
                              have HR := Lib.hid (HE.out (by rw [h4]; decide))
                              subst h4
                              go_wp2
                              go_ret2
                              exact ⟨by rw [HR.out]; simp; omega, HV2.out.t.low⟩
                            · have HA3 : Hid (se = if numB v.val then 0 else 23) := Lib.hid (by
                                rw [HA2.out]
                                cases numB v.val with
                                | true => rw [if_neg (by simp; omega)]; rfl
                                | false => rw [if_pos (by simp)]; rfl)
                              clear HA2
                              go_wp2_with fail
                              refine (rnumber_any v.val _).mono ?_
                              rintro e w' ⟨rfl, rfl⟩
                              clear v0 v1 v2
                              generalize numB v.val = nb at *
                              cases nb with
                              | true =>
                                have h4 : se = 0 := by rw [HA3.out]; rfl
                                have HZ3 := Lib.hid (HZ2.out h4)
                                have HTt := Lib.hid HV2.out.t
                                clear HZ2 HE HV2 HA3 h4
                                go_wp2
                                refine ⟨⟨k + 1, by simp; omega, by simp, by omega, HTt, HZ3⟩, ?_⟩
                                unfold intOf
                                simp
                                omega
                              | false =>
                                have h4 : se = 23 := by rw [HA3.out]; rfl
                                have HR := Lib.hid (HE.out (by rw [h4]; decide))
                                subst h4
                                go_wp2
                                go_ret2
                                exact ⟨by rw [HR.out]; simp; omega, HV2.out.t.low⟩
                      · obtain rfl : k = x.events.length := by omega
                        have HR := Lib.hid (HR0.out HV.out HN.out HZp.out HZl.out (all_zero (F := fun _ y => evE (fstP (nmsP x.m)) y) HZ.out))
                        go_wp2
                        go_ret2
                        exact ⟨by rw [HR.out]; rfl, HT.out.low⟩
end Go.Proofs.Ytenjhbibhkjdaaa.Md
