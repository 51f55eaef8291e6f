/- What is wrong with variables, steps, processes, links, events: plain, and as contracts. -/
import Derived.Test.YtgnlehenbdcgmaaMdD
import Derived.Deep.RegionHeld3
set_option linter.unusedVariables false
set_option linter.unusedSectionVars false
set_option linter.unusedSimpArgs false
namespace Go.Proofs.Ytgnlehenbdcgmaa.Md
open Go.RowKit

/-- What is wrong with a variable. -/
def varE (f : ByteArray → Option Nat) (k : Nat) (v : VarM) : Int := if v.name.toList == [118, 97, 108, 117, 101] then 40 else if nmE f v.name k ≠ 0 then nmE f v.name k else if numB v.init then 0 else 23
theorem variable_any (x : ModelV) (mp ml : Nat) (nm : ByteArray) {w : World} {mv : Nat} {f : ByteArray → Option Nat} (h : PlM w mv f) (k : Nat) {v : VarM} (hy : v.name.size ≤ maxLen) :
    Calls Try.prog 64 #[innerVal x mp ml nm mv, .int .i64 (k : Int), .agg #[.string v.name, .int .i64 v.init]] w fun e w' => e = .returned (.int .i64 (varE f k v)) ∧ Below w.heap.size w w' := by
  have HA : Hid (varE f k v = if v.name.toList == [118, 97, 108, 117, 101] then 40 else if nmE f v.name k ≠ 0 then nmE f v.name k else if numB v.init then 0 else 23) := Lib.hid rfl
  obtain ⟨y, hye⟩ : ∃ s, v.name = s := ⟨_, rfl⟩
  obtain ⟨n, hne⟩ : ∃ s, v.init = s := ⟨_, rfl⟩
  generalize varE f k v = r at *
  rw [hye] at hy
  rw [hye, hne] at HA
  rw [hye, hne]
  clear hye hne
  have hb1 := (below_one w (.cells #[.int .i64 x.ver, .slice x.pa x.procs.length x.pc, .slice x.la x.links.length x.lc, .slice x.ea x.events.length x.ec, .map (some mp), .map (some ml), .string nm, .map (some mv)] 105))
  have HB := Lib.hid (hb1.alloc hb1.size (.cells #[.string y, .int .i64 n] 80))
  have HC := Lib.hid (checkName_any (h.below HB.out) hy k)
  have HN := Lib.hid (fun W => isNum_any n W)
  clear h hb1
  unfold innerVal ModelV.pv ModelV.lv ModelV.ev at *
  generalize nmE f y k = c at *
  generalize numB n = nb at *
  go_enter Try.func64, Try.ntmps64
  cases hv : (y.toList == [118, 97, 108, 117, 101]) with
  | true =>
    have HR : Hid (r = 40) := Lib.hid (by rw [HA.out, hv]; rfl)
    go_wp2
    go_ret
    exact ⟨by rw [HR.out]; rfl, HB.out⟩
  | false =>
    by_cases hc : c = 0
    · have hcb : (c != 0) = false := by simpa using hc
      cases nb with
      | true =>
        have HR : Hid (r = 0) := Lib.hid (by rw [HA.out, hv, if_neg (by decide), if_neg (by simpa using hc)]; rfl)
        clear hc
        go_wp2_with (first
          | (go_at_call 59; refine HC.out.mono ?_; rintro e w' ⟨rfl, rfl⟩)
          | (go_at_call 68; refine (HN.out _).mono ?_; rintro e w' ⟨rfl, rfl⟩))
        go_ret
        exact ⟨by rw [HR.out]; rfl, HB.out⟩
      | false =>
        have HR : Hid (r = 23) := Lib.hid (by rw [HA.out, hv, if_neg (by decide), if_neg (by simpa using hc)]; rfl)
        clear hc
        go_wp2_with (first
          | (go_at_call 59; refine HC.out.mono ?_; rintro e w' ⟨rfl, rfl⟩)
          | (go_at_call 68; refine (HN.out _).mono ?_; rintro e w' ⟨rfl, rfl⟩))
        go_ret
        exact ⟨by rw [HR.out]; rfl, HB.out⟩
    · have hcb : (c != 0) = true := by simpa using hc
      have HR : Hid (r = c) := Lib.hid (by rw [HA.out, hv, if_neg (by decide), if_pos hc])
      clear hc
      go_wp2_with (go_at_call 59; refine HC.out.mono ?_; rintro e w' ⟨rfl, rfl⟩)
      go_ret
      exact ⟨by rw [HR.out]; rfl, HB.out⟩
theorem orE2_lit {w : World} {N : Nat} {a b r : Int} (h0 : w.cell? ⟨N, 0, none⟩ = some (.int .i64 a)) (h1 : w.cell? ⟨N, 1, none⟩ = some (.int .i64 b)) (hr : r = if a = 0 then b else a) :
    Calls Try.prog 62 #[.slice (some ⟨N, 0, none⟩) 2 2] w fun e w' => e = .returned (.int .i64 r) ∧ w' = w := by
  subst hr; exact orE2_any h0 h1
/-- What is wrong with a step. -/
def stE (links : List LinkM) (nm : ByteArray) (f : ByteArray → Option Nat) (s : StepM) : Int :=
  if !(decide (1 ≤ s.kind) && decide (s.kind ≤ 4)) || !(decide (0 ≤ s.ak) && decide (s.ak ≤ 2)) then 21 else if tgtE links nm f s = 0 then argE f s else tgtE links nm f s
set_option maxHeartbeats 2000000 in
theorem step_any {w : World} {x : ModelV} (hx : ModelAt w.heap.size w x) (mp ml : Nat) (hl : PlM w ml (fstP (x.links.map (·.name)))) (nm : ByteArray) {mv : Nat} {f : ByteArray → Option Nat} (h : PlM w mv f) (k : Int) {s : StepM} (hy : fitS s) :
    Calls Try.prog 66 #[innerVal x mp ml nm mv, .int .i64 k, .agg #[.int .i64 s.kind, .string s.name, .int .i64 s.ak, .int .i64 s.an, .string s.aname]] w fun e w' => e = .returned (.int .i64 (stE x.links nm f s)) ∧ Below w.heap.size w w' := by
  have HA : Hid (stE x.links nm f s = if !(decide (1 ≤ s.kind) && decide (s.kind ≤ 4)) || !(decide (0 ≤ s.ak) && decide (s.ak ≤ 2)) then 21 else if tgtE x.links nm f s = 0 then argE f s else tgtE x.links nm f s) := Lib.hid rfl
  have hb1 := (below_one w (.cells #[.int .i64 x.ver, .slice x.pa x.procs.length x.pc, .slice x.la x.links.length x.lc, .slice x.ea x.events.length x.ec, .map (some mp), .map (some ml), .string nm, .map (some mv)] 105))
  have HB := Lib.hid (hb1.alloc hb1.size (.cells #[.int .i64 s.kind, .string s.name, .int .i64 s.ak, .int .i64 s.an, .string s.aname] 99))
  have HW1 := Lib.hid (fun W => within_g s.kind 1 4 W)
  have HW2 := Lib.hid (fun W => within_g s.ak 0 2 W)
  have HT : Hid (∀ W, Below w.heap.size w W → Calls Try.prog 89 #[innerVal x mp ml nm mv, .agg #[.int .i64 s.kind, .string s.name, .int .i64 s.ak, .int .i64 s.an, .string s.aname]] W fun e w' => e = .returned (.int .i64 (tgtE x.links nm f s)) ∧ Below W.heap.size W w') := Lib.hid (fun W hW => target_any (hx.on hW) mp ml (hl.below hW) nm (h.below hW) hy.1)
  have HG : Hid (∀ W, Below w.heap.size w W → Calls Try.prog 90 #[innerVal x mp ml nm mv, .agg #[.int .i64 s.ak, .int .i64 s.an, .string s.aname]] W fun e w' => e = .returned (.int .i64 (argE f s)) ∧ Below W.heap.size W w') := Lib.hid (fun W hW => arg_any x mp ml nm (h.below hW) hy.2)
  have HO1 : Hid ((((w.alloc (.cells #[.int .i64 x.ver, .slice x.pa x.procs.length x.pc, .slice x.la x.links.length x.lc, .slice x.ea x.events.length x.ec, .map (some mp), .map (some ml), .string nm, .map (some mv)] 105)).alloc (.cells #[.int .i64 s.kind, .string s.name, .int .i64 s.ak, .int .i64 s.an, .string s.aname] 99))).heap[w.heap.size]? = some (.cells #[.int .i64 x.ver, .slice x.pa x.procs.length x.pc, .slice x.la x.links.length x.lc, .slice x.ea x.events.length x.ec, .map (some mp), .map (some ml), .string nm, .map (some mv)] 105 (0, 0))) := Lib.hid (heap_alloc (heap_new _ rfl) _)
  have HO2 : Hid ((((w.alloc (.cells #[.int .i64 x.ver, .slice x.pa x.procs.length x.pc, .slice x.la x.links.length x.lc, .slice x.ea x.events.length x.ec, .map (some mp), .map (some ml), .string nm, .map (some mv)] 105)).alloc (.cells #[.int .i64 s.kind, .string s.name, .int .i64 s.ak, .int .i64 s.an, .string s.aname] 99))).heap[w.heap.size + 1]? = some (.cells #[.int .i64 s.kind, .string s.name, .int .i64 s.ak, .int .i64 s.an, .string s.aname] 99 (0, 0))) := Lib.hid (heap_new _ (by simp))
  clear h hb1 hl hx hy
  unfold innerVal ModelV.pv ModelV.lv ModelV.ev at *
  generalize stE x.links nm f s = r at *
  generalize tgtE x.links nm f s = t at *
  generalize argE f s = g at *
  generalize (decide (1 ≤ s.kind) && decide (s.kind ≤ 4)) = b1 at *
  generalize (decide (0 ≤ s.ak) && decide (s.ak ≤ 2)) = b2 at *
  go_enter Try.func66, Try.ntmps66
  cases b1 with
  | false =>
    have HR : Hid (r = 21) := Lib.hid (by rw [HA.out]; rfl)
    clear HA HT HG
    go_wp2_with (go_at_call 32; refine (HW1.out _).mono ?_; rintro e w' ⟨rfl, rfl⟩)
    go_ret
    exact ⟨by rw [HR.out]; rfl, HB.out⟩
  | true =>
    cases b2 with
    | false =>
      have HR : Hid (r = 21) := Lib.hid (by rw [HA.out]; rfl)
      clear HA HT HG
      go_wp2_with (first
        | (go_at_call 32; refine (HW1.out _).mono ?_; clear HW1; rintro e w' ⟨rfl, rfl⟩)
        | (go_at_call 32; refine (HW2.out _).mono ?_; clear HW2; rintro e w' ⟨rfl, rfl⟩))
      go_ret
      exact ⟨by rw [HR.out]; rfl, HB.out⟩
    | true =>
      have HR : Hid (r = if t = 0 then g else t) := Lib.hid (by rw [HA.out]; rfl)
      clear HA
      go_upto_region 3 with (first
        | (go_at_call 32; refine (HW1.out _).mono ?_; clear HW1; rintro e w' ⟨rfl, rfl⟩)
        | (go_at_call 32; refine (HW2.out _).mono ?_; clear HW2; rintro e w' ⟨rfl, rfl⟩))
      generalize (((w.alloc (.cells #[.int .i64 x.ver, .slice x.pa x.procs.length x.pc, .slice x.la x.links.length x.lc, .slice x.ea x.events.length x.ec, .map (some mp), .map (some ml), .string nm, .map (some mv)] 105)).alloc (.cells #[.int .i64 s.kind, .string s.name, .int .i64 s.ak, .int .i64 s.an, .string s.aname] 99))) = w1 at *
      have HT1 : Hid (∀ W, Below w1.heap.size w1 W → _) := Lib.hid (fun W (hW : Below w1.heap.size w1 W) => HT.out W (HB.out.trans (hW.mono HB.out.size)))
      have HG1 : Hid (∀ W, Below w1.heap.size w1 W → _) := Lib.hid (fun W (hW : Below w1.heap.size w1 W) => HG.out W (HB.out.trans (hW.mono HB.out.size)))
      have hc1 : ∀ (i : Nat) (u : Value), (#[.int .i64 x.ver, .slice x.pa x.procs.length x.pc, .slice x.la x.links.length x.lc, .slice x.ea x.events.length x.ec, .map (some mp), .map (some ml), .string nm, .map (some mv)] : Array Value)[i]? = some u → ∀ W, Below w1.heap.size w1 W → W.cell? ⟨w.heap.size, i, none⟩ = some u := fun i u hu W hW => heap_cell (heap_below HO1.out hW (heap_lt HO1.out)) hu
      have hc2 : ∀ (i : Nat) (u : Value), (#[.int .i64 s.kind, .string s.name, .int .i64 s.ak, .int .i64 s.an, .string s.aname] : Array Value)[i]? = some u → ∀ W, Below w1.heap.size w1 W → W.cell? ⟨w.heap.size + 1, i, none⟩ = some u := fun i u hu W hW => heap_cell (heap_below HO2.out hW (heap_lt HO2.out)) hu
      have d0 := hc1 0 _ rfl
      have d1 := hc1 1 _ rfl
      have d2 := hc1 2 _ rfl
      have d3 := hc1 3 _ rfl
      have d4 := hc1 4 _ rfl
      have d5 := hc1 5 _ rfl
      have d6 := hc1 6 _ rfl
      have d7 := hc1 7 _ rfl
      have e0 := hc2 0 _ rfl
      have e1 := hc2 1 _ rfl
      have e2 := hc2 2 _ rfl
      have e3 := hc2 3 _ rfl
      have e4 := hc2 4 _ rfl
      simp only [List.getElem_toArray, List.getElem_cons_zero, List.getElem_cons_succ] at d0 d1 d2 d3 d4 d5 d6 d7 e0 e1 e2 e3 e4
      clear hc1 hc2 HT HG HO1 HO2
      go_region_held3 (fun W => Below w1.heap.size w1 W) (first | assumption | exact Below.refl _ _ | exact (Below.refl _ _).drew | exact Below.drew (by assumption) | exact (show Below w1.heap.size w1 _ by assumption).alloc (by first | exact Nat.le_refl _ | exact hz4 | exact hz5) _) (first
        | (go_at_call 89; refine (HT1.out _ (by assumption)).mono ?_; rintro e w4 ⟨rfl, hb⟩; have hS4 : Below w1.heap.size w1 w4 := Below.trans (show Below w1.heap.size w1 _ by assumption) (hb.mono (show Below w1.heap.size w1 _ by assumption).size); have hz4 := hS4.size; clear hb)
        | (go_at_call 90; refine (HG1.out _ (by assumption)).mono ?_; rintro e w5 ⟨rfl, hb⟩; have hS5 : Below w1.heap.size w1 w5 := Below.trans (show Below w1.heap.size w1 _ by assumption) (hb.mono (show Below w1.heap.size w1 _ by assumption).size); have hz5 := hS5.size; clear hb)
        | (go_at_call 62; refine (orE2_lit (heap_cell (heap_new _ rfl) rfl) (heap_cell (heap_new _ rfl) rfl) HR.out).mono ?_; rintro e w6 ⟨rfl, rfl⟩))
      clear HT1 HG1 d0 d1 d2 d3 d4 d5 d6 d7 e0 e1 e2 e3 e4
      go_wp2
      go_ret
      exact ⟨rfl, HB.out.trans ((hS5.alloc hz5 _).mono HB.out.size)⟩
end Go.Proofs.Ytgnlehenbdcgmaa.Md
