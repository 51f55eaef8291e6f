/- What is wrong with variables, steps, processes, links, events: plain, and as contracts. Contracts: the first thing of a list that is wrong. What is wrong with processes, links, events: plain, and as contracts. Contracts: links, events; the first of three faults; Check. Contract: Check. Contract: Check. -/
import Derived.Test.YtjcmeacgfflfmaaGreatMdD
import Derived.Deep.RegionHeld3
import Derived.Laws.Rows
import Derived.Test.YtjcmeacgfflfmaaGreatSrw
import Derived.Deep.Cut
import Derived.Deep.DeepCutAuto
import Derived.Laws.StructEq
set_option linter.unusedVariables false
set_option linter.unusedSectionVars false
set_option linter.unusedSimpArgs false
namespace Go.Proofs.YtjcmeacgfflfmaaGreat.Md
open Go.RowKit

/-- What is wrong with a variable. -/
def varE (f : ByteArray → Option Nat) (k : Nat) (v : VarM) : Int := if v.name.toList == [118, 97, 108, 117, 101] then 40 else if nmE f v.name k ≠ 0 then nmE f v.name k else if numB v.init then 0 else 23
theorem variable_any (x : ModelV) (mp ml : Nat) (nm : ByteArray) {w : World} {mv : Nat} {f : ByteArray → Option Nat} (h : PlM w mv f) (k : Nat) {v : VarM} (hy : v.name.size ≤ maxLen) :
    Calls Tryz.prog 102 #[innerVal x mp ml nm mv, .int .i64 (k : Int), .agg #[.string v.name, .int .i64 v.init]] w fun e w' => e = .returned (.int .i64 (varE f k v)) ∧ Below w.heap.size w w' := by
  have HA : Hid (varE f k v = if v.name.toList == [118, 97, 108, 117, 101] then 40 else if nmE f v.name k ≠ 0 then nmE f v.name k else if numB v.init then 0 else 23) := Lib.hid rfl
  obtain ⟨y, hye⟩ : ∃ s, v.name = s := ⟨_, rfl⟩
  obtain ⟨n, hne⟩ : ∃ s, v.init = s := ⟨_, rfl⟩
  generalize varE f k v = r at *
  rw [hye] at hy
  rw [hye, hne] at HA
  rw [hye, hne]
  clear hye hne
  have hb1 := (below_one w (.cells #[.int .i64 x.ver, .slice x.pa x.procs.length x.pc, .slice x.la x.links.length x.lc, .slice x.ea x.events.length x.ec, .map (some mp), .map (some ml), .string nm, .map (some mv)] 145))
  have HB := Lib.hid (hb1.alloc hb1.size (.cells #[.string y, .int .i64 n] 40))
  have HC := Lib.hid (checkName_any (h.below HB.out) hy k)
  have HN := Lib.hid (fun W => isNum_any n W)
  clear h hb1
  unfold innerVal ModelV.pv ModelV.lv ModelV.ev at *
  generalize nmE f y k = c at *
  generalize numB n = nb at *
  go_enter Tryz.func102, Tryz.ntmps102
  cases hv : (y.toList == [118, 97, 108, 117, 101]) with
  | true =>
    have HR : Hid (r = 40) := Lib.hid (by rw [HA.out, hv]; rfl)
    go_wp2
    go_ret
    exact ⟨by rw [HR.out]; rfl, HB.out⟩
  | false =>
    by_cases hc : c = 0
    · have hcb : (c != 0) = false := by simpa using hc
      cases nb with
      | true =>
        have HR : Hid (r = 0) := Lib.hid (by rw [HA.out, hv, if_neg (by decide), if_neg (by simpa using hc)]; rfl)
        clear hc
        go_wp2_with (first
          | (go_at_call 96; refine HC.out.mono ?_; rintro e w' ⟨rfl, rfl⟩)
          | (go_at_call 106; refine (HN.out _).mono ?_; rintro e w' ⟨rfl, rfl⟩))
        go_ret
        exact ⟨by rw [HR.out]; rfl, HB.out⟩
      | false =>
        have HR : Hid (r = 23) := Lib.hid (by rw [HA.out, hv, if_neg (by decide), if_neg (by simpa using hc)]; rfl)
        clear hc
        go_wp2_with (first
          | (go_at_call 96; refine HC.out.mono ?_; rintro e w' ⟨rfl, rfl⟩)
          | (go_at_call 106; refine (HN.out _).mono ?_; rintro e w' ⟨rfl, rfl⟩))
        go_ret
        exact ⟨by rw [HR.out]; rfl, HB.out⟩
    · have hcb : (c != 0) = true := by simpa using hc
      have HR : Hid (r = c) := Lib.hid (by rw [HA.out, hv, if_neg (by decide), if_pos hc])
      clear hc
      go_wp2_with (go_at_call 96; refine HC.out.mono ?_; rintro e w' ⟨rfl, rfl⟩)
      go_ret
      exact ⟨by rw [HR.out]; rfl, HB.out⟩
theorem orE2_lit {w : World} {N : Nat} {a b r : Int} (h0 : w.cell? ⟨N, 0, none⟩ = some (.int .i64 a)) (h1 : w.cell? ⟨N, 1, none⟩ = some (.int .i64 b)) (hr : r = if a = 0 then b else a) :
    Calls Tryz.prog 100 #[.slice (some ⟨N, 0, none⟩) 2 2] w fun e w' => e = .returned (.int .i64 r) ∧ w' = w := by
  subst hr; exact orE2_any h0 h1
/-- What is wrong with a step. -/
def stE (links : List LinkM) (nm : ByteArray) (f : ByteArray → Option Nat) (s : StepM) : Int :=
  if !(decide (1 ≤ s.kind) && decide (s.kind ≤ 4)) || !(decide (0 ≤ s.ak) && decide (s.ak ≤ 2)) then 21 else if tgtE links nm f s = 0 then argE f s else tgtE links nm f s
set_option maxHeartbeats 2000000 in
theorem step_any {w : World} {x : ModelV} (hx : ModelAt w.heap.size w x) (mp ml : Nat) (hl : PlM w ml (fstP (x.links.map (·.name)))) (nm : ByteArray) {mv : Nat} {f : ByteArray → Option Nat} (h : PlM w mv f) (k : Int) {s : StepM} (hy : fitS s) :
    Calls Tryz.prog 104 #[innerVal x mp ml nm mv, .int .i64 k, .agg #[.int .i64 s.kind, .string s.name, .int .i64 s.ak, .int .i64 s.an, .string s.aname]] w fun e w' => e = .returned (.int .i64 (stE x.links nm f s)) ∧ Below w.heap.size w w' := by
  have HA : Hid (stE x.links nm f s = if !(decide (1 ≤ s.kind) && decide (s.kind ≤ 4)) || !(decide (0 ≤ s.ak) && decide (s.ak ≤ 2)) then 21 else if tgtE x.links nm f s = 0 then argE f s else tgtE x.links nm f s) := Lib.hid rfl
  have hb1 := (below_one w (.cells #[.int .i64 x.ver, .slice x.pa x.procs.length x.pc, .slice x.la x.links.length x.lc, .slice x.ea x.events.length x.ec, .map (some mp), .map (some ml), .string nm, .map (some mv)] 145))
  have HB := Lib.hid (hb1.alloc hb1.size (.cells #[.int .i64 s.kind, .string s.name, .int .i64 s.ak, .int .i64 s.an, .string s.aname] 38))
  have HW1 := Lib.hid (fun W => within_g s.kind 1 4 W)
  have HW2 := Lib.hid (fun W => within_g s.ak 0 2 W)
  have HT : Hid (∀ W, Below w.heap.size w W → Calls Tryz.prog 133 #[innerVal x mp ml nm mv, .agg #[.int .i64 s.kind, .string s.name, .int .i64 s.ak, .int .i64 s.an, .string s.aname]] W fun e w' => e = .returned (.int .i64 (tgtE x.links nm f s)) ∧ Below W.heap.size W w') := Lib.hid (fun W hW => target_any (hx.on hW) mp ml (hl.below hW) nm (h.below hW) hy.1)
  have HG : Hid (∀ W, Below w.heap.size w W → Calls Tryz.prog 134 #[innerVal x mp ml nm mv, .agg #[.int .i64 s.ak, .int .i64 s.an, .string s.aname]] W fun e w' => e = .returned (.int .i64 (argE f s)) ∧ Below W.heap.size W w') := Lib.hid (fun W hW => arg_any x mp ml nm (h.below hW) hy.2)
  have HO1 : Hid ((((w.alloc (.cells #[.int .i64 x.ver, .slice x.pa x.procs.length x.pc, .slice x.la x.links.length x.lc, .slice x.ea x.events.length x.ec, .map (some mp), .map (some ml), .string nm, .map (some mv)] 145)).alloc (.cells #[.int .i64 s.kind, .string s.name, .int .i64 s.ak, .int .i64 s.an, .string s.aname] 38))).heap[w.heap.size]? = some (.cells #[.int .i64 x.ver, .slice x.pa x.procs.length x.pc, .slice x.la x.links.length x.lc, .slice x.ea x.events.length x.ec, .map (some mp), .map (some ml), .string nm, .map (some mv)] 145 (0, 0))) := Lib.hid (heap_alloc (heap_new _ rfl) _)
  have HO2 : Hid ((((w.alloc (.cells #[.int .i64 x.ver, .slice x.pa x.procs.length x.pc, .slice x.la x.links.length x.lc, .slice x.ea x.events.length x.ec, .map (some mp), .map (some ml), .string nm, .map (some mv)] 145)).alloc (.cells #[.int .i64 s.kind, .string s.name, .int .i64 s.ak, .int .i64 s.an, .string s.aname] 38))).heap[w.heap.size + 1]? = some (.cells #[.int .i64 s.kind, .string s.name, .int .i64 s.ak, .int .i64 s.an, .string s.aname] 38 (0, 0))) := Lib.hid (heap_new _ (by simp))
  clear h hb1 hl hx hy
  unfold innerVal ModelV.pv ModelV.lv ModelV.ev at *
  generalize stE x.links nm f s = r at *
  generalize tgtE x.links nm f s = t at *
  generalize argE f s = g at *
  generalize (decide (1 ≤ s.kind) && decide (s.kind ≤ 4)) = b1 at *
  generalize (decide (0 ≤ s.ak) && decide (s.ak ≤ 2)) = b2 at *
  go_enter Tryz.func104, Tryz.ntmps104
  cases b1 with
  | false =>
    have HR : Hid (r = 21) := Lib.hid (by rw [HA.out]; rfl)
    clear HA HT HG
    go_wp2_with (go_at_call 56; refine (HW1.out _).mono ?_; rintro e w' ⟨rfl, rfl⟩)
    go_ret
    exact ⟨by rw [HR.out]; rfl, HB.out⟩
  | true =>
    cases b2 with
    | false =>
      have HR : Hid (r = 21) := Lib.hid (by rw [HA.out]; rfl)
      clear HA HT HG
      go_wp2_with (first
        | (go_at_call 56; refine (HW1.out _).mono ?_; clear HW1; rintro e w' ⟨rfl, rfl⟩)
        | (go_at_call 56; refine (HW2.out _).mono ?_; clear HW2; rintro e w' ⟨rfl, rfl⟩))
      go_ret
      exact ⟨by rw [HR.out]; rfl, HB.out⟩
    | true =>
      have HR : Hid (r = if t = 0 then g else t) := Lib.hid (by rw [HA.out]; rfl)
      clear HA
      go_upto_region 3 with (first
        | (go_at_call 56; refine (HW1.out _).mono ?_; clear HW1; rintro e w' ⟨rfl, rfl⟩)
        | (go_at_call 56; refine (HW2.out _).mono ?_; clear HW2; rintro e w' ⟨rfl, rfl⟩))
      generalize (((w.alloc (.cells #[.int .i64 x.ver, .slice x.pa x.procs.length x.pc, .slice x.la x.links.length x.lc, .slice x.ea x.events.length x.ec, .map (some mp), .map (some ml), .string nm, .map (some mv)] 145)).alloc (.cells #[.int .i64 s.kind, .string s.name, .int .i64 s.ak, .int .i64 s.an, .string s.aname] 38))) = w1 at *
      have HT1 : Hid (∀ W, Below w1.heap.size w1 W → _) := Lib.hid (fun W (hW : Below w1.heap.size w1 W) => HT.out W (HB.out.trans (hW.mono HB.out.size)))
      have HG1 : Hid (∀ W, Below w1.heap.size w1 W → _) := Lib.hid (fun W (hW : Below w1.heap.size w1 W) => HG.out W (HB.out.trans (hW.mono HB.out.size)))
      have hc1 : ∀ (i : Nat) (u : Value), (#[.int .i64 x.ver, .slice x.pa x.procs.length x.pc, .slice x.la x.links.length x.lc, .slice x.ea x.events.length x.ec, .map (some mp), .map (some ml), .string nm, .map (some mv)] : Array Value)[i]? = some u → ∀ W, Below w1.heap.size w1 W → W.cell? ⟨w.heap.size, i, none⟩ = some u := fun i u hu W hW => heap_cell (heap_below HO1.out hW (heap_lt HO1.out)) hu
      have hc2 : ∀ (i : Nat) (u : Value), (#[.int .i64 s.kind, .string s.name, .int .i64 s.ak, .int .i64 s.an, .string s.aname] : Array Value)[i]? = some u → ∀ W, Below w1.heap.size w1 W → W.cell? ⟨w.heap.size + 1, i, none⟩ = some u := fun i u hu W hW => heap_cell (heap_below HO2.out hW (heap_lt HO2.out)) hu
      have d0 := hc1 0 _ rfl
      have d1 := hc1 1 _ rfl
      have d2 := hc1 2 _ rfl
      have d3 := hc1 3 _ rfl
      have d4 := hc1 4 _ rfl
      have d5 := hc1 5 _ rfl
      have d6 := hc1 6 _ rfl
      have d7 := hc1 7 _ rfl
      have e0 := hc2 0 _ rfl
      have e1 := hc2 1 _ rfl
      have e2 := hc2 2 _ rfl
      have e3 := hc2 3 _ rfl
      have e4 := hc2 4 _ rfl
      simp only [List.getElem_toArray, List.getElem_cons_zero, List.getElem_cons_succ] at d0 d1 d2 d3 d4 d5 d6 d7 e0 e1 e2 e3 e4
      clear hc1 hc2 HT HG HO1 HO2
      go_region_held3 (fun W => Below w1.heap.size w1 W) (first | assumption | exact Below.refl _ _ | exact (Below.refl _ _).drew | exact Below.drew (by assumption) | exact (show Below w1.heap.size w1 _ by assumption).alloc (by first | exact Nat.le_refl _ | exact hz4 | exact hz5) _) (first
        | (go_at_call 133; refine (HT1.out _ (by assumption)).mono ?_; rintro e w4 ⟨rfl, hb⟩; have hS4 : Below w1.heap.size w1 w4 := Below.trans (show Below w1.heap.size w1 _ by assumption) (hb.mono (show Below w1.heap.size w1 _ by assumption).size); have hz4 := hS4.size; clear hb)
        | (go_at_call 134; refine (HG1.out _ (by assumption)).mono ?_; rintro e w5 ⟨rfl, hb⟩; have hS5 : Below w1.heap.size w1 w5 := Below.trans (show Below w1.heap.size w1 _ by assumption) (hb.mono (show Below w1.heap.size w1 _ by assumption).size); have hz5 := hS5.size; clear hb)
        | (go_at_call 100; refine (orE2_lit (heap_cell (heap_new _ rfl) rfl) (heap_cell (heap_new _ rfl) rfl) HR.out).mono ?_; rintro e w6 ⟨rfl, rfl⟩))
      clear HT1 HG1 d0 d1 d2 d3 d4 d5 d6 d7 e0 e1 e2 e3 e4
      go_wp2
      go_ret
      exact ⟨rfl, HB.out.trans ((hS5.alloc hz5 _).mono HB.out.size)⟩
end Go.Proofs.YtjcmeacgfflfmaaGreat.Md

namespace Go.Proofs.YtjcmeacgfflfmaaGreat.Md
open Go.RowKit

/-- The first that is wrong: its error, and how many stand up to it. -/
def fErr {α : Type} (E : Nat → α → Int) : Nat → List α → Int × Nat
  | _, [] => (0, 0)
  | k, x :: r => if E k x ≠ 0 then (E k x, k + 1) else fErr E (k + 1) r
theorem fErr_step {α : Type} {E : Nat → α → Int} {L : List α} {k : Nat} {x : α} (hx : L[k]? = some x) : fErr E k (L.drop k) = if E k x ≠ 0 then (E k x, k + 1) else fErr E (k + 1) (L.drop (k + 1)) := by
  obtain ⟨hk, rfl⟩ := List.getElem?_eq_some_iff.1 hx
  rw [List.drop_eq_getElem_cons hk]
  rfl
theorem fErr_congr {α : Type} {E E' : Nat → α → Int} : ∀ (L : List α) (k : Nat), (∀ i x, L[i]? = some x → E (k + i) x = E' (k + i) x) → fErr E k L = fErr E' k L
  | [], k, _ => rfl
  | x :: r, k, h => by
    have h0 := h 0 x rfl
    have ih := fErr_congr r (k + 1) (fun i y hy => (show k + (i + 1) = k + 1 + i by omega) ▸ h (i + 1) y (by simpa using hy))
    unfold fErr
    rw [Nat.add_zero] at h0
    rw [h0, ih]
/-- The fault behind so many declarations. -/
def fltV (ahead : Nat) (p : Int × Nat) : Value := .agg #[.int .i64 p.1, .int .i64 (if p.1 = 0 then 0 else ((ahead + p.2 : Nat) : Int))]
theorem Tryz.infoFl : (Tryz.prog.info? 54).map (·.size) = some 2 := by kernel_rfl
theorem flt_ret {fn : Func} {p : Tmp} (h : fn.results = #[.cell p 54]) {W : World} {B : Nat} {u v : Value} {tmps : Array Value} (hx : W.heap[B]? = some (.cells #[u, v] 54 (0, 0)))
    (h2 : tmps.getD p undef = .pointer (some ⟨B, 0, none⟩)) : (results fn tmps).run Tryz.prog W = .ok (.agg #[u, v]) W :=
  results_cell_row h _ _ B 54 _ (0, 0) _ h2 hx Tryz.underlying54 rfl Tryz.infoFl

set_option maxRecDepth 100000 in
set_option maxHeartbeats 2000000 in
theorem check_V {w : World} {a : Option Addr} {b off len cap : Nat} {L : List VarM} (h : RowsAt encV fitV 2 w.heap.size w a b off len L) (ahead : Nat) (hah : ahead ≤ 100000) (hsm : len ≤ 100000) {gf : Nat} {bv : Value} {E : Nat → VarM → Int}
    (hF : ∀ (k : Nat) (x : VarM) (W : World), L[k]? = some x → Below w.heap.size w W → Calls Tryz.prog gf #[bv, .int .i64 (k : Int), .agg #[.string x.name, .int .i64 x.init]] W fun e w' => e = .returned (.int .i64 (E k x)) ∧ Below W.heap.size W w')
    (hcf : ∀ args w, (callFunc gf args).run Tryz.prog w = .ok (.enter gf args) w) :
    Calls Tryz.prog 101 #[.slice a len cap, .int .i64 (ahead : Int), .func (.func gf) #[bv] #[]] w fun e w' => e = .returned (fltV ahead (fErr E 0 L)) ∧ Below w.heap.size w w' := by
  have HM := Lib.hid h
  have HL := Lib.hid h.length
  have HF := Lib.hid hF
  have HB0 : Hid (Below w.heap.size w (w.alloc (.cells #[.int .i64 0, .int .i64 0] 54))) := Lib.hid (below_one w _)
  have HO0 : Hid ((w.alloc (.cells #[.int .i64 0, .int .i64 0] 54)).heap[w.heap.size]? = some (.cells #[.int .i64 0, .int .i64 0] 54 (0, 0))) := Lib.hid (heap_new _ rfl)
  obtain ⟨R, hR⟩ : ∃ R, fErr E 0 L = R := ⟨_, rfl⟩
  rw [hR]
  have HR := Lib.hid hR
  clear h hF hR
  go_enter Tryz.func101, Tryz.ntmps101
  go_wp2
  generalize w.alloc (.cells #[.int .i64 0, .int .i64 0] 54) = w0 at *
  go_loopw [12] (fun i wr => ∃ j : Nat, i = .int .i64 (j : Int) ∧ j ≤ len ∧ Hid (fErr E j (L.drop j) = R) ∧ Hid (Below w.heap.size w wr ∧ wr.heap[w.heap.size]? = some (.cells #[.int .i64 0, .int .i64 0] 54 (0, 0)))) (fun i _ => len - (intOf i).toNat)
  case atStart => exact ⟨0, rfl, Nat.zero_le _, Lib.hid HR.out, Lib.hid ⟨HB0.out, HO0.out⟩⟩
  case round =>
    clear HB0 HO0
    obtain ⟨j, rfl, hj, HJ, HT⟩ := hrel
    by_cases hlt : j < len
    · have hI := HM.out.kept HT.out.1 (Nat.le_refl _)
      obtain rfl : a = some ⟨b, off, none⟩ := hI.addr.resolve_left (by omega)
      have hx : L[j]? = some (L[j]'(by rw [HL.out]; exact hlt)) := List.getElem?_eq_getElem _
      generalize L[j]'(by rw [HL.out]; exact hlt) = x at hx
      have c0 : wr.cell? ⟨b, off + j * 2, none⟩ = some (.string x.name) := hI.cell j x hx 0 _ rfl
      have c1 : wr.cell? ⟨b, off + j * 2 + 1, none⟩ = some (.int .i64 x.init) := hI.cell j x hx 1 _ rfl
      have hji : (j : Int) < (len : Int) := by omega
      have hj0 : (0 : Int) ≤ (j : Int) := Int.natCast_nonneg j
      have HB1 : Hid (Below w.heap.size w (wr.alloc (.cells #[.string x.name, .int .i64 x.init] 40))) := Lib.hid (HT.out.1.alloc HT.out.1.size _)
      have HO1 : Hid ((wr.alloc (.cells #[.string x.name, .int .i64 x.init] 40)).heap[w.heap.size]? = some (.cells #[.int .i64 0, .int .i64 0] 54 (0, 0))) := Lib.hid (heap_alloc HT.out.2 _)
      have HC1 := Lib.hid (HF.out j x _ hx HB1.out)
      have HSt := Lib.hid (HJ.out.symm.trans (fErr_step hx))
      generalize E j x = ee at *
      clear hI hx
      go_wp2_with fail
      refine HC1.out.mono ?_
      rintro e w2 ⟨rfl, hb2⟩
      have HB2 := Lib.hid (HB1.out.trans (hb2.mono HB1.out.size))
      have HO2 := Lib.hid (heap_below HO1.out hb2 (heap_lt HO1.out))
      clear hb2 HC1 HB1 HO1
      by_cases he : ee = 0
      · have heb : (ee != 0) = false := by simpa using he
        have HJ2 : Hid (fErr E (j + 1) (L.drop (j + 1)) = R) := Lib.hid (by rw [HSt.out, if_neg (by simpa using he)])
        clear he HSt
        go_wp2
        go_roundw
        case rel => exact ⟨j + 1, by go_num, by omega, HJ2, Lib.hid ⟨HB2.out, HO2.out⟩⟩
        case measure => simp [intOf]; omega
      · have heb : (ee != 0) = true := by simpa using he
        have HRe : Hid (R = (ee, j + 1)) := Lib.hid (by rw [HSt.out, if_pos he])
        have hE := Lib.hid he
        have c6 := heap_cell HO2.out (i := 0) rfl
        have c7 := heap_cell HO2.out (i := 1) rfl
        simp only [List.getElem_toArray, List.getElem_cons_zero, List.getElem_cons_succ] at c6 c7
        have f6 := heap_frozen HO2.out 0
        have f7 := heap_frozen HO2.out 1
        have ha1 : (ahead : Int) ≤ 100000 := by omega
        clear he HSt
        go_wp2
        refine bodyPost_ret (flt_ret rfl (heap_set (heap_set HO2.out 0 (.int .i64 ee)) 1 (.int .i64 ((ahead : Int) + (j : Int) + 1))) rfl) rfl ?_
        refine ⟨?_, ((HB2.out.setCell (p := ⟨w.heap.size, 0, none⟩) (Nat.le_refl _) _).setCell (p := ⟨w.heap.size, 1, none⟩) (Nat.le_refl _) _)⟩
        rw [HRe.out]
        unfold fltV
        simp only
        rw [if_neg hE.out, show ((ahead + (j + 1) : Nat) : Int) = (ahead : Int) + (j : Int) + 1 by omega]
    · obtain rfl : j = len := by omega
      have HRe : Hid (R = (0, 0)) := Lib.hid (by rw [← HJ.out, List.drop_of_length_le (by rw [HL.out]; exact Nat.le_refl _)]; rfl)
      have c6 := heap_cell HT.out.2 (i := 0) rfl
      have c7 := heap_cell HT.out.2 (i := 1) rfl
      simp only [List.getElem_toArray, List.getElem_cons_zero, List.getElem_cons_succ] at c6 c7
      have f6 := heap_frozen HT.out.2 0
      have f7 := heap_frozen HT.out.2 1
      go_wp2
      refine bodyPost_ret (flt_ret rfl (heap_set (heap_set HT.out.2 0 (.int .i64 0)) 1 (.int .i64 0)) rfl) rfl ?_
      exact ⟨by rw [HRe.out]; rfl, ((HT.out.1.setCell (p := ⟨w.heap.size, 0, none⟩) (Nat.le_refl _) _).setCell (p := ⟨w.heap.size, 1, none⟩) (Nat.le_refl _) _)⟩

set_option maxRecDepth 100000 in
set_option maxHeartbeats 2000000 in
theorem check_S {w : World} {a : Option Addr} {b off len cap : Nat} {L : List StepM} (h : RowsAt encS fitS 5 w.heap.size w a b off len L) (ahead : Nat) (hah : ahead ≤ 100000) (hsm : len ≤ 100000) {gf : Nat} {bv : Value} {E : Nat → StepM → Int}
    (hF : ∀ (k : Nat) (x : StepM) (W : World), L[k]? = some x → Below w.heap.size w W → Calls Tryz.prog gf #[bv, .int .i64 (k : Int), .agg #[.int .i64 x.kind, .string x.name, .int .i64 x.ak, .int .i64 x.an, .string x.aname]] W fun e w' => e = .returned (.int .i64 (E k x)) ∧ Below W.heap.size W w')
    (hcf : ∀ args w, (callFunc gf args).run Tryz.prog w = .ok (.enter gf args) w) :
    Calls Tryz.prog 103 #[.slice a len cap, .int .i64 (ahead : Int), .func (.func gf) #[bv] #[]] w fun e w' => e = .returned (fltV ahead (fErr E 0 L)) ∧ Below w.heap.size w w' := by
  have HM := Lib.hid h
  have HL := Lib.hid h.length
  have HF := Lib.hid hF
  have HB0 : Hid (Below w.heap.size w (w.alloc (.cells #[.int .i64 0, .int .i64 0] 54))) := Lib.hid (below_one w _)
  have HO0 : Hid ((w.alloc (.cells #[.int .i64 0, .int .i64 0] 54)).heap[w.heap.size]? = some (.cells #[.int .i64 0, .int .i64 0] 54 (0, 0))) := Lib.hid (heap_new _ rfl)
  obtain ⟨R, hR⟩ : ∃ R, fErr E 0 L = R := ⟨_, rfl⟩
  rw [hR]
  have HR := Lib.hid hR
  clear h hF hR
  go_enter Tryz.func103, Tryz.ntmps103
  go_wp2
  generalize w.alloc (.cells #[.int .i64 0, .int .i64 0] 54) = w0 at *
  go_loopw [12] (fun i wr => ∃ j : Nat, i = .int .i64 (j : Int) ∧ j ≤ len ∧ Hid (fErr E j (L.drop j) = R) ∧ Hid (Below w.heap.size w wr ∧ wr.heap[w.heap.size]? = some (.cells #[.int .i64 0, .int .i64 0] 54 (0, 0)))) (fun i _ => len - (intOf i).toNat)
  case atStart => exact ⟨0, rfl, Nat.zero_le _, Lib.hid HR.out, Lib.hid ⟨HB0.out, HO0.out⟩⟩
  case round =>
    clear HB0 HO0
    obtain ⟨j, rfl, hj, HJ, HT⟩ := hrel
    by_cases hlt : j < len
    · have hI := HM.out.kept HT.out.1 (Nat.le_refl _)
      obtain rfl : a = some ⟨b, off, none⟩ := hI.addr.resolve_left (by omega)
      have hx : L[j]? = some (L[j]'(by rw [HL.out]; exact hlt)) := List.getElem?_eq_getElem _
      generalize L[j]'(by rw [HL.out]; exact hlt) = x at hx
      have c0 : wr.cell? ⟨b, off + j * 5, none⟩ = some (.int .i64 x.kind) := hI.cell j x hx 0 _ rfl
      have c1 : wr.cell? ⟨b, off + j * 5 + 1, none⟩ = some (.string x.name) := hI.cell j x hx 1 _ rfl
      have c2 : wr.cell? ⟨b, off + j * 5 + 2, none⟩ = some (.int .i64 x.ak) := hI.cell j x hx 2 _ rfl
      have c3 : wr.cell? ⟨b, off + j * 5 + 3, none⟩ = some (.int .i64 x.an) := hI.cell j x hx 3 _ rfl
      have c4 : wr.cell? ⟨b, off + j * 5 + 4, none⟩ = some (.string x.aname) := hI.cell j x hx 4 _ rfl
      have hji : (j : Int) < (len : Int) := by omega
      have hj0 : (0 : Int) ≤ (j : Int) := Int.natCast_nonneg j
      have HB1 : Hid (Below w.heap.size w (wr.alloc (.cells #[.int .i64 x.kind, .string x.name, .int .i64 x.ak, .int .i64 x.an, .string x.aname] 38))) := Lib.hid (HT.out.1.alloc HT.out.1.size _)
      have HO1 : Hid ((wr.alloc (.cells #[.int .i64 x.kind, .string x.name, .int .i64 x.ak, .int .i64 x.an, .string x.aname] 38)).heap[w.heap.size]? = some (.cells #[.int .i64 0, .int .i64 0] 54 (0, 0))) := Lib.hid (heap_alloc HT.out.2 _)
      have HC1 := Lib.hid (HF.out j x _ hx HB1.out)
      have HSt := Lib.hid (HJ.out.symm.trans (fErr_step hx))
      generalize E j x = ee at *
      clear hI hx
      go_wp2_with fail
      refine HC1.out.mono ?_
      rintro e w2 ⟨rfl, hb2⟩
      have HB2 := Lib.hid (HB1.out.trans (hb2.mono HB1.out.size))
      have HO2 := Lib.hid (heap_below HO1.out hb2 (heap_lt HO1.out))
      clear hb2 HC1 HB1 HO1
      by_cases he : ee = 0
      · have heb : (ee != 0) = false := by simpa using he
        have HJ2 : Hid (fErr E (j + 1) (L.drop (j + 1)) = R) := Lib.hid (by rw [HSt.out, if_neg (by simpa using he)])
        clear he HSt
        go_wp2
        go_roundw
        case rel => exact ⟨j + 1, by go_num, by omega, HJ2, Lib.hid ⟨HB2.out, HO2.out⟩⟩
        case measure => simp [intOf]; omega
      · have heb : (ee != 0) = true := by simpa using he
        have HRe : Hid (R = (ee, j + 1)) := Lib.hid (by rw [HSt.out, if_pos he])
        have hE := Lib.hid he
        have c6 := heap_cell HO2.out (i := 0) rfl
        have c7 := heap_cell HO2.out (i := 1) rfl
        simp only [List.getElem_toArray, List.getElem_cons_zero, List.getElem_cons_succ] at c6 c7
        have f6 := heap_frozen HO2.out 0
        have f7 := heap_frozen HO2.out 1
        have ha1 : (ahead : Int) ≤ 100000 := by omega
        clear he HSt
        go_wp2
        refine bodyPost_ret (flt_ret rfl (heap_set (heap_set HO2.out 0 (.int .i64 ee)) 1 (.int .i64 ((ahead : Int) + (j : Int) + 1))) rfl) rfl ?_
        refine ⟨?_, ((HB2.out.setCell (p := ⟨w.heap.size, 0, none⟩) (Nat.le_refl _) _).setCell (p := ⟨w.heap.size, 1, none⟩) (Nat.le_refl _) _)⟩
        rw [HRe.out]
        unfold fltV
        simp only
        rw [if_neg hE.out, show ((ahead + (j + 1) : Nat) : Int) = (ahead : Int) + (j : Int) + 1 by omega]
    · obtain rfl : j = len := by omega
      have HRe : Hid (R = (0, 0)) := Lib.hid (by rw [← HJ.out, List.drop_of_length_le (by rw [HL.out]; exact Nat.le_refl _)]; rfl)
      have c6 := heap_cell HT.out.2 (i := 0) rfl
      have c7 := heap_cell HT.out.2 (i := 1) rfl
      simp only [List.getElem_toArray, List.getElem_cons_zero, List.getElem_cons_succ] at c6 c7
      have f6 := heap_frozen HT.out.2 0
      have f7 := heap_frozen HT.out.2 1
      go_wp2
      refine bodyPost_ret (flt_ret rfl (heap_set (heap_set HT.out.2 0 (.int .i64 0)) 1 (.int .i64 0)) rfl) rfl ?_
      exact ⟨by rw [HRe.out]; rfl, ((HT.out.1.setCell (p := ⟨w.heap.size, 0, none⟩) (Nat.le_refl _) _).setCell (p := ⟨w.heap.size, 1, none⟩) (Nat.le_refl _) _)⟩

set_option maxRecDepth 100000 in
set_option maxHeartbeats 2000000 in
theorem check_P {w : World} {a : Option Addr} {b off len cap : Nat} {L : List ProcV} (h : RowsAt encP fitP 4 w.heap.size w a b off len L) (ahead : Nat) (hah : ahead ≤ 100000) (hsm : len ≤ 100000) {gf : Nat} {bv : Value} {E : Nat → ProcV → Int}
    (hF : ∀ (k : Nat) (x : ProcV) (W : World), L[k]? = some x → Below w.heap.size w W → Calls Tryz.prog gf #[bv, .int .i64 (k : Int), .agg #[.string x.p.name, .int .i64 x.p.weight, x.vv, x.sv]] W fun e w' => e = .returned (.int .i64 (E k x)) ∧ Below W.heap.size W w')
    (hcf : ∀ args w, (callFunc gf args).run Tryz.prog w = .ok (.enter gf args) w) :
    Calls Tryz.prog 62 #[.slice a len cap, .int .i64 (ahead : Int), .func (.func gf) #[bv] #[]] w fun e w' => e = .returned (fltV ahead (fErr E 0 L)) ∧ Below w.heap.size w w' := by
  have HM := Lib.hid h
  have HL := Lib.hid h.length
  have HF := Lib.hid hF
  have HB0 : Hid (Below w.heap.size w (w.alloc (.cells #[.int .i64 0, .int .i64 0] 54))) := Lib.hid (below_one w _)
  have HO0 : Hid ((w.alloc (.cells #[.int .i64 0, .int .i64 0] 54)).heap[w.heap.size]? = some (.cells #[.int .i64 0, .int .i64 0] 54 (0, 0))) := Lib.hid (heap_new _ rfl)
  obtain ⟨R, hR⟩ : ∃ R, fErr E 0 L = R := ⟨_, rfl⟩
  rw [hR]
  have HR := Lib.hid hR
  clear h hF hR
  go_enter Tryz.func62, Tryz.ntmps62
  go_wp2
  generalize w.alloc (.cells #[.int .i64 0, .int .i64 0] 54) = w0 at *
  go_loopw [12] (fun i wr => ∃ j : Nat, i = .int .i64 (j : Int) ∧ j ≤ len ∧ Hid (fErr E j (L.drop j) = R) ∧ Hid (Below w.heap.size w wr ∧ wr.heap[w.heap.size]? = some (.cells #[.int .i64 0, .int .i64 0] 54 (0, 0)))) (fun i _ => len - (intOf i).toNat)
  case atStart => exact ⟨0, rfl, Nat.zero_le _, Lib.hid HR.out, Lib.hid ⟨HB0.out, HO0.out⟩⟩
  case round =>
    clear HB0 HO0
    obtain ⟨j, rfl, hj, HJ, HT⟩ := hrel
    by_cases hlt : j < len
    · have hI := HM.out.kept HT.out.1 (Nat.le_refl _)
      obtain rfl : a = some ⟨b, off, none⟩ := hI.addr.resolve_left (by omega)
      have hx : L[j]? = some (L[j]'(by rw [HL.out]; exact hlt)) := List.getElem?_eq_getElem _
      generalize L[j]'(by rw [HL.out]; exact hlt) = x at hx
      have c0 : wr.cell? ⟨b, off + j * 4, none⟩ = some (.string x.p.name) := hI.cell j x hx 0 _ rfl
      have c1 : wr.cell? ⟨b, off + j * 4 + 1, none⟩ = some (.int .i64 x.p.weight) := hI.cell j x hx 1 _ rfl
      have c2 : wr.cell? ⟨b, off + j * 4 + 2, none⟩ = some (x.vv) := hI.cell j x hx 2 _ rfl
      have c3 : wr.cell? ⟨b, off + j * 4 + 3, none⟩ = some (x.sv) := hI.cell j x hx 3 _ rfl
      have hji : (j : Int) < (len : Int) := by omega
      have hj0 : (0 : Int) ≤ (j : Int) := Int.natCast_nonneg j
      have HB1 : Hid (Below w.heap.size w (wr.alloc (.cells #[.string x.p.name, .int .i64 x.p.weight, x.vv, x.sv] 34))) := Lib.hid (HT.out.1.alloc HT.out.1.size _)
      have HO1 : Hid ((wr.alloc (.cells #[.string x.p.name, .int .i64 x.p.weight, x.vv, x.sv] 34)).heap[w.heap.size]? = some (.cells #[.int .i64 0, .int .i64 0] 54 (0, 0))) := Lib.hid (heap_alloc HT.out.2 _)
      have HC1 := Lib.hid (HF.out j x _ hx HB1.out)
      have HSt := Lib.hid (HJ.out.symm.trans (fErr_step hx))
      generalize E j x = ee at *
      clear hI hx
      unfold ProcV.vv ProcV.sv at *
      go_wp2_with fail
      refine HC1.out.mono ?_
      rintro e w2 ⟨rfl, hb2⟩
      have HB2 := Lib.hid (HB1.out.trans (hb2.mono HB1.out.size))
      have HO2 := Lib.hid (heap_below HO1.out hb2 (heap_lt HO1.out))
      clear hb2 HC1 HB1 HO1
      by_cases he : ee = 0
      · have heb : (ee != 0) = false := by simpa using he
        have HJ2 : Hid (fErr E (j + 1) (L.drop (j + 1)) = R) := Lib.hid (by rw [HSt.out, if_neg (by simpa using he)])
        clear he HSt
        go_wp2
        go_roundw
        case rel => exact ⟨j + 1, by go_num, by omega, HJ2, Lib.hid ⟨HB2.out, HO2.out⟩⟩
        case measure => simp [intOf]; omega
      · have heb : (ee != 0) = true := by simpa using he
        have HRe : Hid (R = (ee, j + 1)) := Lib.hid (by rw [HSt.out, if_pos he])
        have hE := Lib.hid he
        have c6 := heap_cell HO2.out (i := 0) rfl
        have c7 := heap_cell HO2.out (i := 1) rfl
        simp only [List.getElem_toArray, List.getElem_cons_zero, List.getElem_cons_succ] at c6 c7
        have f6 := heap_frozen HO2.out 0
        have f7 := heap_frozen HO2.out 1
        have ha1 : (ahead : Int) ≤ 100000 := by omega
        clear he HSt
        go_wp2
        refine bodyPost_ret (flt_ret rfl (heap_set (heap_set HO2.out 0 (.int .i64 ee)) 1 (.int .i64 ((ahead : Int) + (j : Int) + 1))) rfl) rfl ?_
        refine ⟨?_, ((HB2.out.setCell (p := ⟨w.heap.size, 0, none⟩) (Nat.le_refl _) _).setCell (p := ⟨w.heap.size, 1, none⟩) (Nat.le_refl _) _)⟩
        rw [HRe.out]
        unfold fltV
        simp only
        rw [if_neg hE.out, show ((ahead + (j + 1) : Nat) : Int) = (ahead : Int) + (j : Int) + 1 by omega]
    · obtain rfl : j = len := by omega
      have HRe : Hid (R = (0, 0)) := Lib.hid (by rw [← HJ.out, List.drop_of_length_le (by rw [HL.out]; exact Nat.le_refl _)]; rfl)
      have c6 := heap_cell HT.out.2 (i := 0) rfl
      have c7 := heap_cell HT.out.2 (i := 1) rfl
      simp only [List.getElem_toArray, List.getElem_cons_zero, List.getElem_cons_succ] at c6 c7
      have f6 := heap_frozen HT.out.2 0
      have f7 := heap_frozen HT.out.2 1
      go_wp2
      refine bodyPost_ret (flt_ret rfl (heap_set (heap_set HT.out.2 0 (.int .i64 0)) 1 (.int .i64 0)) rfl) rfl ?_
      exact ⟨by rw [HRe.out]; rfl, ((HT.out.1.setCell (p := ⟨w.heap.size, 0, none⟩) (Nat.le_refl _) _).setCell (p := ⟨w.heap.size, 1, none⟩) (Nat.le_refl _) _)⟩

set_option maxRecDepth 100000 in
set_option maxHeartbeats 2000000 in
theorem check_L {w : World} {a : Option Addr} {b off len cap : Nat} {L : List LinkM} (h : RowsAt encL fitL 5 w.heap.size w a b off len L) (ahead : Nat) (hah : ahead ≤ 100000) (hsm : len ≤ 100000) {gf : Nat} {bv : Value} {E : Nat → LinkM → Int}
    (hF : ∀ (k : Nat) (x : LinkM) (W : World), L[k]? = some x → Below w.heap.size w W → Calls Tryz.prog gf #[bv, .int .i64 (k : Int), .agg #[.string x.name, .string x.frm, .string x.to_, .int .i64 x.delay, .int .i64 x.weight]] W fun e w' => e = .returned (.int .i64 (E k x)) ∧ Below W.heap.size W w')
    (hcf : ∀ args w, (callFunc gf args).run Tryz.prog w = .ok (.enter gf args) w) :
    Calls Tryz.prog 64 #[.slice a len cap, .int .i64 (ahead : Int), .func (.func gf) #[bv] #[]] w fun e w' => e = .returned (fltV ahead (fErr E 0 L)) ∧ Below w.heap.size w w' := by
  have HM := Lib.hid h
  have HL := Lib.hid h.length
  have HF := Lib.hid hF
  have HB0 : Hid (Below w.heap.size w (w.alloc (.cells #[.int .i64 0, .int .i64 0] 54))) := Lib.hid (below_one w _)
  have HO0 : Hid ((w.alloc (.cells #[.int .i64 0, .int .i64 0] 54)).heap[w.heap.size]? = some (.cells #[.int .i64 0, .int .i64 0] 54 (0, 0))) := Lib.hid (heap_new _ rfl)
  obtain ⟨R, hR⟩ : ∃ R, fErr E 0 L = R := ⟨_, rfl⟩
  rw [hR]
  have HR := Lib.hid hR
  clear h hF hR
  go_enter Tryz.func64, Tryz.ntmps64
  go_wp2
  generalize w.alloc (.cells #[.int .i64 0, .int .i64 0] 54) = w0 at *
  go_loopw [12] (fun i wr => ∃ j : Nat, i = .int .i64 (j : Int) ∧ j ≤ len ∧ Hid (fErr E j (L.drop j) = R) ∧ Hid (Below w.heap.size w wr ∧ wr.heap[w.heap.size]? = some (.cells #[.int .i64 0, .int .i64 0] 54 (0, 0)))) (fun i _ => len - (intOf i).toNat)
  case atStart => exact ⟨0, rfl, Nat.zero_le _, Lib.hid HR.out, Lib.hid ⟨HB0.out, HO0.out⟩⟩
  case round =>
    clear HB0 HO0
    obtain ⟨j, rfl, hj, HJ, HT⟩ := hrel
    by_cases hlt : j < len
    · have hI := HM.out.kept HT.out.1 (Nat.le_refl _)
      obtain rfl : a = some ⟨b, off, none⟩ := hI.addr.resolve_left (by omega)
      have hx : L[j]? = some (L[j]'(by rw [HL.out]; exact hlt)) := List.getElem?_eq_getElem _
      generalize L[j]'(by rw [HL.out]; exact hlt) = x at hx
      have c0 : wr.cell? ⟨b, off + j * 5, none⟩ = some (.string x.name) := hI.cell j x hx 0 _ rfl
      have c1 : wr.cell? ⟨b, off + j * 5 + 1, none⟩ = some (.string x.frm) := hI.cell j x hx 1 _ rfl
      have c2 : wr.cell? ⟨b, off + j * 5 + 2, none⟩ = some (.string x.to_) := hI.cell j x hx 2 _ rfl
      have c3 : wr.cell? ⟨b, off + j * 5 + 3, none⟩ = some (.int .i64 x.delay) := hI.cell j x hx 3 _ rfl
      have c4 : wr.cell? ⟨b, off + j * 5 + 4, none⟩ = some (.int .i64 x.weight) := hI.cell j x hx 4 _ rfl
      have hji : (j : Int) < (len : Int) := by omega
      have hj0 : (0 : Int) ≤ (j : Int) := Int.natCast_nonneg j
      have HB1 : Hid (Below w.heap.size w (wr.alloc (.cells #[.string x.name, .string x.frm, .string x.to_, .int .i64 x.delay, .int .i64 x.weight] 42))) := Lib.hid (HT.out.1.alloc HT.out.1.size _)
      have HO1 : Hid ((wr.alloc (.cells #[.string x.name, .string x.frm, .string x.to_, .int .i64 x.delay, .int .i64 x.weight] 42)).heap[w.heap.size]? = some (.cells #[.int .i64 0, .int .i64 0] 54 (0, 0))) := Lib.hid (heap_alloc HT.out.2 _)
      have HC1 := Lib.hid (HF.out j x _ hx HB1.out)
      have HSt := Lib.hid (HJ.out.symm.trans (fErr_step hx))
      generalize E j x = ee at *
      clear hI hx
      go_wp2_with fail
      refine HC1.out.mono ?_
      rintro e w2 ⟨rfl, hb2⟩
      have HB2 := Lib.hid (HB1.out.trans (hb2.mono HB1.out.size))
      have HO2 := Lib.hid (heap_below HO1.out hb2 (heap_lt HO1.out))
      clear hb2 HC1 HB1 HO1
      by_cases he : ee = 0
      · have heb : (ee != 0) = false := by simpa using he
        have HJ2 : Hid (fErr E (j + 1) (L.drop (j + 1)) = R) := Lib.hid (by rw [HSt.out, if_neg (by simpa using he)])
        clear he HSt
        go_wp2
        go_roundw
        case rel => exact ⟨j + 1, by go_num, by omega, HJ2, Lib.hid ⟨HB2.out, HO2.out⟩⟩
        case measure => simp [intOf]; omega
      · have heb : (ee != 0) = true := by simpa using he
        have HRe : Hid (R = (ee, j + 1)) := Lib.hid (by rw [HSt.out, if_pos he])
        have hE := Lib.hid he
        have c6 := heap_cell HO2.out (i := 0) rfl
        have c7 := heap_cell HO2.out (i := 1) rfl
        simp only [List.getElem_toArray, List.getElem_cons_zero, List.getElem_cons_succ] at c6 c7
        have f6 := heap_frozen HO2.out 0
        have f7 := heap_frozen HO2.out 1
        have ha1 : (ahead : Int) ≤ 100000 := by omega
        clear he HSt
        go_wp2
        refine bodyPost_ret (flt_ret rfl (heap_set (heap_set HO2.out 0 (.int .i64 ee)) 1 (.int .i64 ((ahead : Int) + (j : Int) + 1))) rfl) rfl ?_
        refine ⟨?_, ((HB2.out.setCell (p := ⟨w.heap.size, 0, none⟩) (Nat.le_refl _) _).setCell (p := ⟨w.heap.size, 1, none⟩) (Nat.le_refl _) _)⟩
        rw [HRe.out]
        unfold fltV
        simp only
        rw [if_neg hE.out, show ((ahead + (j + 1) : Nat) : Int) = (ahead : Int) + (j : Int) + 1 by omega]
    · obtain rfl : j = len := by omega
      have HRe : Hid (R = (0, 0)) := Lib.hid (by rw [← HJ.out, List.drop_of_length_le (by rw [HL.out]; exact Nat.le_refl _)]; rfl)
      have c6 := heap_cell HT.out.2 (i := 0) rfl
      have c7 := heap_cell HT.out.2 (i := 1) rfl
      simp only [List.getElem_toArray, List.getElem_cons_zero, List.getElem_cons_succ] at c6 c7
      have f6 := heap_frozen HT.out.2 0
      have f7 := heap_frozen HT.out.2 1
      go_wp2
      refine bodyPost_ret (flt_ret rfl (heap_set (heap_set HT.out.2 0 (.int .i64 0)) 1 (.int .i64 0)) rfl) rfl ?_
      exact ⟨by rw [HRe.out]; rfl, ((HT.out.1.setCell (p := ⟨w.heap.size, 0, none⟩) (Nat.le_refl _) _).setCell (p := ⟨w.heap.size, 1, none⟩) (Nat.le_refl _) _)⟩

set_option maxRecDepth 100000 in
set_option maxHeartbeats 2000000 in
theorem check_E {w : World} {a : Option Addr} {b off len cap : Nat} {L : List EventM} (h : RowsAt encE fitE 3 w.heap.size w a b off len L) (ahead : Nat) (hah : ahead ≤ 100000) (hsm : len ≤ 100000) {gf : Nat} {bv : Value} {E : Nat → EventM → Int}
    (hF : ∀ (k : Nat) (x : EventM) (W : World), L[k]? = some x → Below w.heap.size w W → Calls Tryz.prog gf #[bv, .int .i64 (k : Int), .agg #[.string x.to_, .int .i64 x.at_, .int .i64 x.val]] W fun e w' => e = .returned (.int .i64 (E k x)) ∧ Below W.heap.size W w')
    (hcf : ∀ args w, (callFunc gf args).run Tryz.prog w = .ok (.enter gf args) w) :
    Calls Tryz.prog 66 #[.slice a len cap, .int .i64 (ahead : Int), .func (.func gf) #[bv] #[]] w fun e w' => e = .returned (fltV ahead (fErr E 0 L)) ∧ Below w.heap.size w w' := by
  have HM := Lib.hid h
  have HL := Lib.hid h.length
  have HF := Lib.hid hF
  have HB0 : Hid (Below w.heap.size w (w.alloc (.cells #[.int .i64 0, .int .i64 0] 54))) := Lib.hid (below_one w _)
  have HO0 : Hid ((w.alloc (.cells #[.int .i64 0, .int .i64 0] 54)).heap[w.heap.size]? = some (.cells #[.int .i64 0, .int .i64 0] 54 (0, 0))) := Lib.hid (heap_new _ rfl)
  obtain ⟨R, hR⟩ : ∃ R, fErr E 0 L = R := ⟨_, rfl⟩
  rw [hR]
  have HR := Lib.hid hR
  clear h hF hR
  go_enter Tryz.func66, Tryz.ntmps66
  go_wp2
  generalize w.alloc (.cells #[.int .i64 0, .int .i64 0] 54) = w0 at *
  go_loopw [12] (fun i wr => ∃ j : Nat, i = .int .i64 (j : Int) ∧ j ≤ len ∧ Hid (fErr E j (L.drop j) = R) ∧ Hid (Below w.heap.size w wr ∧ wr.heap[w.heap.size]? = some (.cells #[.int .i64 0, .int .i64 0] 54 (0, 0)))) (fun i _ => len - (intOf i).toNat)
  case atStart => exact ⟨0, rfl, Nat.zero_le _, Lib.hid HR.out, Lib.hid ⟨HB0.out, HO0.out⟩⟩
  case round =>
    clear HB0 HO0
    obtain ⟨j, rfl, hj, HJ, HT⟩ := hrel
    by_cases hlt : j < len
    · have hI := HM.out.kept HT.out.1 (Nat.le_refl _)
      obtain rfl : a = some ⟨b, off, none⟩ := hI.addr.resolve_left (by omega)
      have hx : L[j]? = some (L[j]'(by rw [HL.out]; exact hlt)) := List.getElem?_eq_getElem _
      generalize L[j]'(by rw [HL.out]; exact hlt) = x at hx
      have c0 : wr.cell? ⟨b, off + j * 3, none⟩ = some (.string x.to_) := hI.cell j x hx 0 _ rfl
      have c1 : wr.cell? ⟨b, off + j * 3 + 1, none⟩ = some (.int .i64 x.at_) := hI.cell j x hx 1 _ rfl
      have c2 : wr.cell? ⟨b, off + j * 3 + 2, none⟩ = some (.int .i64 x.val) := hI.cell j x hx 2 _ rfl
      have hji : (j : Int) < (len : Int) := by omega
      have hj0 : (0 : Int) ≤ (j : Int) := Int.natCast_nonneg j
      have HB1 : Hid (Below w.heap.size w (wr.alloc (.cells #[.string x.to_, .int .i64 x.at_, .int .i64 x.val] 57))) := Lib.hid (HT.out.1.alloc HT.out.1.size _)
      have HO1 : Hid ((wr.alloc (.cells #[.string x.to_, .int .i64 x.at_, .int .i64 x.val] 57)).heap[w.heap.size]? = some (.cells #[.int .i64 0, .int .i64 0] 54 (0, 0))) := Lib.hid (heap_alloc HT.out.2 _)
      have HC1 := Lib.hid (HF.out j x _ hx HB1.out)
      have HSt := Lib.hid (HJ.out.symm.trans (fErr_step hx))
      generalize E j x = ee at *
      clear hI hx
      go_wp2_with fail
      refine HC1.out.mono ?_
      rintro e w2 ⟨rfl, hb2⟩
      have HB2 := Lib.hid (HB1.out.trans (hb2.mono HB1.out.size))
      have HO2 := Lib.hid (heap_below HO1.out hb2 (heap_lt HO1.out))
      clear hb2 HC1 HB1 HO1
      by_cases he : ee = 0
      · have heb : (ee != 0) = false := by simpa using he
        have HJ2 : Hid (fErr E (j + 1) (L.drop (j + 1)) = R) := Lib.hid (by rw [HSt.out, if_neg (by simpa using he)])
        clear he HSt
        go_wp2
        go_roundw
        case rel => exact ⟨j + 1, by go_num, by omega, HJ2, Lib.hid ⟨HB2.out, HO2.out⟩⟩
        case measure => simp [intOf]; omega
      · have heb : (ee != 0) = true := by simpa using he
        have HRe : Hid (R = (ee, j + 1)) := Lib.hid (by rw [HSt.out, if_pos he])
        have hE := Lib.hid he
        have c6 := heap_cell HO2.out (i := 0) rfl
        have c7 := heap_cell HO2.out (i := 1) rfl
        simp only [List.getElem_toArray, List.getElem_cons_zero, List.getElem_cons_succ] at c6 c7
        have f6 := heap_frozen HO2.out 0
        have f7 := heap_frozen HO2.out 1
        have ha1 : (ahead : Int) ≤ 100000 := by omega
        clear he HSt
        go_wp2
        refine bodyPost_ret (flt_ret rfl (heap_set (heap_set HO2.out 0 (.int .i64 ee)) 1 (.int .i64 ((ahead : Int) + (j : Int) + 1))) rfl) rfl ?_
        refine ⟨?_, ((HB2.out.setCell (p := ⟨w.heap.size, 0, none⟩) (Nat.le_refl _) _).setCell (p := ⟨w.heap.size, 1, none⟩) (Nat.le_refl _) _)⟩
        rw [HRe.out]
        unfold fltV
        simp only
        rw [if_neg hE.out, show ((ahead + (j + 1) : Nat) : Int) = (ahead : Int) + (j : Int) + 1 by omega]
    · obtain rfl : j = len := by omega
      have HRe : Hid (R = (0, 0)) := Lib.hid (by rw [← HJ.out, List.drop_of_length_le (by rw [HL.out]; exact Nat.le_refl _)]; rfl)
      have c6 := heap_cell HT.out.2 (i := 0) rfl
      have c7 := heap_cell HT.out.2 (i := 1) rfl
      simp only [List.getElem_toArray, List.getElem_cons_zero, List.getElem_cons_succ] at c6 c7
      have f6 := heap_frozen HT.out.2 0
      have f7 := heap_frozen HT.out.2 1
      go_wp2
      refine bodyPost_ret (flt_ret rfl (heap_set (heap_set HT.out.2 0 (.int .i64 0)) 1 (.int .i64 0)) rfl) rfl ?_
      exact ⟨by rw [HRe.out]; rfl, ((HT.out.1.setCell (p := ⟨w.heap.size, 0, none⟩) (Nat.le_refl _) _).setCell (p := ⟨w.heap.size, 1, none⟩) (Nat.le_refl _) _)⟩

end Go.Proofs.YtjcmeacgfflfmaaGreat.Md

namespace Go.Proofs.YtjcmeacgfflfmaaGreat.Md
open Go.RowKit Go.Shelf

theorem row_thru {W0 W W' : World} {cs : Array Value} {t : TypeId} (hX : W.heap = (W0.alloc (.cells cs t)).heap) (hb : Below W.heap.size W W') : W'.heap[W0.heap.size]? = some (.cells cs t (0, 0)) :=
  heap_below (by rw [hX]; exact heap_new _ rfl) hb (by rw [hX]; simp)
theorem field0 (a b : Int) (W : World) : (Instr.field 54 (.agg #[.int .i64 a, .int .i64 b]) 0).run Tryz.prog W = .ok (.int .i64 a) W := by kernel_rfl
def vNames (p : ProcM) : List ByteArray := p.vars.map (fun x => x.name)
def inE (links : List LinkM) (p : ProcM) : Int :=
  if (fErr (varE (fstP (vNames p))) 0 p.vars).1 = 0 then (fErr (fun _ s => stE links p.name (fstP (vNames p)) s) 0 p.steps).1 else (fErr (varE (fstP (vNames p))) 0 p.vars).1
/-- What is wrong with a process. -/
def prE (ver : Int) (links : List LinkM) (pf : ByteArray → Option Nat) (k : Nat) (p : ProcM) : Int :=
  if nmE pf p.name k ≠ 0 then nmE pf p.name k else if wgtB ver p.weight then if decide (64 < p.vars.length) || decide (256 < p.steps.length) then 3 else inE links p else 41
/-- What a model's checks hold of its memory. -/
structure Wh (w : World) (x : ModelV) (mp ml : Nat) : Prop where
  at_ : ModelAt w.heap.size w x
  mp_ : PlM w mp (fstP (x.procs.map (fun y => y.p.name)))
  ml_ : PlM w ml (fstP (x.links.map (fun y => y.name)))
theorem Wh.on {w w' : World} {x : ModelV} {mp ml : Nat} (h : Wh w x mp ml) (hb : Below w.heap.size w w') : Wh w' x mp ml := ⟨h.at_.on hb, h.mp_.below hb, h.ml_.below hb⟩
set_option maxRecDepth 100000 in
set_option maxHeartbeats 4000000 in
theorem proc_any {w : World} {x : ModelV} {mp ml : Nat} (h : Wh w x mp ml) (k : Nat) {p : ProcV} (hp : ProcIn w.heap.size w p) (hfit : fitP p) :
    Calls Tryz.prog 63 #[wholeVal x mp ml, .int .i64 (k : Int), .agg #[.string p.p.name, .int .i64 p.p.weight, p.vv, p.sv]] w fun e w' => e = .returned (.int .i64 (prE x.ver x.links (fstP (x.procs.map (fun y => y.p.name))) k p.p)) ∧ Below w.heap.size w w' := by
  have HA : Hid (prE x.ver x.links (fstP (x.procs.map (fun y => y.p.name))) k p.p = if nmE (fstP (x.procs.map (fun y => y.p.name))) p.p.name k ≠ 0 then nmE (fstP (x.procs.map (fun y => y.p.name))) p.p.name k else if wgtB x.ver p.p.weight then if decide (64 < p.p.vars.length) || decide (256 < p.p.steps.length) then 3 else inE x.links p.p else 41) := Lib.hid rfl
  have hb1 := (below_one w (.cells #[.int .i64 x.ver, .slice x.pa x.procs.length x.pc, .slice x.la x.links.length x.lc, .slice x.ea x.events.length x.ec, .map (some mp), .map (some ml)] 101))
  have hb2 := hb1.alloc hb1.size (.cells #[.string p.p.name, .int .i64 p.p.weight, .slice p.va p.p.vars.length p.vc, .slice p.sa p.p.steps.length p.sc] 34)
  have HO1 : Hid (((w.alloc (.cells #[.int .i64 x.ver, .slice x.pa x.procs.length x.pc, .slice x.la x.links.length x.lc, .slice x.ea x.events.length x.ec, .map (some mp), .map (some ml)] 101)).alloc (.cells #[.string p.p.name, .int .i64 p.p.weight, .slice p.va p.p.vars.length p.vc, .slice p.sa p.p.steps.length p.sc] 34)).heap[w.heap.size]? = some (.cells #[.int .i64 x.ver, .slice x.pa x.procs.length x.pc, .slice x.la x.links.length x.lc, .slice x.ea x.events.length x.ec, .map (some mp), .map (some ml)] 101 (0, 0))) := Lib.hid (heap_alloc (heap_new _ rfl) _)
  have HO2 : Hid (((w.alloc (.cells #[.int .i64 x.ver, .slice x.pa x.procs.length x.pc, .slice x.la x.links.length x.lc, .slice x.ea x.events.length x.ec, .map (some mp), .map (some ml)] 101)).alloc (.cells #[.string p.p.name, .int .i64 p.p.weight, .slice p.va p.p.vars.length p.vc, .slice p.sa p.p.steps.length p.sc] 34)).heap[w.heap.size + 1]? = some (.cells #[.string p.p.name, .int .i64 p.p.weight, .slice p.va p.p.vars.length p.vc, .slice p.sa p.p.steps.length p.sc] 34 (0, 0))) := Lib.hid (heap_new _ (by simp))
  have HB := Lib.hid hb2
  have HW := Lib.hid (h.on hb2)
  have HP := Lib.hid (hp.on hb2)
  have HC := Lib.hid (checkName_any (h.mp_.below hb2) hfit k)
  have HG : Hid (∀ W, Calls Tryz.prog 97 #[wholeVal x mp ml, .int .i64 p.p.weight] W fun e w' => e = .returned (.bool (wgtB x.ver p.p.weight)) ∧ Below W.heap.size W w') := Lib.hid (fun W => weighs_any x mp ml p.p.weight W)
  have HVn : Hid (vNames p.p = p.p.vars.map (fun x => x.name)) := Lib.hid rfl
  have HIn : Hid (inE x.links p.p = if (fErr (varE (fstP (vNames p.p))) 0 p.p.vars).1 = 0 then (fErr (fun _ s => stE x.links p.p.name (fstP (vNames p.p)) s) 0 p.p.steps).1 else (fErr (varE (fstP (vNames p.p))) 0 p.p.vars).1) := Lib.hid rfl
  clear h hp hb1 hb2
  unfold wholeVal ProcV.vv ProcV.sv ModelV.pv ModelV.lv ModelV.ev at *
  generalize prE x.ver x.links (fstP (x.procs.map (fun y => y.p.name))) k p.p = r at *
  generalize nmE (fstP (x.procs.map (fun y => y.p.name))) p.p.name k = c at *
  generalize wgtB x.ver p.p.weight = gb at *
  generalize inE x.links p.p = ie at *
  go_enter Tryz.func63, Tryz.ntmps63
  by_cases hc : c = 0
  · have hcb : (c != 0) = false := by simpa using hc
    cases gb with
    | false =>
      have HR : Hid (r = 41) := Lib.hid (by rw [HA.out, if_neg (by simpa using hc)]; rfl)
      clear hc HA
      go_wp2_with fail
      refine HC.out.mono ?_
      rintro e w3 ⟨rfl, rfl⟩
      go_wp2_with fail
      refine (HG.out _).mono ?_
      rintro e w4 ⟨rfl, hb⟩
      have HB4 := Lib.hid (HB.out.trans (hb.mono HB.out.size))
      clear hb
      go_wp2
      go_ret
      exact ⟨by rw [HR.out]; rfl, HB4.out⟩
    | true =>
      by_cases hv : 64 < p.p.vars.length
      · have hvb : decide (64 < (p.p.vars.length : Int)) = true := by simp; omega
        have HR : Hid (r = 3) := Lib.hid (by rw [HA.out, if_neg (by simpa using hc), if_pos rfl, decide_eq_true hv]; rfl)
        clear hc HA
        go_wp2_with fail
        refine HC.out.mono ?_
        rintro e w3 ⟨rfl, rfl⟩
        go_wp2_with fail
        refine (HG.out _).mono ?_
        rintro e w4 ⟨rfl, hb⟩
        have HB4 := Lib.hid (HB.out.trans (hb.mono HB.out.size))
        have c4 := heap_cell (heap_below HO2.out hb (heap_lt HO2.out)) (i := 2) rfl
        simp only [List.getElem_toArray, List.getElem_cons_zero, List.getElem_cons_succ] at c4
        clear hb
        go_wp2
        go_ret
        exact ⟨by rw [HR.out]; rfl, HB4.out⟩
      · have hvb : decide (64 < (p.p.vars.length : Int)) = false := by simp; omega
        by_cases hs : 256 < p.p.steps.length
        · have hsb : decide (256 < (p.p.steps.length : Int)) = true := by simp; omega
          have HR : Hid (r = 3) := Lib.hid (by rw [HA.out, if_neg (by simpa using hc), if_pos rfl, decide_eq_true hs, Bool.or_true]; rfl)
          clear hc HA
          go_wp2_with fail
          refine HC.out.mono ?_
          rintro e w3 ⟨rfl, rfl⟩
          go_wp2_with fail
          refine (HG.out _).mono ?_
          rintro e w4 ⟨rfl, hb⟩
          have HB4 := Lib.hid (HB.out.trans (hb.mono HB.out.size))
          have c4 := heap_cell (heap_below HO2.out hb (heap_lt HO2.out)) (i := 2) rfl
          have c5 := heap_cell (heap_below HO2.out hb (heap_lt HO2.out)) (i := 3) rfl
          simp only [List.getElem_toArray, List.getElem_cons_zero, List.getElem_cons_succ] at c4 c5
          clear hb
          go_wp2
          go_ret
          exact ⟨by rw [HR.out]; rfl, HB4.out⟩
        · have hsb : decide (256 < (p.p.steps.length : Int)) = false := by simp; omega
          have HR : Hid (r = ie) := Lib.hid (by rw [HA.out, if_neg (by simpa using hc), if_pos rfl, decide_eq_false hv, decide_eq_false hs]; rfl)
          clear hc HA
          go_wp2_with fail
          refine HC.out.mono ?_
          rintro e w3 ⟨rfl, rfl⟩
          go_wp2_with fail
          refine (HG.out _).mono ?_
          rintro e w4 ⟨rfl, hb⟩
          have HB4 := Lib.hid (HB.out.trans (hb.mono HB.out.size))
          have HW4 := Lib.hid (HW.out.on hb)
          have HP4 := Lib.hid (HP.out.on hb)
          have HO14 := Lib.hid (heap_below HO1.out hb (heap_lt HO1.out))
          have HO24 := Lib.hid (heap_below HO2.out hb (heap_lt HO2.out))
          have c4 := heap_cell HO24.out (i := 2) rfl
          have c5 := heap_cell HO24.out (i := 3) rfl
          simp only [List.getElem_toArray, List.getElem_cons_zero, List.getElem_cons_succ] at c4 c5
          clear hb HO1 HO2 HB HW HP HC HG
          have HPl : Hid (∀ W, Below w4.heap.size w4 W → Calls Tryz.prog 98 #[.slice p.va p.p.vars.length p.vc, .func (.func 99) #[] #[]] W (PlacesPost (vNames p.p) W)) := Lib.hid (fun W hW => places_V (HP4.out.on hW).vars)
          obtain ⟨A, hA⟩ : ∃ A, w.heap.size = A := ⟨_, rfl⟩
          have HAe := Lib.hid hA
          rw [hA] at HO14 HO24 c4 c5
          go_upto_region 8 with fail
          clear hA c4 c5
          have hc1 : ∀ (i : Nat) (u : Value), (#[.int .i64 x.ver, .slice x.pa x.procs.length x.pc, .slice x.la x.links.length x.lc, .slice x.ea x.events.length x.ec, .map (some mp), .map (some ml)] : Array Value)[i]? = some u → ∀ W, Below w4.heap.size w4 W → W.cell? ⟨A, i, none⟩ = some u := fun i u hu W hW => heap_cell (heap_below HO14.out hW (heap_lt HO14.out)) hu
          have hc2 : ∀ (i : Nat) (u : Value), (#[.string p.p.name, .int .i64 p.p.weight, .slice p.va p.p.vars.length p.vc, .slice p.sa p.p.steps.length p.sc] : Array Value)[i]? = some u → ∀ W, Below w4.heap.size w4 W → W.cell? ⟨A + 1, i, none⟩ = some u := fun i u hu W hW => heap_cell (heap_below HO24.out hW (heap_lt HO24.out)) hu
          have HC1 := Lib.hid hc1
          have HC2 := Lib.hid hc2
          clear hc1 hc2
          go_cut [8] from 33 to 39 (fun s8 wx => ∃ (N mv : Nat), s8 = .pointer (some ⟨N, 0, none⟩) ∧ Hid (Below w4.heap.size w4 wx ∧ wx.heap[N]? = some (.cells #[.int .i64 x.ver, .slice x.pa x.procs.length x.pc, .slice x.la x.links.length x.lc, .slice x.ea x.events.length x.ec, .map (some mp), .map (some ml), .string p.p.name, .map (some mv)] 145 (0, 0)) ∧ PlM wx mv (fstP (vNames p.p))))
          case first =>
            have hd : Below w4.heap.size w4 w4.drew := (Below.refl _ _).drew
            refine (wpIn_wide (n := 3)).1 ?_
            refine region_T_calm (fun X => Below w4.heap.size w4 X) (fun _ => true) rfl (by kernel_rfl) ?_
            change AnyT _ _ _ _ _ _ _ _ 9 _ _ (World.drew _)
            refine AnyT.take (i := 0) (v := .agg #[.int .i64 x.ver, .slice x.pa x.procs.length x.pc, .slice x.la x.links.length x.lc, .slice x.ea x.events.length x.ec, .map (some mp), .map (some ml)]) rfl rfl (by kernel_rfl) (by kernel_rfl) (by kernel_rfl) (by kernel_rfl) (by kernel_rfl) (fun _ _ _ h => h) (by kernel_rfl) (fun X hX => by have c0 := HC1.out 0 _ rfl X hX; have c1 := HC1.out 1 _ rfl X hX; have c2 := HC1.out 2 _ rfl X hX; have c3 := HC1.out 3 _ rfl X hX; have c4 := HC1.out 4 _ rfl X hX; have c5 := HC1.out 5 _ rfl X hX; simp only [List.getElem_toArray, List.getElem_cons_zero, List.getElem_cons_succ] at c0 c1 c2 c3 c4 c5; go_simp) (fun _ => rfl) hd ?_
            try simp only [List.getElem_toArray, List.getElem_cons_zero, List.getElem_cons_succ, Act.put, List.setIfInBounds_toArray, List.set_cons_zero, List.set_cons_succ]
            refine AnyT.take (i := 1) (v := .pointer (some ⟨A + 1, 0, none⟩)) rfl rfl (by kernel_rfl) (by kernel_rfl) (by kernel_rfl) (by kernel_rfl) (by kernel_rfl) (fun _ _ _ h => h) (by kernel_rfl) (fun X hX => by go_simp) (fun _ => rfl) hd ?_
            try simp only [List.getElem_toArray, List.getElem_cons_zero, List.getElem_cons_succ, Act.put, List.setIfInBounds_toArray, List.set_cons_zero, List.set_cons_succ]
            refine AnyT.take (i := 2) (v := .string p.p.name) rfl rfl (by kernel_rfl) (by kernel_rfl) (by kernel_rfl) (by kernel_rfl) (by kernel_rfl) (fun _ _ _ h => h) (by kernel_rfl) (fun X hX => by have c0 := HC2.out 0 _ rfl X hX; simp only [List.getElem_toArray, List.getElem_cons_zero, List.getElem_cons_succ] at c0; go_simp) (fun _ => rfl) hd ?_
            try simp only [List.getElem_toArray, List.getElem_cons_zero, List.getElem_cons_succ, Act.put, List.setIfInBounds_toArray, List.set_cons_zero, List.set_cons_succ]
            refine AnyT.take (i := 3) (v := .pointer (some ⟨A + 1, 2, none⟩)) rfl rfl (by kernel_rfl) (by kernel_rfl) (by kernel_rfl) (by kernel_rfl) (by kernel_rfl) (fun _ _ _ h => h) (by kernel_rfl) (fun X hX => by go_simp) (fun _ => rfl) hd ?_
            try simp only [List.getElem_toArray, List.getElem_cons_zero, List.getElem_cons_succ, Act.put, List.setIfInBounds_toArray, List.set_cons_zero, List.set_cons_succ]
            refine AnyT.take (i := 4) (v := .slice p.va p.p.vars.length p.vc) rfl rfl (by kernel_rfl) (by kernel_rfl) (by kernel_rfl) (by kernel_rfl) (by kernel_rfl) (fun _ _ _ h => h) (by kernel_rfl) (fun X hX => by have c0 := HC2.out 2 _ rfl X hX; simp only [List.getElem_toArray, List.getElem_cons_zero, List.getElem_cons_succ] at c0; go_simp) (fun _ => rfl) hd ?_
            try simp only [List.getElem_toArray, List.getElem_cons_zero, List.getElem_cons_succ, Act.put, List.setIfInBounds_toArray, List.set_cons_zero, List.set_cons_succ]
            refine AnyT.ready (rs := [5, 7]) (by kernel_rfl) (by simp) ?_
            refine ReadyT.cons rfl (fun K hK => ?_) ?_
            · go_simp
              refine ⟨trivial, (callsIn_wide.2 (HPl.out _ hd)).mono ?_⟩
              rintro e w5 ⟨mv, rfl, HM5, hge, HB5⟩
              have hS5 : Below w4.heap.size w4 w5 := hd.trans (HB5.out.mono (Nat.le_refl _))
              have hz5 := hS5.size
              have hS6 : Below w4.heap.size w4 (w5.alloc (.cells #[.int .i64 0, .slice none 0 0, .slice none 0 0, .slice none 0 0, .map none, .map none, .string ⟨#[]⟩, .map none] 145)) := hS5.alloc hz5 _
              refine hK _ _ (fun _ => hS5) ?_
              clear hK K
              try simp only [List.getElem_toArray, List.getElem_cons_zero, List.getElem_cons_succ, Act.put, List.setIfInBounds_toArray, List.set_cons_zero, List.set_cons_succ]
              refine AnyT.take (i := 6) (v := .agg #[.int .i64 x.ver, .slice x.pa x.procs.length x.pc, .slice x.la x.links.length x.lc, .slice x.ea x.events.length x.ec, .map (some mp), .map (some ml), .string p.p.name, .map (some mv)]) rfl rfl (by kernel_rfl) (by kernel_rfl) (by kernel_rfl) (by kernel_rfl) (by kernel_rfl) (fun _ _ _ h => h) (by kernel_rfl) (fun X hX => by go_simp) (fun _ => rfl) hS5 ?_
              try simp only [List.getElem_toArray, List.getElem_cons_zero, List.getElem_cons_succ, Act.put, List.setIfInBounds_toArray, List.set_cons_zero, List.set_cons_succ]
              refine AnyT.ready (rs := [7]) (by kernel_rfl) (by simp) (ReadyT.cons rfl (fun K hK => ?_) ReadyT.nil)
              go_simp
              refine hK _ _ (fun _ => hS6) ?_
              clear hK K
              try simp only [List.getElem_toArray, List.getElem_cons_zero, List.getElem_cons_succ, Act.put, List.setIfInBounds_toArray, List.set_cons_zero, List.set_cons_succ]
              refine AnyT.ready (rs := [8]) (by kernel_rfl) (by simp) (ReadyT.cons rfl (fun K hK => ?_) ReadyT.nil)
              refine stepIn_store_row rfl 145 _ _ rfl w5.heap.size #[.int .i64 x.ver, .slice x.pa x.procs.length x.pc, .slice x.la x.links.length x.lc, .slice x.ea x.events.length x.ec, .map (some mp), .map (some ml), .string p.p.name, .map (some mv)] rfl rfl 145 _ (heap_new (w := w5) _ rfl) (by kernel_rfl) rfl (by kernel_rfl) ?_
              have hg := grown_setRow (w5.alloc (.cells #[.int .i64 0, .slice none 0 0, .slice none 0 0, .slice none 0 0, .map none, .map none, .string ⟨#[]⟩, .map none] 145)) w5.heap.size #[.int .i64 x.ver, .slice x.pa x.procs.length x.pc, .slice x.la x.links.length x.lc, .slice x.ea x.events.length x.ec, .map (some mp), .map (some ml), .string p.p.name, .map (some mv)]
              have hS7 := hS6.grown hg hS6.size (fun r e => by cases e; exact hz5)
              refine hK _ _ (fun _ => hS7) ?_
              clear hK K
              try simp only [List.getElem_toArray, List.getElem_cons_zero, List.getElem_cons_succ, Act.put, List.setIfInBounds_toArray, List.set_cons_zero, List.set_cons_succ]
              refine AnyT.done (by kernel_rfl) (noPan_normal ?_) _
              go_wp2
              go_meet
              exact ⟨_, mv, rfl, Lib.hid ⟨hS7, setRow_heap _ _ _ _ _ _ (heap_new (w := w5) _ rfl), _, MapS.kept (MapS.below HM5.out ((Below.refl _ w5).alloc (Nat.le_refl _) _) HM5.out.lt) hg (fun e => by cases e; exact absurd HM5.out.lt (Nat.lt_irrefl _))⟩⟩
            · refine ReadyT.cons rfl (fun K hK => ?_) ReadyT.nil
              go_simp
              have hS3 : Below w4.heap.size w4 (w4.alloc (.cells #[.int .i64 0, .slice none 0 0, .slice none 0 0, .slice none 0 0, .map none, .map none, .string ⟨#[]⟩, .map none] 145)).drew := ((Below.refl _ _).alloc (Nat.le_refl _) _).drew
              refine hK _ _ (fun _ => hS3) ?_
              clear hK K
              try simp only [List.getElem_toArray, List.getElem_cons_zero, List.getElem_cons_succ, Act.put, List.setIfInBounds_toArray, List.set_cons_zero, List.set_cons_succ]
              refine AnyT.ready (rs := [5]) (by kernel_rfl) (by simp) (ReadyT.cons rfl (fun K hK => ?_) ReadyT.nil)
              go_simp
              refine ⟨trivial, (callsIn_wide.2 (HPl.out _ hS3)).mono ?_⟩
              rintro e w5 ⟨mv, rfl, HM5, hge, HB5⟩
              have hS5 : Below w4.heap.size w4 w5 := hS3.trans (HB5.out.mono hS3.size)
              have hz5 := hS5.size
              have hb5 := HB5.out
              have hlt4 : w4.heap.size < (w4.alloc (.cells #[.int .i64 0, .slice none 0 0, .slice none 0 0, .slice none 0 0, .map none, .map none, .string ⟨#[]⟩, .map none] 145)).drew.heap.size := heap_lt (show (w4.alloc (.cells #[.int .i64 0, .slice none 0 0, .slice none 0 0, .slice none 0 0, .map none, .map none, .string ⟨#[]⟩, .map none] 145)).drew.heap[w4.heap.size]? = some (.cells #[.int .i64 0, .slice none 0 0, .slice none 0 0, .slice none 0 0, .map none, .map none, .string ⟨#[]⟩, .map none] 145 (0, 0)) from heap_new (w := w4) _ rfl)
              have HNA : w5.heap[w4.heap.size]? = some (.cells #[.int .i64 0, .slice none 0 0, .slice none 0 0, .slice none 0 0, .map none, .map none, .string ⟨#[]⟩, .map none] 145 (0, 0)) := heap_below (show (w4.alloc (.cells #[.int .i64 0, .slice none 0 0, .slice none 0 0, .slice none 0 0, .map none, .map none, .string ⟨#[]⟩, .map none] 145)).drew.heap[w4.heap.size]? = some (.cells #[.int .i64 0, .slice none 0 0, .slice none 0 0, .slice none 0 0, .map none, .map none, .string ⟨#[]⟩, .map none] 145 (0, 0)) from heap_new (w := w4) _ rfl) hb5 hlt4
              refine hK _ _ (fun _ => hS5) ?_
              clear hK K
              try simp only [List.getElem_toArray, List.getElem_cons_zero, List.getElem_cons_succ, Act.put, List.setIfInBounds_toArray, List.set_cons_zero, List.set_cons_succ]
              refine AnyT.take (i := 6) (v := .agg #[.int .i64 x.ver, .slice x.pa x.procs.length x.pc, .slice x.la x.links.length x.lc, .slice x.ea x.events.length x.ec, .map (some mp), .map (some ml), .string p.p.name, .map (some mv)]) rfl rfl (by kernel_rfl) (by kernel_rfl) (by kernel_rfl) (by kernel_rfl) (by kernel_rfl) (fun _ _ _ h => h) (by kernel_rfl) (fun X hX => by go_simp) (fun _ => rfl) hS5 ?_
              try simp only [List.getElem_toArray, List.getElem_cons_zero, List.getElem_cons_succ, Act.put, List.setIfInBounds_toArray, List.set_cons_zero, List.set_cons_succ]
              refine AnyT.ready (rs := [8]) (by kernel_rfl) (by simp) (ReadyT.cons rfl (fun K hK => ?_) ReadyT.nil)
              refine stepIn_store_row rfl 145 _ _ rfl w4.heap.size #[.int .i64 x.ver, .slice x.pa x.procs.length x.pc, .slice x.la x.links.length x.lc, .slice x.ea x.events.length x.ec, .map (some mp), .map (some ml), .string p.p.name, .map (some mv)] rfl rfl 145 _ HNA (by kernel_rfl) rfl (by kernel_rfl) ?_
              have hg := grown_setRow w5 w4.heap.size #[.int .i64 x.ver, .slice x.pa x.procs.length x.pc, .slice x.la x.links.length x.lc, .slice x.ea x.events.length x.ec, .map (some mp), .map (some ml), .string p.p.name, .map (some mv)]
              have hS7 := hS5.grown hg hS5.size (fun r e => by cases e; exact Nat.le_refl _)
              refine hK _ _ (fun _ => hS7) ?_
              clear hK K
              try simp only [List.getElem_toArray, List.getElem_cons_zero, List.getElem_cons_succ, Act.put, List.setIfInBounds_toArray, List.set_cons_zero, List.set_cons_succ]
              refine AnyT.done (by kernel_rfl) (noPan_normal ?_) _
              go_wp2
              go_meet
              exact ⟨_, mv, rfl, Lib.hid ⟨hS7, setRow_heap _ _ _ _ _ _ HNA, _, MapS.kept HM5.out hg (fun e => by cases e; omega)⟩⟩
          case rest =>
            obtain ⟨N, mv, rfl, H⟩ := hcut
            have HWc := Lib.hid (HW4.out.on H.out.1)
            have HPc := Lib.hid (HP4.out.on H.out.1)
            have HCv : Hid (∀ W, Below wc.heap.size wc W → Calls Tryz.prog 101 #[.slice p.va p.p.vars.length p.vc, .int .i64 0, .func (.func 102) #[.agg #[.int .i64 x.ver, .slice x.pa x.procs.length x.pc, .slice x.la x.links.length x.lc, .slice x.ea x.events.length x.ec, .map (some mp), .map (some ml), .string p.p.name, .map (some mv)]] #[]] W fun e w' => e = .returned (fltV 0 (fErr (varE (fstP (vNames p.p))) 0 p.p.vars)) ∧ Below W.heap.size W w') := Lib.hid (fun W hW => check_V (HPc.out.on hW).vars 0 (by omega) (by omega) (fun k v W' hv hW' => variable_any x mp ml p.p.name ((H.out.2.2.below hW).below hW') k (HPc.out.vars.fits v (List.mem_of_getElem? hv))) (fun _ _ => rfl))
            have HCs : Hid (∀ W, Below wc.heap.size wc W → Calls Tryz.prog 103 #[.slice p.sa p.p.steps.length p.sc, .int .i64 0, .func (.func 104) #[.agg #[.int .i64 x.ver, .slice x.pa x.procs.length x.pc, .slice x.la x.links.length x.lc, .slice x.ea x.events.length x.ec, .map (some mp), .map (some ml), .string p.p.name, .map (some mv)]] #[]] W fun e w' => e = .returned (fltV 0 (fErr (fun _ s => stE x.links p.p.name (fstP (vNames p.p)) s) 0 p.p.steps)) ∧ Below W.heap.size W w') := Lib.hid (fun W hW => check_S (HPc.out.on hW).steps 0 (by omega) (by omega) (E := fun _ s => stE x.links p.p.name (fstP (vNames p.p)) s) (fun k v W' hv hW' => step_any ((HWc.out.on hW).on hW').at_ mp ml ((HWc.out.on hW).on hW').ml_ p.p.name ((H.out.2.2.below hW).below hW') k (HPc.out.steps.fits v (List.mem_of_getElem? hv))) (fun _ _ => rfl))
            have hL : ∀ (i : Nat) (u : Value), (#[.int .i64 x.ver, .slice x.pa x.procs.length x.pc, .slice x.la x.links.length x.lc, .slice x.ea x.events.length x.ec, .map (some mp), .map (some ml), .string p.p.name, .map (some mv)] : Array Value)[i]? = some u → ∀ W, Below wc.heap.size wc W → W.cell? ⟨N, i, none⟩ = some u := fun i u hu W hW => heap_cell (heap_below H.out.2.1 hW (heap_lt H.out.2.1)) hu
            have d0 := hL 0 _ rfl
            have d1 := hL 1 _ rfl
            have d2 := hL 2 _ rfl
            have d3 := hL 3 _ rfl
            have d4 := hL 4 _ rfl
            have d5 := hL 5 _ rfl
            have d6 := hL 6 _ rfl
            have d7 := hL 7 _ rfl
            have e2 : ∀ W, Below wc.heap.size wc W → W.cell? ⟨A + 1, 2, none⟩ = some (.slice p.va p.p.vars.length p.vc) := fun W hW => HC2.out 2 _ rfl W (H.out.1.trans (hW.mono H.out.1.size))
            have e3 : ∀ W, Below wc.heap.size wc W → W.cell? ⟨A + 1, 3, none⟩ = some (.slice p.sa p.p.steps.length p.sc) := fun W hW => HC2.out 3 _ rfl W (H.out.1.trans (hW.mono H.out.1.size))
            simp only [List.getElem_toArray, List.getElem_cons_zero, List.getElem_cons_succ] at d0 d1 d2 d3 d4 d5 d6 d7
            have HI2 := HIn
            generalize fErr (varE (fstP (vNames p.p))) 0 p.p.vars = f1 at *
            generalize fErr (fun _ s => stE x.links p.p.name (fstP (vNames p.p)) s) 0 p.p.steps = f2 at *
            obtain ⟨f1a, f1b⟩ := f1
            obtain ⟨f2a, f2b⟩ := f2
            have HRe : Hid (r = if f1a = 0 then f2a else f1a) := Lib.hid (HR.out.trans HI2.out)
            unfold fltV at HCv HCs
            generalize (if (f1a, f1b).1 = 0 then (0 : Int) else ((0 + (f1a, f1b).2 : Nat) : Int)) = q1 at *
            generalize (if (f2a, f2b).1 = 0 then (0 : Int) else ((0 + (f2a, f2b).2 : Nat) : Int)) = q2 at *
            simp only at HCv HCs
            have HHb := Lib.hid (HB4.out.trans (H.out.1.mono HB4.out.size))
            clear hL HC1 HC2 HIn HI2 HPl HW4 HP4 HO14 HO24 HR HVn
            go_upto_region 9 with fail
            have hfd := field0
            go_region_held3 (fun W => Below wc.heap.size wc W) (first | assumption | exact Below.refl _ _ | exact (Below.refl _ _).drew | exact Below.drew (by assumption) | exact (show Below wc.heap.size wc _ by assumption).alloc (by first | exact Nat.le_refl _ | exact hz6 | exact hz5) _) (first
              | (go_at_call 101; refine (HCv.out _ (by assumption)).mono ?_; rintro e w5 ⟨rfl, hb⟩; have hS5 : Below wc.heap.size wc w5 := Below.trans (show Below wc.heap.size wc _ by assumption) (hb.mono (show Below wc.heap.size wc _ by assumption).size); have hz5 := hS5.size; clear hb)
              | (go_at_call 103; refine (HCs.out _ (by assumption)).mono ?_; rintro e w6 ⟨rfl, hb⟩; have hS6 : Below wc.heap.size wc w6 := Below.trans (show Below wc.heap.size wc _ by assumption) (hb.mono (show Below wc.heap.size wc _ by assumption).size); have hz6 := hS6.size; clear hb)
              | (go_at_call 100; refine (orE2_lit (heap_cell (heap_new _ rfl) rfl) (heap_cell (heap_new _ rfl) rfl) HRe.out).mono ?_; rintro e w9 ⟨rfl, rfl⟩))
            all_goals
              clear HCv HCs d0 d1 d2 d3 d4 d5 d6 d7 e2 e3 hfd
              go_wp2
              go_ret
              first
                | exact ⟨rfl, HHb.out.trans ((hS6.alloc hz6 _).mono HHb.out.size)⟩
                | exact ⟨rfl, HHb.out.trans ((hS5.alloc hz5 _).mono HHb.out.size)⟩
  · have hcb : (c != 0) = true := by simpa using hc
    have HR : Hid (r = c) := Lib.hid (by rw [HA.out, if_pos hc])
    clear hc HA
    go_wp2_with fail
    refine HC.out.mono ?_
    rintro e w3 ⟨rfl, rfl⟩
    go_wp2
    go_ret
    exact ⟨by rw [HR.out]; rfl, HB.out⟩
/-- What is wrong with a link. -/
def lnE (ver : Int) (pf lf : ByteArray → Option Nat) (k : Nat) (l : LinkM) : Int :=
  if nmE lf l.name k ≠ 0 then nmE lf l.name k else if !(pf l.frm).isSome || !(pf l.to_).isSome then 4 else if !(decide (1 ≤ l.delay) && decide (l.delay ≤ 1099511627776)) then 42 else if wgtB ver l.weight then 0 else 41
/-- What is wrong with an event. -/
def evE (pf : ByteArray → Option Nat) (e : EventM) : Int :=
  if !(pf e.to_).isSome then 4 else if !(decide (0 ≤ e.at_) && decide (e.at_ ≤ 1099511627776)) || !numB e.val then 23 else 0
end Go.Proofs.YtjcmeacgfflfmaaGreat.Md

namespace Go.Proofs.YtjcmeacgfflfmaaGreat.Md
open Go.RowKit Go.Shelf

theorem link_any {w : World} {x : ModelV} {mp ml : Nat} (h : Wh w x mp ml) (k : Nat) {l : LinkM} (hfit : fitL l) :
    Calls Tryz.prog 65 #[wholeVal x mp ml, .int .i64 (k : Int), .agg #[.string l.name, .string l.frm, .string l.to_, .int .i64 l.delay, .int .i64 l.weight]] w fun e w' => e = .returned (.int .i64 (lnE x.ver (fstP (x.procs.map (fun y => y.p.name))) (fstP (x.links.map (fun y => y.name))) k l)) ∧ Below w.heap.size w w' := by
  have HA : Hid (lnE x.ver (fstP (x.procs.map (fun y => y.p.name))) (fstP (x.links.map (fun y => y.name))) k l = if nmE (fstP (x.links.map (fun y => y.name))) l.name k ≠ 0 then nmE (fstP (x.links.map (fun y => y.name))) l.name k else if !((fstP (x.procs.map (fun y => y.p.name))) l.frm).isSome || !((fstP (x.procs.map (fun y => y.p.name))) l.to_).isSome then 4 else if !(decide (1 ≤ l.delay) && decide (l.delay ≤ 1099511627776)) then 42 else if wgtB x.ver l.weight then 0 else 41) := Lib.hid rfl
  have hb1 := (below_one w (.cells #[.int .i64 x.ver, .slice x.pa x.procs.length x.pc, .slice x.la x.links.length x.lc, .slice x.ea x.events.length x.ec, .map (some mp), .map (some ml)] 101))
  have HB := Lib.hid (hb1.alloc hb1.size (.cells #[.string l.name, .string l.frm, .string l.to_, .int .i64 l.delay, .int .i64 l.weight] 42))
  have HC := Lib.hid (checkName_any (h.ml_.below HB.out) hfit.1 k)
  have HH1 := Lib.hid (has_any (h.mp_.below HB.out) hfit.2.1)
  have HH2 := Lib.hid (has_any (h.mp_.below HB.out) hfit.2.2)
  have HW := Lib.hid (fun W => within_g l.delay 1 1099511627776 W)
  have HG : Hid (∀ W, Calls Tryz.prog 97 #[wholeVal x mp ml, .int .i64 l.weight] W fun e w' => e = .returned (.bool (wgtB x.ver l.weight)) ∧ Below W.heap.size W w') := Lib.hid (fun W => weighs_any x mp ml l.weight W)
  clear h hb1
  unfold wholeVal ModelV.pv ModelV.lv ModelV.ev at *
  generalize lnE x.ver (fstP (x.procs.map (fun y => y.p.name))) (fstP (x.links.map (fun y => y.name))) k l = r at *
  generalize nmE (fstP (x.links.map (fun y => y.name))) l.name k = c at *
  generalize wgtB x.ver l.weight = b4 at *
  generalize ((fstP (x.procs.map (fun y => y.p.name))) l.frm).isSome = b1 at *
  generalize ((fstP (x.procs.map (fun y => y.p.name))) l.to_).isSome = b2 at *
  generalize (decide (1 ≤ l.delay) && decide (l.delay ≤ 1099511627776)) = b3 at *
  go_enter Tryz.func65, Tryz.ntmps65
  by_cases hc : c = 0
  · have hcb : (c != 0) = false := by simpa using hc
    have HA2 := Lib.hid (HA.out.trans (if_neg (by simpa using hc)))
    clear hc HA
    cases b1 with
    | false =>
      have HR : Hid (r = 4) := Lib.hid HA2.out
      go_wp2_with (first
        | (go_at_call 96; refine HC.out.mono ?_; clear HC; rintro e w3 ⟨rfl, rfl⟩)
        | (go_at_call 105; refine HH1.out.mono ?_; clear HH1; rintro e w3 ⟨rfl, rfl⟩))
      go_ret
      exact ⟨by rw [HR.out]; rfl, HB.out⟩
    | true =>
      cases b2 with
      | false =>
        have HR : Hid (r = 4) := Lib.hid HA2.out
        go_wp2_with (first
          | (go_at_call 96; refine HC.out.mono ?_; clear HC; rintro e w3 ⟨rfl, rfl⟩)
          | (go_at_call 105; refine HH1.out.mono ?_; clear HH1; rintro e w3 ⟨rfl, rfl⟩)
          | (go_at_call 105; refine HH2.out.mono ?_; clear HH2; rintro e w3 ⟨rfl, rfl⟩))
        go_ret
        exact ⟨by rw [HR.out]; rfl, HB.out⟩
      | true =>
        cases b3 with
        | false =>
          have HR : Hid (r = 42) := Lib.hid HA2.out
          go_wp2_with (first
            | (go_at_call 96; refine HC.out.mono ?_; clear HC; rintro e w3 ⟨rfl, rfl⟩)
            | (go_at_call 105; refine HH1.out.mono ?_; clear HH1; rintro e w3 ⟨rfl, rfl⟩)
            | (go_at_call 105; refine HH2.out.mono ?_; clear HH2; rintro e w3 ⟨rfl, rfl⟩)
            | (go_at_call 56; refine (HW.out _).mono ?_; clear HW; rintro e w3 ⟨rfl, rfl⟩))
          go_ret
          exact ⟨by rw [HR.out]; rfl, HB.out⟩
        | true =>
          cases b4 with
          | false =>
            have HR : Hid (r = 41) := Lib.hid HA2.out
            go_wp2_with (first
              | (go_at_call 96; refine HC.out.mono ?_; clear HC; rintro e w3 ⟨rfl, rfl⟩)
              | (go_at_call 105; refine HH1.out.mono ?_; clear HH1; rintro e w3 ⟨rfl, rfl⟩)
              | (go_at_call 105; refine HH2.out.mono ?_; clear HH2; rintro e w3 ⟨rfl, rfl⟩)
              | (go_at_call 56; refine (HW.out _).mono ?_; clear HW; rintro e w3 ⟨rfl, rfl⟩)
              | (go_at_call 97; refine (HG.out _).mono ?_; clear HG; rintro e w3 ⟨rfl, hb3⟩; have HB3 := Lib.hid hb3; clear hb3))
            go_ret
            exact ⟨by rw [HR.out]; rfl, HB.out.trans (HB3.out.mono HB.out.size)⟩
          | true =>
            have HR : Hid (r = 0) := Lib.hid HA2.out
            go_wp2_with (first
              | (go_at_call 96; refine HC.out.mono ?_; clear HC; rintro e w3 ⟨rfl, rfl⟩)
              | (go_at_call 105; refine HH1.out.mono ?_; clear HH1; rintro e w3 ⟨rfl, rfl⟩)
              | (go_at_call 105; refine HH2.out.mono ?_; clear HH2; rintro e w3 ⟨rfl, rfl⟩)
              | (go_at_call 56; refine (HW.out _).mono ?_; clear HW; rintro e w3 ⟨rfl, rfl⟩)
              | (go_at_call 97; refine (HG.out _).mono ?_; clear HG; rintro e w3 ⟨rfl, hb3⟩; have HB3 := Lib.hid hb3; clear hb3))
            go_ret
            exact ⟨by rw [HR.out]; rfl, HB.out.trans (HB3.out.mono HB.out.size)⟩
  · have hcb : (c != 0) = true := by simpa using hc
    have HR : Hid (r = c) := Lib.hid (by rw [HA.out, if_pos hc])
    clear hc HA
    go_wp2_with (go_at_call 96; refine HC.out.mono ?_; clear HC; rintro e w3 ⟨rfl, rfl⟩)
    go_ret
    exact ⟨by rw [HR.out]; rfl, HB.out⟩
theorem event_any {w : World} {x : ModelV} {mp ml : Nat} (h : Wh w x mp ml) (k : Int) {v : EventM} (hfit : fitE v) :
    Calls Tryz.prog 67 #[wholeVal x mp ml, .int .i64 k, .agg #[.string v.to_, .int .i64 v.at_, .int .i64 v.val]] w fun e w' => e = .returned (.int .i64 (evE (fstP (x.procs.map (fun y => y.p.name))) v)) ∧ Below w.heap.size w w' := by
  have HA : Hid (evE (fstP (x.procs.map (fun y => y.p.name))) v = if !((fstP (x.procs.map (fun y => y.p.name))) v.to_).isSome then 4 else if !(decide (0 ≤ v.at_) && decide (v.at_ ≤ 1099511627776)) || !numB v.val then 23 else 0) := Lib.hid rfl
  have hb1 := (below_one w (.cells #[.int .i64 x.ver, .slice x.pa x.procs.length x.pc, .slice x.la x.links.length x.lc, .slice x.ea x.events.length x.ec, .map (some mp), .map (some ml)] 101))
  have HB := Lib.hid (hb1.alloc hb1.size (.cells #[.string v.to_, .int .i64 v.at_, .int .i64 v.val] 57))
  have HH1 := Lib.hid (has_any (h.mp_.below HB.out) hfit)
  have HW := Lib.hid (fun W => within_g v.at_ 0 1099511627776 W)
  have HN := Lib.hid (fun W => isNum_any v.val W)
  clear h hb1
  unfold wholeVal ModelV.pv ModelV.lv ModelV.ev at *
  generalize evE (fstP (x.procs.map (fun y => y.p.name))) v = r at *
  generalize ((fstP (x.procs.map (fun y => y.p.name))) v.to_).isSome = b1 at *
  generalize (decide (0 ≤ v.at_) && decide (v.at_ ≤ 1099511627776)) = b3 at *
  generalize numB v.val = b4 at *
  go_enter Tryz.func67, Tryz.ntmps67
  cases b1 <;> cases b3 <;> cases b4 <;>
    (have HR := Lib.hid HA.out
     clear HA
     go_wp2_with (first
       | (go_at_call 105; refine HH1.out.mono ?_; clear HH1; rintro e w3 ⟨rfl, rfl⟩)
       | (go_at_call 56; refine (HW.out _).mono ?_; clear HW; rintro e w3 ⟨rfl, rfl⟩)
       | (go_at_call 106; refine (HN.out _).mono ?_; clear HN; rintro e w3 ⟨rfl, rfl⟩))
     go_ret
     exact ⟨by rw [HR.out]; rfl, HB.out⟩)
end Go.Proofs.YtjcmeacgfflfmaaGreat.Md

namespace Go.Proofs.YtjcmeacgfflfmaaGreat.Md
open Go.RowKit Go.Shelf

theorem Tryz.structFl : Tryz.prog.underlying 54 = some (.struct (Tryz.prog.fieldsOf 54)) := by kernel_rfl
theorem Tryz.stoodFl : Tryz.prog.stoodInHeld 54 = false := by kernel_rfl
theorem neqF (a b : Int) (V : World) : (binOp BinOp.neq 54 (.agg #[.int .i64 a, .int .i64 b]) (.agg #[.int .i64 0, .int .i64 0])).run Tryz.prog V = .ok (.bool (!decide (a = 0 ∧ b = 0))) V := by
  simp [go_sem, run_equalIn_agg _ _ _ _ _ Tryz.structFl Tryz.stoodFl]
  split <;> (try split) <;> simp_all
/-- The first of three that is one. -/
def orF (p q r : Int × Int) : Int × Int := if ¬ (p.1 = 0 ∧ p.2 = 0) then p else if ¬ (q.1 = 0 ∧ q.2 = 0) then q else r
set_option maxRecDepth 100000 in
set_option maxHeartbeats 2000000 in
theorem orF3_any {w : World} {N : Nat} {p q r : Int × Int} (hN : w.heap[N]? = some (.cells #[.int .i64 p.1, .int .i64 p.2, .int .i64 q.1, .int .i64 q.2, .int .i64 r.1, .int .i64 r.2] 54 (0, 0))) {R : Int × Int} (hR : R = orF p q r) :
    Calls Tryz.prog 61 #[.slice (some ⟨N, 0, none⟩) 3 3] w fun e w' => e = .returned (.agg #[.int .i64 R.1, .int .i64 R.2]) ∧ Below w.heap.size w w' := by
  have HR := Lib.hid hR
  have hlt := heap_lt hN
  have hb2 := (below_one w (.cells #[.int .i64 0, .int .i64 0] 54)).alloc (by simp) (.cells #[.int .i64 0, .int .i64 0] 54)
  have HN0 : Hid (∀ W, Below w.heap.size w W → W.heap[N]? = some (.cells #[.int .i64 p.1, .int .i64 p.2, .int .i64 q.1, .int .i64 q.2, .int .i64 r.1, .int .i64 r.2] 54 (0, 0))) := Lib.hid (fun W hW => heap_below hN hW hlt)
  have HO1 : Hid (((w.alloc (.cells #[.int .i64 0, .int .i64 0] 54)).alloc (.cells #[.int .i64 0, .int .i64 0] 54)).heap[w.heap.size]? = some (.cells #[.int .i64 0, .int .i64 0] 54 (0, 0))) := Lib.hid (heap_alloc (heap_new _ rfl) _)
  have HO2 : Hid (((w.alloc (.cells #[.int .i64 0, .int .i64 0] 54)).alloc (.cells #[.int .i64 0, .int .i64 0] 54)).heap[w.heap.size + 1]? = some (.cells #[.int .i64 0, .int .i64 0] 54 (0, 0))) := Lib.hid (heap_new _ (by simp))
  have HB := Lib.hid hb2
  clear hN hR hb2
  go_enter Tryz.func61, Tryz.ntmps61
  go_wp2
  generalize ((w.alloc (.cells #[.int .i64 0, .int .i64 0] 54)).alloc (.cells #[.int .i64 0, .int .i64 0] 54)) = w0 at *
  obtain ⟨A, hA⟩ : ∃ A, w.heap.size = A := ⟨_, rfl⟩
  have HA := Lib.hid hA
  rw [hA] at HO1 HO2 HB HN0 hlt ⊢
  clear hA
  go_loopw [8] (fun i wr => ∃ k : Nat, i = .int .i64 (k : Int) ∧ k ≤ 3 ∧ Hid ((1 ≤ k → p.1 = 0 ∧ p.2 = 0) ∧ (2 ≤ k → q.1 = 0 ∧ q.2 = 0) ∧ (3 ≤ k → r.1 = 0 ∧ r.2 = 0)) ∧ Hid (Below A w wr ∧ wr.heap[A]? = some (.cells #[.int .i64 0, .int .i64 0] 54 (0, 0)) ∧ wr.heap[A + 1]? = some (.cells #[.int .i64 0, .int .i64 0] 54 (0, 0)))) (fun i _ => 3 - (intOf i).toNat)
  case atStart => exact ⟨0, rfl, by omega, Lib.hid ⟨by omega, by omega, by omega⟩, Lib.hid ⟨HB.out, HO1.out, HO2.out⟩⟩
  case round =>
    clear HO1 HO2 HB
    obtain ⟨k, rfl, hk, HK, HT⟩ := hrel
    have hNw := HN0.out wr HT.out.1
    have c0 := heap_cell hNw (i := 0) rfl
    have c1 := heap_cell hNw (i := 1) rfl
    have c2 := heap_cell hNw (i := 2) rfl
    have c3 := heap_cell hNw (i := 3) rfl
    have c4 := heap_cell hNw (i := 4) rfl
    have c5 := heap_cell hNw (i := 5) rfl
    have z0 := heap_cell HT.out.2.2 (i := 0) rfl
    have z1 := heap_cell HT.out.2.2 (i := 1) rfl
    have y0 := heap_cell HT.out.2.1 (i := 0) rfl
    have y1 := heap_cell HT.out.2.1 (i := 1) rfl
    simp only [List.getElem_toArray, List.getElem_cons_zero, List.getElem_cons_succ] at c0 c1 c2 c3 c4 c5 z0 z1 y0 y1
    have f0 := heap_frozen HT.out.2.1 0
    have f1 := heap_frozen HT.out.2.1 1
    have hzw := HT.out.1.size
    have hAw := heap_lt HT.out.2.1
    have hAw1 := heap_lt HT.out.2.2
    have hne : ¬ A = wr.heap.size := by omega
    have key : ∀ (v : Int × Int) (X : World), X = ((wr.setCell ⟨A, 0, none⟩ (.int .i64 v.1)).setCell ⟨A, 1, none⟩ (.int .i64 v.2)).alloc (.cells #[.int .i64 v.1, .int .i64 v.2] 54) → X.heap[A]? = some (.cells #[.int .i64 v.1, .int .i64 v.2] 54 (0, 0)) ∧ Below A w X := fun v X hX => by
      subst hX
      exact ⟨heap_alloc (heap_set (heap_set HT.out.2.1 0 _) 1 _) _, ((HT.out.1.setCell (p := ⟨A, 0, none⟩) (Nat.le_refl _) _).setCell (p := ⟨A, 1, none⟩) (Nat.le_refl _) _).alloc (by rw [size_set, size_set]; omega) _⟩
    have HKey := Lib.hid key
    have keyn : ∀ (o : Obj), Below A w (wr.alloc o) ∧ (wr.alloc o).heap[A]? = some (.cells #[.int .i64 0, .int .i64 0] 54 (0, 0)) ∧ (wr.alloc o).heap[A + 1]? = some (.cells #[.int .i64 0, .int .i64 0] 54 (0, 0)) := fun o => ⟨HT.out.1.alloc (by omega) o, heap_alloc HT.out.2.1 o, heap_alloc HT.out.2.2 o⟩
    have HKeyn := Lib.hid keyn
    clear key keyn hNw
    obtain ⟨p1, p2⟩ := p
    obtain ⟨q1, q2⟩ := q
    obtain ⟨r1, r2⟩ := r
    simp only at *
    rcases (by omega : k = 0 ∨ k = 1 ∨ k = 2 ∨ k = 3) with rfl | rfl | rfl | rfl
    · by_cases hz : p1 = 0 ∧ p2 = 0
      · have hn : ∀ V : World, (binOp BinOp.neq 54 (.agg #[.int .i64 p1, .int .i64 p2]) (.agg #[.int .i64 0, .int .i64 0])).run Tryz.prog V = .ok (.bool false) V := fun V => by rw [neqF, decide_eq_true hz]; rfl
        have HKn : Hid ((1 ≤ 1 → p1 = 0 ∧ p2 = 0) ∧ (2 ≤ 1 → q1 = 0 ∧ q2 = 0) ∧ (3 ≤ 1 → r1 = 0 ∧ r2 = 0)) := Lib.hid ⟨fun _ => hz, by omega, by omega⟩
        have HG := Lib.hid (HKeyn.out (.cells #[.int .i64 p1, .int .i64 p2] 54))
        clear hz
        go_wp2
        go_roundw
        case rel => exact ⟨1, rfl, by omega, HKn, HG⟩
        case measure => simp [intOf]
      · have hn : ∀ V : World, (binOp BinOp.neq 54 (.agg #[.int .i64 p1, .int .i64 p2]) (.agg #[.int .i64 0, .int .i64 0])).run Tryz.prog V = .ok (.bool true) V := fun V => by rw [neqF, decide_eq_false hz]; rfl
        have HRr : Hid (R = (p1, p2)) := Lib.hid (by rw [HR.out]; unfold orF; rw [if_pos (by simpa using hz)])
        clear hz
        go_wp2
        refine bodyPost_ret (flt_ret rfl (HKey.out (p1, p2) _ rfl).1 rfl) rfl ?_
        exact ⟨by rw [HRr.out], by rw [HA.out]; exact (HKey.out (p1, p2) _ rfl).2⟩
    · by_cases hz : q1 = 0 ∧ q2 = 0
      · have hn : ∀ V : World, (binOp BinOp.neq 54 (.agg #[.int .i64 q1, .int .i64 q2]) (.agg #[.int .i64 0, .int .i64 0])).run Tryz.prog V = .ok (.bool false) V := fun V => by rw [neqF, decide_eq_true hz]; rfl
        have HKn : Hid ((1 ≤ 2 → p1 = 0 ∧ p2 = 0) ∧ (2 ≤ 2 → q1 = 0 ∧ q2 = 0) ∧ (3 ≤ 2 → r1 = 0 ∧ r2 = 0)) := Lib.hid ⟨fun _ => HK.out.1 (by omega), fun _ => hz, by omega⟩
        have HG := Lib.hid (HKeyn.out (.cells #[.int .i64 q1, .int .i64 q2] 54))
        clear hz
        go_wp2
        go_roundw
        case rel => exact ⟨2, rfl, by omega, HKn, HG⟩
        case measure => simp [intOf]
      · have hn : ∀ V : World, (binOp BinOp.neq 54 (.agg #[.int .i64 q1, .int .i64 q2]) (.agg #[.int .i64 0, .int .i64 0])).run Tryz.prog V = .ok (.bool true) V := fun V => by rw [neqF, decide_eq_false hz]; rfl
        have HRr : Hid (R = (q1, q2)) := Lib.hid (by rw [HR.out]; unfold orF; rw [if_neg (by simp [HK.out.1 (by omega)]), if_pos (by simpa using hz)])
        clear hz
        go_wp2
        refine bodyPost_ret (flt_ret rfl (HKey.out (q1, q2) _ rfl).1 rfl) rfl ?_
        exact ⟨by rw [HRr.out], by rw [HA.out]; exact (HKey.out (q1, q2) _ rfl).2⟩
    · by_cases hz : r1 = 0 ∧ r2 = 0
      · have hn : ∀ V : World, (binOp BinOp.neq 54 (.agg #[.int .i64 r1, .int .i64 r2]) (.agg #[.int .i64 0, .int .i64 0])).run Tryz.prog V = .ok (.bool false) V := fun V => by rw [neqF, decide_eq_true hz]; rfl
        have HKn : Hid ((1 ≤ 3 → p1 = 0 ∧ p2 = 0) ∧ (2 ≤ 3 → q1 = 0 ∧ q2 = 0) ∧ (3 ≤ 3 → r1 = 0 ∧ r2 = 0)) := Lib.hid ⟨fun _ => HK.out.1 (by omega), fun _ => HK.out.2.1 (by omega), fun _ => hz⟩
        have HG := Lib.hid (HKeyn.out (.cells #[.int .i64 r1, .int .i64 r2] 54))
        clear hz
        go_wp2
        go_roundw
        case rel => exact ⟨3, rfl, by omega, HKn, HG⟩
        case measure => simp [intOf]
      · have hn : ∀ V : World, (binOp BinOp.neq 54 (.agg #[.int .i64 r1, .int .i64 r2]) (.agg #[.int .i64 0, .int .i64 0])).run Tryz.prog V = .ok (.bool true) V := fun V => by rw [neqF, decide_eq_false hz]; rfl
        have HRr : Hid (R = (r1, r2)) := Lib.hid (by rw [HR.out]; unfold orF; rw [if_neg (by simp [HK.out.1 (by omega)]), if_neg (by simp [HK.out.2.1 (by omega)])])
        clear hz
        go_wp2
        refine bodyPost_ret (flt_ret rfl (HKey.out (r1, r2) _ rfl).1 rfl) rfl ?_
        exact ⟨by rw [HRr.out], by rw [HA.out]; exact (HKey.out (r1, r2) _ rfl).2⟩
    · have HRr : Hid (R = (0, 0)) := Lib.hid (by
        rw [HR.out]; unfold orF
        rw [if_neg (by simp [HK.out.1 (by omega)]), if_neg (by simp [HK.out.2.1 (by omega)])]
        obtain ⟨h1, h2⟩ := HK.out.2.2 (by omega)
        rw [h1, h2])
      have hx := heap_set (heap_set HT.out.2.1 0 (.int .i64 0)) 1 (.int .i64 0)
      have hy : Below A w ((wr.setCell ⟨A, 0, none⟩ (.int .i64 0)).setCell ⟨A, 1, none⟩ (.int .i64 0)) := (HT.out.1.setCell (p := ⟨A, 0, none⟩) (Nat.le_refl _) _).setCell (p := ⟨A, 1, none⟩) (Nat.le_refl _) _
      have HX := Lib.hid hx
      have HY := Lib.hid hy
      clear hx hy
      go_wp2
      refine bodyPost_ret (flt_ret rfl HX.out rfl) rfl ?_
      exact ⟨by rw [HRr.out], by rw [HA.out]; exact HY.out⟩
end Go.Proofs.YtjcmeacgfflfmaaGreat.Md

namespace Go.Proofs.YtjcmeacgfflfmaaGreat.Md
open Go.RowKit Go.Shelf

def nmsP (m : ModelM) : List ByteArray := m.procs.map (fun y => y.name)
def nmsL (m : ModelM) : List ByteArray := m.links.map (fun y => y.name)
def fltP (ahead : Nat) (p : Int × Nat) : Int × Int := (p.1, if p.1 = 0 then 0 else ((ahead + p.2 : Nat) : Int))
def erP (m : ModelM) : Int × Int := fltP 0 (fErr (prE m.ver m.links (fstP (nmsP m))) 0 m.procs)
def erL (m : ModelM) : Int × Int := fltP m.procs.length (fErr (lnE m.ver (fstP (nmsP m)) (fstP (nmsL m))) 0 m.links)
def erE (m : ModelM) : Int × Int := fltP (m.procs.length + m.links.length) (fErr (fun _ e => evE (fstP (nmsP m)) e) 0 m.events)
/-- The first that is wrong with a model, and where. -/
def mdE (m : ModelM) : Int × Int :=
  if !(decide (1 ≤ m.ver) && decide (m.ver ≤ 3)) then (43, 0) else if decide (4096 < m.procs.length) || (decide (16384 < m.links.length) || decide (16384 < m.events.length)) then (3, 0) else orF (erP m) (erL m) (erE m)
theorem fErr_map {α β : Type} (f : α → β) (E : Nat → β → Int) : ∀ (L : List α) (k : Nat), fErr (fun k x => E k (f x)) k L = fErr E k (L.map f)
  | [], k => rfl
  | x :: r, k => by
    have ih := fErr_map f E r (k + 1)
    simp only [List.map_cons, fErr, ih]
theorem nms_v (x : ModelV) : x.procs.map (fun y => y.p.name) = nmsP x.m := by unfold nmsP ModelV.m; simp
/-- What lies behind the maps' making. -/
structure Mk (w : World) (x : ModelV) (N mp ml : Nat) (W : World) : Prop where
  below : Below w.heap.size w W
  box : W.heap[N]? = some (.cells #[.int .i64 x.ver, .slice x.pa x.procs.length x.pc, .slice x.la x.links.length x.lc, .slice x.ea x.events.length x.ec, .map (some mp), .map (some ml)] 101 (0, 0))
  mp_ : PlM W mp (fstP (x.procs.map (fun y => y.p.name)))
  ml_ : PlM W ml (fstP (x.links.map (fun y => y.name)))
set_option maxRecDepth 100000 in
set_option maxHeartbeats 4000000 in
theorem check_any {w : World} {x : ModelV} (h : ModelAt w.heap.size w x) : Calls Tryz.prog 23 #[.agg #[.int .i64 x.ver, .slice x.pa x.procs.length x.pc, .slice x.la x.links.length x.lc, .slice x.ea x.events.length x.ec]] w fun e w' => e = .returned (.agg #[.int .i64 (mdE x.m).1, .int .i64 (mdE x.m).2]) ∧ Below w.heap.size w w' := by
  have hb1 := (below_one w (.cells #[.int .i64 x.ver, .slice x.pa x.procs.length x.pc, .slice x.la x.links.length x.lc, .slice x.ea x.events.length x.ec] 26))
  have hb2 := hb1.alloc hb1.size (.cells #[.int .i64 0, .int .i64 0] 54)
  have HO1 : Hid (((w.alloc (.cells #[.int .i64 x.ver, .slice x.pa x.procs.length x.pc, .slice x.la x.links.length x.lc, .slice x.ea x.events.length x.ec] 26)).alloc (.cells #[.int .i64 0, .int .i64 0] 54)).heap[w.heap.size]? = some (.cells #[.int .i64 x.ver, .slice x.pa x.procs.length x.pc, .slice x.la x.links.length x.lc, .slice x.ea x.events.length x.ec] 26 (0, 0))) := Lib.hid (heap_alloc (heap_new _ rfl) _)
  have HO2 : Hid (((w.alloc (.cells #[.int .i64 x.ver, .slice x.pa x.procs.length x.pc, .slice x.la x.links.length x.lc, .slice x.ea x.events.length x.ec] 26)).alloc (.cells #[.int .i64 0, .int .i64 0] 54)).heap[w.heap.size + 1]? = some (.cells #[.int .i64 0, .int .i64 0] 54 (0, 0))) := Lib.hid (heap_new _ (by simp))
  have HB := Lib.hid hb2
  have HM := Lib.hid (h.on hb2)
  have HE : Hid (mdE x.m = if !(decide (1 ≤ x.ver) && decide (x.ver ≤ 3)) then (43, 0) else if decide (4096 < x.procs.length) || (decide (16384 < x.links.length) || decide (16384 < x.events.length)) then (3, 0) else orF (erP x.m) (erL x.m) (erE x.m)) := Lib.hid (by unfold mdE ModelV.m; simp only [List.length_map])
  have HW := Lib.hid (fun W => within_g x.ver 1 3 W)
  obtain ⟨R, hR⟩ : ∃ R, mdE x.m = R := ⟨_, rfl⟩
  rw [hR] at HE ⊢
  clear h hb1 hb2 hR
  obtain ⟨bv, hbv⟩ : ∃ b, (decide (1 ≤ x.ver) && decide (x.ver ≤ 3)) = b := ⟨_, rfl⟩
  rw [hbv] at HE HW
  clear hbv
  go_enter Tryz.func23, Tryz.ntmps23
  go_wp2_with fail
  refine (HW.out _).mono ?_
  rintro e w' ⟨rfl, rfl⟩
  generalize ((w.alloc (.cells #[.int .i64 x.ver, .slice x.pa x.procs.length x.pc, .slice x.la x.links.length x.lc, .slice x.ea x.events.length x.ec] 26)).alloc (.cells #[.int .i64 0, .int .i64 0] 54)) = w1 at *
  obtain ⟨A, hA⟩ : ∃ A, w.heap.size = A := ⟨_, rfl⟩
  have HA := Lib.hid hA
  rw [hA] at HO1 HO2 HB ⊢
  clear hA
  have y0 := heap_cell HO2.out (i := 0) rfl
  have y1 := heap_cell HO2.out (i := 1) rfl
  have m0 := heap_cell HO1.out (i := 0) rfl
  have m1 := heap_cell HO1.out (i := 1) rfl
  have m2 := heap_cell HO1.out (i := 2) rfl
  have m3 := heap_cell HO1.out (i := 3) rfl
  simp only [List.getElem_toArray, List.getElem_cons_zero, List.getElem_cons_succ] at y0 y1 m0 m1 m2 m3
  have f0 := heap_frozen HO2.out 0
  have f1 := heap_frozen HO2.out 1
  have hlA := heap_lt HO2.out
  have retS : ∀ (a : Int) (X : World), X = (w1.setCell ⟨A + 1, 0, none⟩ (.int .i64 a)).setCell ⟨A + 1, 1, none⟩ (.int .i64 0) → X.heap[A + 1]? = some (.cells #[.int .i64 a, .int .i64 0] 54 (0, 0)) ∧ Below A w X := fun a X hX => by
    subst hX
    exact ⟨heap_set (heap_set HO2.out 0 _) 1 _, (HB.out.setCell (p := ⟨A + 1, 0, none⟩) (by show A ≤ A + 1; omega) _).setCell (p := ⟨A + 1, 1, none⟩) (by show A ≤ A + 1; omega) _⟩
  have HRet := Lib.hid retS
  clear retS
  cases bv with
  | false =>
    have HR : Hid (R = (43, 0)) := Lib.hid HE.out
    go_wp2
    refine bodyPost_ret (flt_ret rfl (HRet.out 43 _ rfl).1 rfl) rfl ?_
    exact ⟨by rw [HR.out], by rw [HA.out]; exact (HRet.out 43 _ rfl).2⟩
  | true =>
    by_cases hp : 4096 < x.procs.length
    · have hpb : decide (4096 < (x.procs.length : Int)) = true := by simp; omega
      have HR : Hid (R = (3, 0)) := Lib.hid (by rw [HE.out, decide_eq_true hp]; rfl)
      go_wp2
      refine bodyPost_ret (flt_ret rfl (HRet.out 3 _ rfl).1 rfl) rfl ?_
      exact ⟨by rw [HR.out], by rw [HA.out]; exact (HRet.out 3 _ rfl).2⟩
    have hpb : decide (4096 < (x.procs.length : Int)) = false := by simp; omega
    by_cases hl : 16384 < x.links.length
    · have hlb : decide (16384 < (x.links.length : Int)) = true := by simp; omega
      have HR : Hid (R = (3, 0)) := Lib.hid (by rw [HE.out, decide_eq_true hl, decide_eq_false hp]; rfl)
      go_wp2
      refine bodyPost_ret (flt_ret rfl (HRet.out 3 _ rfl).1 rfl) rfl ?_
      exact ⟨by rw [HR.out], by rw [HA.out]; exact (HRet.out 3 _ rfl).2⟩
    have hlb : decide (16384 < (x.links.length : Int)) = false := by simp; omega
    by_cases he : 16384 < x.events.length
    · have heb : decide (16384 < (x.events.length : Int)) = true := by simp; omega
      have HR : Hid (R = (3, 0)) := Lib.hid (by rw [HE.out, decide_eq_true he, decide_eq_false hp, decide_eq_false hl]; rfl)
      go_wp2
      refine bodyPost_ret (flt_ret rfl (HRet.out 3 _ rfl).1 rfl) rfl ?_
      exact ⟨by rw [HR.out], by rw [HA.out]; exact (HRet.out 3 _ rfl).2⟩
    have heb : decide (16384 < (x.events.length : Int)) = false := by simp; omega
    have HR : Hid (R = orF (erP x.m) (erL x.m) (erE x.m)) := Lib.hid (by rw [HE.out, decide_eq_false he, decide_eq_false hp, decide_eq_false hl]; rfl)
    have HPl : Hid (∀ W, Below w1.heap.size w1 W → Calls Tryz.prog 57 #[.slice x.pa x.procs.length x.pc, .func (.func 58) #[] #[]] W (PlacesPost (x.procs.map (fun y => y.p.name)) W)) := Lib.hid (fun W hW => places_P (HM.out.on hW).procs)
    have HLl : Hid (∀ W, Below w1.heap.size w1 W → Calls Tryz.prog 59 #[.slice x.la x.links.length x.lc, .func (.func 60) #[] #[]] W (PlacesPost (x.links.map (fun y => y.name)) W)) := Lib.hid (fun W hW => places_L (HM.out.on hW).links)
    have hc1 : ∀ (i : Nat) (u : Value), (#[.int .i64 x.ver, .slice x.pa x.procs.length x.pc, .slice x.la x.links.length x.lc, .slice x.ea x.events.length x.ec] : Array Value)[i]? = some u → ∀ W, Below w1.heap.size w1 W → W.cell? ⟨A, i, none⟩ = some u := fun i u hu W hW => heap_cell (heap_below HO1.out hW (heap_lt HO1.out)) hu
    have HC1 := Lib.hid hc1
    clear hc1 HE
    go_upto_region 5 with fail
    clear y0 y1 m0 m1 m2 m3 f0 f1
    go_cut [3] from 26 to 33 (fun s3 wx => ∃ (N mp ml : Nat), s3 = .pointer (some ⟨N, 0, none⟩) ∧ Hid (Mk w1 x N mp ml wx))
    case first =>
      have hd : Below w1.heap.size w1 w1.drew := (Below.refl _ _).drew
      refine (wpIn_wide (n := 3)).1 ?_
      refine region_T_calm (fun X => Below w1.heap.size w1 X) (fun _ => true) rfl (by kernel_rfl) ?_
      change AnyT _ _ _ _ _ _ _ _ 10 _ _ (World.drew _)
      refine AnyT.take (i := 0) (v := .agg #[.int .i64 x.ver, .slice x.pa x.procs.length x.pc, .slice x.la x.links.length x.lc, .slice x.ea x.events.length x.ec]) rfl rfl (by kernel_rfl) (by kernel_rfl) (by kernel_rfl) (by kernel_rfl) (by kernel_rfl) (fun _ _ _ h => h) (by kernel_rfl) (fun X hX => by have c0 := HC1.out 0 _ rfl X hX; have c1 := HC1.out 1 _ rfl X hX; have c2 := HC1.out 2 _ rfl X hX; have c3 := HC1.out 3 _ rfl X hX; simp only [List.getElem_toArray, List.getElem_cons_zero, List.getElem_cons_succ] at c0 c1 c2 c3; go_simp) (fun _ => rfl) hd ?_
      try simp only [List.getElem_toArray, List.getElem_cons_zero, List.getElem_cons_succ, Act.put, List.setIfInBounds_toArray, List.set_cons_zero, List.set_cons_succ]
      refine AnyT.take (i := 1) (v := .pointer (some ⟨A, 1, none⟩)) rfl rfl (by kernel_rfl) (by kernel_rfl) (by kernel_rfl) (by kernel_rfl) (by kernel_rfl) (fun _ _ _ h => h) (by kernel_rfl) (fun X hX => by go_simp) (fun _ => rfl) hd ?_
      try simp only [List.getElem_toArray, List.getElem_cons_zero, List.getElem_cons_succ, Act.put, List.setIfInBounds_toArray, List.set_cons_zero, List.set_cons_succ]
      refine AnyT.take (i := 2) (v := .slice x.pa x.procs.length x.pc) rfl rfl (by kernel_rfl) (by kernel_rfl) (by kernel_rfl) (by kernel_rfl) (by kernel_rfl) (fun _ _ _ h => h) (by kernel_rfl) (fun X hX => by have c0 := HC1.out 1 _ rfl X hX; simp only [List.getElem_toArray, List.getElem_cons_zero, List.getElem_cons_succ] at c0; go_simp) (fun _ => rfl) hd ?_
      try simp only [List.getElem_toArray, List.getElem_cons_zero, List.getElem_cons_succ, Act.put, List.setIfInBounds_toArray, List.set_cons_zero, List.set_cons_succ]
      refine AnyT.take (i := 4) (v := .pointer (some ⟨A, 2, none⟩)) rfl rfl (by kernel_rfl) (by kernel_rfl) (by kernel_rfl) (by kernel_rfl) (by kernel_rfl) (fun _ _ _ h => h) (by kernel_rfl) (fun X hX => by go_simp) (fun _ => rfl) hd ?_
      try simp only [List.getElem_toArray, List.getElem_cons_zero, List.getElem_cons_succ, Act.put, List.setIfInBounds_toArray, List.set_cons_zero, List.set_cons_succ]
      refine AnyT.take (i := 5) (v := .slice x.la x.links.length x.lc) rfl rfl (by kernel_rfl) (by kernel_rfl) (by kernel_rfl) (by kernel_rfl) (by kernel_rfl) (fun _ _ _ h => h) (by kernel_rfl) (fun X hX => by have c0 := HC1.out 2 _ rfl X hX; simp only [List.getElem_toArray, List.getElem_cons_zero, List.getElem_cons_succ] at c0; go_simp) (fun _ => rfl) hd ?_
      try simp only [List.getElem_toArray, List.getElem_cons_zero, List.getElem_cons_succ, Act.put, List.setIfInBounds_toArray, List.set_cons_zero, List.set_cons_succ]
      refine AnyT.ready (rs := [3, 8]) (by kernel_rfl) (by simp) ?_
      refine ReadyT.cons rfl (fun K hK => ?_) ?_
      · skip
        go_simp
        refine ⟨trivial, (callsIn_wide.2 (HPl.out _ hd)).mono ?_⟩
        rintro e w2 ⟨mp, rfl, HMp, hgew2, HBw2⟩
        have hszw2 := HBw2.out.size
        have hSw2 : Below w1.heap.size w1 w2 := hd.trans (HBw2.out.mono hd.size)
        have hzw2 := hSw2.size
        refine hK _ _ (fun _ => hSw2) ?_
        clear hK K
        try simp only [List.getElem_toArray, List.getElem_cons_zero, List.getElem_cons_succ, Act.put, List.setIfInBounds_toArray, List.set_cons_zero, List.set_cons_succ]
        refine AnyT.ready (rs := [6, 8]) (by kernel_rfl) (by simp) ?_
        refine ReadyT.cons rfl (fun K hK => ?_) ?_
        · skip
          go_simp
          refine ⟨trivial, (callsIn_wide.2 (HLl.out _ hSw2)).mono ?_⟩
          rintro e w3 ⟨ml, rfl, HMl, hgew3, HBw3⟩
          have hszw3 := HBw3.out.size
          have hSw3 : Below w1.heap.size w1 w3 := hSw2.trans (HBw3.out.mono hSw2.size)
          have hzw3 := hSw3.size
          refine hK _ _ (fun _ => hSw3) ?_
          clear hK K
          try simp only [List.getElem_toArray, List.getElem_cons_zero, List.getElem_cons_succ, Act.put, List.setIfInBounds_toArray, List.set_cons_zero, List.set_cons_succ]
          refine AnyT.take (i := 7) (v := .agg #[.int .i64 x.ver, .slice x.pa x.procs.length x.pc, .slice x.la x.links.length x.lc, .slice x.ea x.events.length x.ec, .map (some mp), .map (some ml)]) rfl rfl (by kernel_rfl) (by kernel_rfl) (by kernel_rfl) (by kernel_rfl) (by kernel_rfl) (fun _ _ _ h => h) (by kernel_rfl) (fun X hX => by go_simp) (fun _ => rfl) hSw3 ?_
          try simp only [List.getElem_toArray, List.getElem_cons_zero, List.getElem_cons_succ, Act.put, List.setIfInBounds_toArray, List.set_cons_zero, List.set_cons_succ]
          refine AnyT.ready (rs := [8]) (by kernel_rfl) (by simp) (ReadyT.cons rfl (fun K hK => ?_) ReadyT.nil)
          go_simp
          have hSa : Below w1.heap.size w1 (w3.alloc (.cells #[.int .i64 0, .slice none 0 0, .slice none 0 0, .slice none 0 0, .map none, .map none] 101)) := hSw3.alloc hzw3 _
          refine hK _ _ (fun _ => hSa) ?_
          clear hK K
          try simp only [List.getElem_toArray, List.getElem_cons_zero, List.getElem_cons_succ, Act.put, List.setIfInBounds_toArray, List.set_cons_zero, List.set_cons_succ]
          refine AnyT.ready (rs := [9]) (by kernel_rfl) (by simp) (ReadyT.cons rfl (fun K hK => ?_) ReadyT.nil)
          have hm1 := MapS.below (MapS.below HMp.out HBw3.out HMp.out.lt) (below_one w3 (.cells #[.int .i64 0, .slice none 0 0, .slice none 0 0, .slice none 0 0, .map none, .map none] 101)) (MapS.below HMp.out HBw3.out HMp.out.lt).lt
          have hl1 := MapS.below HMl.out (below_one w3 (.cells #[.int .i64 0, .slice none 0 0, .slice none 0 0, .slice none 0 0, .map none, .map none] 101)) HMl.out.lt
          have hm1l := HMp.out.lt
          have hl1l := HMl.out.lt
          refine stepIn_store_row rfl 101 _ _ rfl w3.heap.size #[.int .i64 x.ver, .slice x.pa x.procs.length x.pc, .slice x.la x.links.length x.lc, .slice x.ea x.events.length x.ec, .map (some mp), .map (some ml)] rfl rfl 101 _ (heap_new (w := w3) _ rfl) (by kernel_rfl) rfl (by kernel_rfl) ?_
          have hg := grown_setRow (w3.alloc (.cells #[.int .i64 0, .slice none 0 0, .slice none 0 0, .slice none 0 0, .map none, .map none] 101)) w3.heap.size #[.int .i64 x.ver, .slice x.pa x.procs.length x.pc, .slice x.la x.links.length x.lc, .slice x.ea x.events.length x.ec, .map (some mp), .map (some ml)]
          have hSf := hSa.grown hg hSa.size (fun r e => by cases e; omega)
          refine hK _ _ (fun _ => hSf) ?_
          clear hK K
          try simp only [List.getElem_toArray, List.getElem_cons_zero, List.getElem_cons_succ, Act.put, List.setIfInBounds_toArray, List.set_cons_zero, List.set_cons_succ]
          refine AnyT.done (by kernel_rfl) (noPan_normal ?_) _
          go_wp2
          go_meet
          exact ⟨_, mp, ml, rfl, Lib.hid ⟨hSf, setRow_heap _ _ _ _ _ _ (heap_new (w := w3) _ rfl), ⟨_, MapS.kept hm1 hg (fun e => by cases e; omega)⟩, ⟨_, MapS.kept hl1 hg (fun e => by cases e; omega)⟩⟩⟩
        · refine ReadyT.cons rfl (fun K hK => ?_) ReadyT.nil
          go_simp
          have hSa : Below w1.heap.size w1 (w2.alloc (.cells #[.int .i64 0, .slice none 0 0, .slice none 0 0, .slice none 0 0, .map none, .map none] 101)) := hSw2.alloc hzw2 _
          refine hK _ _ (fun _ => hSa) ?_
          clear hK K
          try simp only [List.getElem_toArray, List.getElem_cons_zero, List.getElem_cons_succ, Act.put, List.setIfInBounds_toArray, List.set_cons_zero, List.set_cons_succ]
          refine AnyT.ready (rs := [6]) (by kernel_rfl) (by simp) (ReadyT.cons rfl (fun K hK => ?_) ReadyT.nil)
          go_simp
          refine ⟨trivial, (callsIn_wide.2 (HLl.out _ hSa)).mono ?_⟩
          rintro e w3 ⟨ml, rfl, HMl, hgew3, HBw3⟩
          have hszw3 := HBw3.out.size
          have hSw3 : Below w1.heap.size w1 w3 := hSa.trans (HBw3.out.mono hSa.size)
          have hzw3 := hSw3.size
          have hm20 := HMp.out.lt
          have hzN : w2.heap.size < (w2.alloc (.cells #[.int .i64 0, .slice none 0 0, .slice none 0 0, .slice none 0 0, .map none, .map none] 101)).heap.size := by simp
          have HNA : w3.heap[w2.heap.size]? = some (.cells #[.int .i64 0, .slice none 0 0, .slice none 0 0, .slice none 0 0, .map none, .map none] 101 (0, 0)) := heap_below (heap_new (w := w2) _ rfl) HBw3.out (by simp)
          refine hK _ _ (fun _ => hSw3) ?_
          clear hK K
          try simp only [List.getElem_toArray, List.getElem_cons_zero, List.getElem_cons_succ, Act.put, List.setIfInBounds_toArray, List.set_cons_zero, List.set_cons_succ]
          refine AnyT.take (i := 7) (v := .agg #[.int .i64 x.ver, .slice x.pa x.procs.length x.pc, .slice x.la x.links.length x.lc, .slice x.ea x.events.length x.ec, .map (some mp), .map (some ml)]) rfl rfl (by kernel_rfl) (by kernel_rfl) (by kernel_rfl) (by kernel_rfl) (by kernel_rfl) (fun _ _ _ h => h) (by kernel_rfl) (fun X hX => by go_simp) (fun _ => rfl) hSw3 ?_
          try simp only [List.getElem_toArray, List.getElem_cons_zero, List.getElem_cons_succ, Act.put, List.setIfInBounds_toArray, List.set_cons_zero, List.set_cons_succ]
          refine AnyT.ready (rs := [9]) (by kernel_rfl) (by simp) (ReadyT.cons rfl (fun K hK => ?_) ReadyT.nil)
          have hm1 := MapS.below (MapS.below HMp.out (below_one w2 (.cells #[.int .i64 0, .slice none 0 0, .slice none 0 0, .slice none 0 0, .map none, .map none] 101)) HMp.out.lt) HBw3.out (MapS.below HMp.out (below_one w2 (.cells #[.int .i64 0, .slice none 0 0, .slice none 0 0, .slice none 0 0, .map none, .map none] 101)) HMp.out.lt).lt
          have hl1 := HMl.out
          have hm1l := HMp.out.lt
          have hl1l := HMl.out.lt
          refine stepIn_store_row rfl 101 _ _ rfl w2.heap.size #[.int .i64 x.ver, .slice x.pa x.procs.length x.pc, .slice x.la x.links.length x.lc, .slice x.ea x.events.length x.ec, .map (some mp), .map (some ml)] rfl rfl 101 _ HNA (by kernel_rfl) rfl (by kernel_rfl) ?_
          have hg := grown_setRow (w3) w2.heap.size #[.int .i64 x.ver, .slice x.pa x.procs.length x.pc, .slice x.la x.links.length x.lc, .slice x.ea x.events.length x.ec, .map (some mp), .map (some ml)]
          have hSf := hSw3.grown hg hSw3.size (fun r e => by cases e; omega)
          refine hK _ _ (fun _ => hSf) ?_
          clear hK K
          try simp only [List.getElem_toArray, List.getElem_cons_zero, List.getElem_cons_succ, Act.put, List.setIfInBounds_toArray, List.set_cons_zero, List.set_cons_succ]
          refine AnyT.done (by kernel_rfl) (noPan_normal ?_) _
          go_wp2
          go_meet
          exact ⟨_, mp, ml, rfl, Lib.hid ⟨hSf, setRow_heap _ _ _ _ _ _ HNA, ⟨_, MapS.kept hm1 hg (fun e => by cases e; omega)⟩, ⟨_, MapS.kept hl1 hg (fun e => by cases e; omega)⟩⟩⟩
      · refine ReadyT.cons rfl (fun K hK => ?_) ReadyT.nil
        go_simp
        have hSa : Below w1.heap.size w1 (w1.alloc (.cells #[.int .i64 0, .slice none 0 0, .slice none 0 0, .slice none 0 0, .map none, .map none] 101)).drew := ((Below.refl _ _).alloc (Nat.le_refl _) _).drew
        refine hK _ _ (fun _ => hSa) ?_
        clear hK K
        try simp only [List.getElem_toArray, List.getElem_cons_zero, List.getElem_cons_succ, Act.put, List.setIfInBounds_toArray, List.set_cons_zero, List.set_cons_succ]
        refine AnyT.ready (rs := [3]) (by kernel_rfl) (by simp) (ReadyT.cons rfl (fun K hK => ?_) ReadyT.nil)
        go_simp
        refine ⟨trivial, (callsIn_wide.2 (HPl.out _ hSa)).mono ?_⟩
        rintro e w2 ⟨mp, rfl, HMp, hgew2, HBw2⟩
        have hszw2 := HBw2.out.size
        have hSw2 : Below w1.heap.size w1 w2 := hSa.trans (HBw2.out.mono hSa.size)
        have hzw2 := hSw2.size
        have HNA0 : (w1.alloc (.cells #[.int .i64 0, .slice none 0 0, .slice none 0 0, .slice none 0 0, .map none, .map none] 101)).drew.heap[w1.heap.size]? = some (.cells #[.int .i64 0, .slice none 0 0, .slice none 0 0, .slice none 0 0, .map none, .map none] 101 (0, 0)) := heap_new (w := w1) _ rfl
        have hzN := heap_lt HNA0
        have HNA1 : w2.heap[w1.heap.size]? = some (.cells #[.int .i64 0, .slice none 0 0, .slice none 0 0, .slice none 0 0, .map none, .map none] 101 (0, 0)) := heap_below HNA0 HBw2.out (heap_lt HNA0)
        refine hK _ _ (fun _ => hSw2) ?_
        clear hK K
        try simp only [List.getElem_toArray, List.getElem_cons_zero, List.getElem_cons_succ, Act.put, List.setIfInBounds_toArray, List.set_cons_zero, List.set_cons_succ]
        refine AnyT.ready (rs := [6]) (by kernel_rfl) (by simp) (ReadyT.cons rfl (fun K hK => ?_) ReadyT.nil)
        go_simp
        refine ⟨trivial, (callsIn_wide.2 (HLl.out _ hSw2)).mono ?_⟩
        rintro e w3 ⟨ml, rfl, HMl, hgew3, HBw3⟩
        have hszw3 := HBw3.out.size
        have hSw3 : Below w1.heap.size w1 w3 := hSw2.trans (HBw3.out.mono hSw2.size)
        have hzw3 := hSw3.size
        have HNA : w3.heap[w1.heap.size]? = some (.cells #[.int .i64 0, .slice none 0 0, .slice none 0 0, .slice none 0 0, .map none, .map none] 101 (0, 0)) := heap_below HNA1 HBw3.out (heap_lt HNA1)
        refine hK _ _ (fun _ => hSw3) ?_
        clear hK K
        try simp only [List.getElem_toArray, List.getElem_cons_zero, List.getElem_cons_succ, Act.put, List.setIfInBounds_toArray, List.set_cons_zero, List.set_cons_succ]
        refine AnyT.take (i := 7) (v := .agg #[.int .i64 x.ver, .slice x.pa x.procs.length x.pc, .slice x.la x.links.length x.lc, .slice x.ea x.events.length x.ec, .map (some mp), .map (some ml)]) rfl rfl (by kernel_rfl) (by kernel_rfl) (by kernel_rfl) (by kernel_rfl) (by kernel_rfl) (fun _ _ _ h => h) (by kernel_rfl) (fun X hX => by go_simp) (fun _ => rfl) hSw3 ?_
        try simp only [List.getElem_toArray, List.getElem_cons_zero, List.getElem_cons_succ, Act.put, List.setIfInBounds_toArray, List.set_cons_zero, List.set_cons_succ]
        refine AnyT.ready (rs := [9]) (by kernel_rfl) (by simp) (ReadyT.cons rfl (fun K hK => ?_) ReadyT.nil)
        have hm1 := (MapS.below HMp.out HBw3.out HMp.out.lt)
        have hl1 := HMl.out
        have hm1l := HMp.out.lt
        have hl1l := HMl.out.lt
        refine stepIn_store_row rfl 101 _ _ rfl w1.heap.size #[.int .i64 x.ver, .slice x.pa x.procs.length x.pc, .slice x.la x.links.length x.lc, .slice x.ea x.events.length x.ec, .map (some mp), .map (some ml)] rfl rfl 101 _ HNA (by kernel_rfl) rfl (by kernel_rfl) ?_
        have hg := grown_setRow (w3) w1.heap.size #[.int .i64 x.ver, .slice x.pa x.procs.length x.pc, .slice x.la x.links.length x.lc, .slice x.ea x.events.length x.ec, .map (some mp), .map (some ml)]
        have hSf := hSw3.grown hg hSw3.size (fun r e => by cases e; omega)
        refine hK _ _ (fun _ => hSf) ?_
        clear hK K
        try simp only [List.getElem_toArray, List.getElem_cons_zero, List.getElem_cons_succ, Act.put, List.setIfInBounds_toArray, List.set_cons_zero, List.set_cons_succ]
        refine AnyT.done (by kernel_rfl) (noPan_normal ?_) _
        go_wp2
        go_meet
        exact ⟨_, mp, ml, rfl, Lib.hid ⟨hSf, setRow_heap _ _ _ _ _ _ HNA, ⟨_, MapS.kept hm1 hg (fun e => by cases e; omega)⟩, ⟨_, MapS.kept hl1 hg (fun e => by cases e; omega)⟩⟩⟩
    case rest =>
      obtain ⟨N, mp, ml, rfl, H⟩ := hcut
      have HWh : Hid (Wh wc x mp ml) := Lib.hid ⟨HM.out.on H.out.below, H.out.mp_, H.out.ml_⟩
      have hnp : x.m.procs.length = x.procs.length := by unfold ModelV.m; simp
      have HCp : Hid (∀ W, Below wc.heap.size wc W → Calls Tryz.prog 62 #[.slice x.pa x.procs.length x.pc, .int .i64 0, .func (.func 63) #[.agg #[.int .i64 x.ver, .slice x.pa x.procs.length x.pc, .slice x.la x.links.length x.lc, .slice x.ea x.events.length x.ec, .map (some mp), .map (some ml)]] #[]] W fun e w' => e = .returned (.agg #[.int .i64 (erP x.m).1, .int .i64 (erP x.m).2]) ∧ Below W.heap.size W w') := Lib.hid (fun W hW => by
        have h := check_P (cap := x.pc) (HWh.out.on hW).at_.procs 0 (by omega) (by omega) (gf := 63) (bv := wholeVal x mp ml) (E := fun k y => prE x.ver x.links (fstP (x.procs.map (fun y => y.p.name))) k y.p) (fun k p W' hp hW' => proc_any ((HWh.out.on hW).on hW') k (((HWh.out.on hW).on hW').at_.inner p (List.mem_of_getElem? hp)) (HWh.out.at_.procs.fits p (List.mem_of_getElem? hp))) (fun _ _ => rfl)
        rw [fErr_map (fun y : ProcV => y.p) (fun k y => prE x.ver x.links (fstP (x.procs.map (fun y => y.p.name))) k y), nms_v] at h
        exact h)
      have HCl : Hid (∀ W, Below wc.heap.size wc W → Calls Tryz.prog 64 #[.slice x.la x.links.length x.lc, .int .i64 (x.procs.length : Int), .func (.func 65) #[.agg #[.int .i64 x.ver, .slice x.pa x.procs.length x.pc, .slice x.la x.links.length x.lc, .slice x.ea x.events.length x.ec, .map (some mp), .map (some ml)]] #[]] W fun e w' => e = .returned (.agg #[.int .i64 (erL x.m).1, .int .i64 (erL x.m).2]) ∧ Below W.heap.size W w') := Lib.hid (fun W hW => by
        have h := check_L (cap := x.lc) (HWh.out.on hW).at_.links x.procs.length (by omega) (by omega) (gf := 65) (bv := wholeVal x mp ml) (E := lnE x.ver (fstP (x.procs.map (fun y => y.p.name))) (fstP (x.links.map (fun y => y.name)))) (fun k p W' hp hW' => link_any ((HWh.out.on hW).on hW') k (HWh.out.at_.links.fits p (List.mem_of_getElem? hp))) (fun _ _ => rfl)
        rw [nms_v] at h
        unfold erL
        rw [hnp]
        exact h)
      have HCe : Hid (∀ W, Below wc.heap.size wc W → Calls Tryz.prog 66 #[.slice x.ea x.events.length x.ec, .int .i64 ((x.procs.length : Int) + (x.links.length : Int)), .func (.func 67) #[.agg #[.int .i64 x.ver, .slice x.pa x.procs.length x.pc, .slice x.la x.links.length x.lc, .slice x.ea x.events.length x.ec, .map (some mp), .map (some ml)]] #[]] W fun e w' => e = .returned (.agg #[.int .i64 (erE x.m).1, .int .i64 (erE x.m).2]) ∧ Below W.heap.size W w') := Lib.hid (fun W hW => by
        have h := check_E (cap := x.ec) (HWh.out.on hW).at_.events (x.procs.length + x.links.length) (by omega) (by omega) (gf := 67) (bv := wholeVal x mp ml) (E := fun _ e => evE (fstP (x.procs.map (fun y => y.p.name))) e) (fun k p W' hp hW' => event_any ((HWh.out.on hW).on hW') k (HWh.out.at_.events.fits p (List.mem_of_getElem? hp))) (fun _ _ => rfl)
        rw [nms_v] at h
        unfold erE
        rw [hnp]
        rw [show ((x.procs.length + x.links.length : Nat) : Int) = (x.procs.length : Int) + (x.links.length : Int) by omega] at h
        exact h)
      generalize erP x.m = p at *
      generalize erL x.m = q at *
      generalize erE x.m = r at *
      have hL : ∀ (i : Nat) (u : Value), (#[.int .i64 x.ver, .slice x.pa x.procs.length x.pc, .slice x.la x.links.length x.lc, .slice x.ea x.events.length x.ec, .map (some mp), .map (some ml)] : Array Value)[i]? = some u → ∀ W, Below wc.heap.size wc W → W.cell? ⟨N, i, none⟩ = some u := fun i u hu W hW => heap_cell (heap_below H.out.box hW (heap_lt H.out.box)) hu
      have hM : ∀ (i : Nat) (u : Value), (#[.int .i64 x.ver, .slice x.pa x.procs.length x.pc, .slice x.la x.links.length x.lc, .slice x.ea x.events.length x.ec] : Array Value)[i]? = some u → ∀ W, Below wc.heap.size wc W → W.cell? ⟨A, i, none⟩ = some u := fun i u hu W hW => HC1.out i u hu W (H.out.below.trans (hW.mono H.out.below.size))
      have HRs : Hid (∀ W, Below wc.heap.size wc W → W.heap[A + 1]? = some (.cells #[.int .i64 0, .int .i64 0] 54 (0, 0))) := Lib.hid (fun W hW => heap_below (heap_below HO2.out H.out.below hlA) hW (by have := H.out.below.size; omega))
      have d0 := hL 0 _ rfl
      have d1 := hL 1 _ rfl
      have d2 := hL 2 _ rfl
      have d3 := hL 3 _ rfl
      have d4 := hL 4 _ rfl
      have d5 := hL 5 _ rfl
      have e1 := hM 1 _ rfl
      have e2 := hM 2 _ rfl
      have e3 := hM 3 _ rfl
      simp only [List.getElem_toArray, List.getElem_cons_zero, List.getElem_cons_succ] at d0 d1 d2 d3 d4 d5 e1 e2 e3
      have r0 : ∀ W, Below wc.heap.size wc W → W.cell? ⟨A + 1, 0, none⟩ = some (.int .i64 0) := fun W hW => heap_cell (HRs.out W hW) rfl
      have r1 : ∀ W, Below wc.heap.size wc W → W.cell? ⟨A + 1, 1, none⟩ = some (.int .i64 0) := fun W hW => heap_cell (HRs.out W hW) rfl
      have s0 : ∀ W, Below wc.heap.size wc W → W.frozen? ⟨A + 1, 0, none⟩ = false := fun W hW => heap_frozen (HRs.out W hW) 0
      have s1 : ∀ W, Below wc.heap.size wc W → W.frozen? ⟨A + 1, 1, none⟩ = false := fun W hW => heap_frozen (HRs.out W hW) 1
      have HBc := Lib.hid (HB.out.trans (H.out.below.mono (by omega)))
      have HOr : Hid (∀ (W : World) (N' : Nat), W.heap[N']? = some (.cells #[.int .i64 p.1, .int .i64 p.2, .int .i64 q.1, .int .i64 q.2, .int .i64 r.1, .int .i64 r.2] 54 (0, 0)) → Calls Tryz.prog 61 #[.slice (some ⟨N', 0, none⟩) 3 3] W fun e w' => e = .returned (.agg #[.int .i64 R.1, .int .i64 R.2]) ∧ Below W.heap.size W w') := Lib.hid (fun W N' hN => orF3_any hN HR.out)
      obtain ⟨p1, p2⟩ := p
      obtain ⟨q1, q2⟩ := q
      obtain ⟨r1', r2'⟩ := r
      obtain ⟨R1, R2⟩ := R
      simp only at HCp HCl HCe HOr
      clear hL hM HC1 HPl HLl HWh HR hnp HRet HO1 HO2 HM
      go_upto_region 6 with fail
      have hd : Below wc.heap.size wc wc.drew := (Below.refl _ _).drew
      refine (wpIn_wide (n := 3)).1 ?_
      refine region_T_calm (fun X => Below wc.heap.size wc X) (fun j => decide (j < 27)) rfl (by kernel_rfl) ?_
      change AnyT _ _ _ _ _ _ _ _ 28 _ _ (World.drew _)
      refine AnyT.take (i := 0) (v := .pointer (some ⟨A, 1, none⟩)) rfl rfl (by kernel_rfl) (by kernel_rfl) (by kernel_rfl) (by kernel_rfl) (by kernel_rfl) (fun _ _ _ h => h) (by kernel_rfl) (fun X hX => by go_simp) (fun _ => rfl) hd ?_
      try simp only [List.getElem_toArray, List.getElem_cons_zero, List.getElem_cons_succ, Act.put, List.setIfInBounds_toArray, List.set_cons_zero, List.set_cons_succ]
      refine AnyT.take (i := 1) (v := .slice x.pa x.procs.length x.pc) rfl rfl (by kernel_rfl) (by kernel_rfl) (by kernel_rfl) (by kernel_rfl) (by kernel_rfl) (fun _ _ _ h => h) (by kernel_rfl) (fun X hX => by have c := e1 X hX; go_simp) (fun _ => rfl) hd ?_
      try simp only [List.getElem_toArray, List.getElem_cons_zero, List.getElem_cons_succ, Act.put, List.setIfInBounds_toArray, List.set_cons_zero, List.set_cons_succ]
      refine AnyT.take (i := 2) (v := .agg #[.int .i64 x.ver, .slice x.pa x.procs.length x.pc, .slice x.la x.links.length x.lc, .slice x.ea x.events.length x.ec, .map (some mp), .map (some ml)]) rfl rfl (by kernel_rfl) (by kernel_rfl) (by kernel_rfl) (by kernel_rfl) (by kernel_rfl) (fun _ _ _ h => h) (by kernel_rfl) (fun X hX => by have c0 := d0 X hX; have c1 := d1 X hX; have c2 := d2 X hX; have c3 := d3 X hX; have c4 := d4 X hX; have c5 := d5 X hX; go_simp) (fun _ => rfl) hd ?_
      try simp only [List.getElem_toArray, List.getElem_cons_zero, List.getElem_cons_succ, Act.put, List.setIfInBounds_toArray, List.set_cons_zero, List.set_cons_succ]
      refine AnyT.take (i := 3) (v := .func (.func 63) #[.agg #[.int .i64 x.ver, .slice x.pa x.procs.length x.pc, .slice x.la x.links.length x.lc, .slice x.ea x.events.length x.ec, .map (some mp), .map (some ml)]] #[]) rfl rfl (by kernel_rfl) (by kernel_rfl) (by kernel_rfl) (by kernel_rfl) (by kernel_rfl) (fun _ _ _ h => h) (by kernel_rfl) (fun X hX => by go_simp) (fun _ => rfl) hd ?_
      try simp only [List.getElem_toArray, List.getElem_cons_zero, List.getElem_cons_succ, Act.put, List.setIfInBounds_toArray, List.set_cons_zero, List.set_cons_succ]
      refine AnyT.take (i := 5) (v := .pointer (some ⟨A, 2, none⟩)) rfl rfl (by kernel_rfl) (by kernel_rfl) (by kernel_rfl) (by kernel_rfl) (by kernel_rfl) (fun _ _ _ h => h) (by kernel_rfl) (fun X hX => by go_simp) (fun _ => rfl) hd ?_
      try simp only [List.getElem_toArray, List.getElem_cons_zero, List.getElem_cons_succ, Act.put, List.setIfInBounds_toArray, List.set_cons_zero, List.set_cons_succ]
      refine AnyT.take (i := 6) (v := .slice x.la x.links.length x.lc) rfl rfl (by kernel_rfl) (by kernel_rfl) (by kernel_rfl) (by kernel_rfl) (by kernel_rfl) (fun _ _ _ h => h) (by kernel_rfl) (fun X hX => by have c := e2 X hX; go_simp) (fun _ => rfl) hd ?_
      try simp only [List.getElem_toArray, List.getElem_cons_zero, List.getElem_cons_succ, Act.put, List.setIfInBounds_toArray, List.set_cons_zero, List.set_cons_succ]
      refine AnyT.take (i := 7) (v := .pointer (some ⟨A, 1, none⟩)) rfl rfl (by kernel_rfl) (by kernel_rfl) (by kernel_rfl) (by kernel_rfl) (by kernel_rfl) (fun _ _ _ h => h) (by kernel_rfl) (fun X hX => by go_simp) (fun _ => rfl) hd ?_
      try simp only [List.getElem_toArray, List.getElem_cons_zero, List.getElem_cons_succ, Act.put, List.setIfInBounds_toArray, List.set_cons_zero, List.set_cons_succ]
      refine AnyT.take (i := 8) (v := .slice x.pa x.procs.length x.pc) rfl rfl (by kernel_rfl) (by kernel_rfl) (by kernel_rfl) (by kernel_rfl) (by kernel_rfl) (fun _ _ _ h => h) (by kernel_rfl) (fun X hX => by have c := e1 X hX; go_simp) (fun _ => rfl) hd ?_
      try simp only [List.getElem_toArray, List.getElem_cons_zero, List.getElem_cons_succ, Act.put, List.setIfInBounds_toArray, List.set_cons_zero, List.set_cons_succ]
      refine AnyT.take (i := 9) (v := .int .i64 (x.procs.length : Int)) rfl rfl (by kernel_rfl) (by kernel_rfl) (by kernel_rfl) (by kernel_rfl) (by kernel_rfl) (fun _ _ _ h => h) (by kernel_rfl) (fun X hX => by go_simp) (fun _ => rfl) hd ?_
      try simp only [List.getElem_toArray, List.getElem_cons_zero, List.getElem_cons_succ, Act.put, List.setIfInBounds_toArray, List.set_cons_zero, List.set_cons_succ]
      refine AnyT.take (i := 10) (v := .agg #[.int .i64 x.ver, .slice x.pa x.procs.length x.pc, .slice x.la x.links.length x.lc, .slice x.ea x.events.length x.ec, .map (some mp), .map (some ml)]) rfl rfl (by kernel_rfl) (by kernel_rfl) (by kernel_rfl) (by kernel_rfl) (by kernel_rfl) (fun _ _ _ h => h) (by kernel_rfl) (fun X hX => by have c0 := d0 X hX; have c1 := d1 X hX; have c2 := d2 X hX; have c3 := d3 X hX; have c4 := d4 X hX; have c5 := d5 X hX; go_simp) (fun _ => rfl) hd ?_
      try simp only [List.getElem_toArray, List.getElem_cons_zero, List.getElem_cons_succ, Act.put, List.setIfInBounds_toArray, List.set_cons_zero, List.set_cons_succ]
      refine AnyT.take (i := 11) (v := .func (.func 65) #[.agg #[.int .i64 x.ver, .slice x.pa x.procs.length x.pc, .slice x.la x.links.length x.lc, .slice x.ea x.events.length x.ec, .map (some mp), .map (some ml)]] #[]) rfl rfl (by kernel_rfl) (by kernel_rfl) (by kernel_rfl) (by kernel_rfl) (by kernel_rfl) (fun _ _ _ h => h) (by kernel_rfl) (fun X hX => by go_simp) (fun _ => rfl) hd ?_
      try simp only [List.getElem_toArray, List.getElem_cons_zero, List.getElem_cons_succ, Act.put, List.setIfInBounds_toArray, List.set_cons_zero, List.set_cons_succ]
      refine AnyT.take (i := 13) (v := .pointer (some ⟨A, 3, none⟩)) rfl rfl (by kernel_rfl) (by kernel_rfl) (by kernel_rfl) (by kernel_rfl) (by kernel_rfl) (fun _ _ _ h => h) (by kernel_rfl) (fun X hX => by go_simp) (fun _ => rfl) hd ?_
      try simp only [List.getElem_toArray, List.getElem_cons_zero, List.getElem_cons_succ, Act.put, List.setIfInBounds_toArray, List.set_cons_zero, List.set_cons_succ]
      refine AnyT.take (i := 14) (v := .slice x.ea x.events.length x.ec) rfl rfl (by kernel_rfl) (by kernel_rfl) (by kernel_rfl) (by kernel_rfl) (by kernel_rfl) (fun _ _ _ h => h) (by kernel_rfl) (fun X hX => by have c := e3 X hX; go_simp) (fun _ => rfl) hd ?_
      try simp only [List.getElem_toArray, List.getElem_cons_zero, List.getElem_cons_succ, Act.put, List.setIfInBounds_toArray, List.set_cons_zero, List.set_cons_succ]
      refine AnyT.take (i := 15) (v := .pointer (some ⟨A, 1, none⟩)) rfl rfl (by kernel_rfl) (by kernel_rfl) (by kernel_rfl) (by kernel_rfl) (by kernel_rfl) (fun _ _ _ h => h) (by kernel_rfl) (fun X hX => by go_simp) (fun _ => rfl) hd ?_
      try simp only [List.getElem_toArray, List.getElem_cons_zero, List.getElem_cons_succ, Act.put, List.setIfInBounds_toArray, List.set_cons_zero, List.set_cons_succ]
      refine AnyT.take (i := 16) (v := .slice x.pa x.procs.length x.pc) rfl rfl (by kernel_rfl) (by kernel_rfl) (by kernel_rfl) (by kernel_rfl) (by kernel_rfl) (fun _ _ _ h => h) (by kernel_rfl) (fun X hX => by have c := e1 X hX; go_simp) (fun _ => rfl) hd ?_
      try simp only [List.getElem_toArray, List.getElem_cons_zero, List.getElem_cons_succ, Act.put, List.setIfInBounds_toArray, List.set_cons_zero, List.set_cons_succ]
      refine AnyT.take (i := 17) (v := .int .i64 (x.procs.length : Int)) rfl rfl (by kernel_rfl) (by kernel_rfl) (by kernel_rfl) (by kernel_rfl) (by kernel_rfl) (fun _ _ _ h => h) (by kernel_rfl) (fun X hX => by go_simp) (fun _ => rfl) hd ?_
      try simp only [List.getElem_toArray, List.getElem_cons_zero, List.getElem_cons_succ, Act.put, List.setIfInBounds_toArray, List.set_cons_zero, List.set_cons_succ]
      refine AnyT.take (i := 18) (v := .pointer (some ⟨A, 2, none⟩)) rfl rfl (by kernel_rfl) (by kernel_rfl) (by kernel_rfl) (by kernel_rfl) (by kernel_rfl) (fun _ _ _ h => h) (by kernel_rfl) (fun X hX => by go_simp) (fun _ => rfl) hd ?_
      try simp only [List.getElem_toArray, List.getElem_cons_zero, List.getElem_cons_succ, Act.put, List.setIfInBounds_toArray, List.set_cons_zero, List.set_cons_succ]
      refine AnyT.take (i := 19) (v := .slice x.la x.links.length x.lc) rfl rfl (by kernel_rfl) (by kernel_rfl) (by kernel_rfl) (by kernel_rfl) (by kernel_rfl) (fun _ _ _ h => h) (by kernel_rfl) (fun X hX => by have c := e2 X hX; go_simp) (fun _ => rfl) hd ?_
      try simp only [List.getElem_toArray, List.getElem_cons_zero, List.getElem_cons_succ, Act.put, List.setIfInBounds_toArray, List.set_cons_zero, List.set_cons_succ]
      refine AnyT.take (i := 20) (v := .int .i64 (x.links.length : Int)) rfl rfl (by kernel_rfl) (by kernel_rfl) (by kernel_rfl) (by kernel_rfl) (by kernel_rfl) (fun _ _ _ h => h) (by kernel_rfl) (fun X hX => by go_simp) (fun _ => rfl) hd ?_
      try simp only [List.getElem_toArray, List.getElem_cons_zero, List.getElem_cons_succ, Act.put, List.setIfInBounds_toArray, List.set_cons_zero, List.set_cons_succ]
      refine AnyT.take (i := 21) (v := .int .i64 ((x.procs.length : Int) + (x.links.length : Int))) rfl rfl (by kernel_rfl) (by kernel_rfl) (by kernel_rfl) (by kernel_rfl) (by kernel_rfl) (fun _ _ _ h => h) (by kernel_rfl) (fun X hX => by have hw : IntKind.i64.wrap ((x.procs.length : Int) + (x.links.length : Int)) = (x.procs.length : Int) + (x.links.length : Int) := IntWalk.i64_in _ (by omega); go_simp) (fun _ => rfl) hd ?_
      try simp only [List.getElem_toArray, List.getElem_cons_zero, List.getElem_cons_succ, Act.put, List.setIfInBounds_toArray, List.set_cons_zero, List.set_cons_succ]
      refine AnyT.take (i := 22) (v := .agg #[.int .i64 x.ver, .slice x.pa x.procs.length x.pc, .slice x.la x.links.length x.lc, .slice x.ea x.events.length x.ec, .map (some mp), .map (some ml)]) rfl rfl (by kernel_rfl) (by kernel_rfl) (by kernel_rfl) (by kernel_rfl) (by kernel_rfl) (fun _ _ _ h => h) (by kernel_rfl) (fun X hX => by have c0 := d0 X hX; have c1 := d1 X hX; have c2 := d2 X hX; have c3 := d3 X hX; have c4 := d4 X hX; have c5 := d5 X hX; go_simp) (fun _ => rfl) hd ?_
      try simp only [List.getElem_toArray, List.getElem_cons_zero, List.getElem_cons_succ, Act.put, List.setIfInBounds_toArray, List.set_cons_zero, List.set_cons_succ]
      refine AnyT.take (i := 23) (v := .func (.func 67) #[.agg #[.int .i64 x.ver, .slice x.pa x.procs.length x.pc, .slice x.la x.links.length x.lc, .slice x.ea x.events.length x.ec, .map (some mp), .map (some ml)]] #[]) rfl rfl (by kernel_rfl) (by kernel_rfl) (by kernel_rfl) (by kernel_rfl) (by kernel_rfl) (fun _ _ _ h => h) (by kernel_rfl) (fun X hX => by go_simp) (fun _ => rfl) hd ?_
      try simp only [List.getElem_toArray, List.getElem_cons_zero, List.getElem_cons_succ, Act.put, List.setIfInBounds_toArray, List.set_cons_zero, List.set_cons_succ]
      refine AnyT.ready (rs := [4]) (by kernel_rfl) (by simp) (ReadyT.cons rfl (fun K hK => ?_) ReadyT.nil)
      go_simp
      refine ⟨trivial, (callsIn_wide.2 (HCp.out _ hd)).mono ?_⟩
      rintro e w5 ⟨rfl, hbw5⟩
      have hSw5 : Below wc.heap.size wc w5 := hd.trans (hbw5.mono hd.size)
      refine hK _ _ (fun _ => hSw5) ?_
      clear hK K
      try simp only [List.getElem_toArray, List.getElem_cons_zero, List.getElem_cons_succ, Act.put, List.setIfInBounds_toArray, List.set_cons_zero, List.set_cons_succ]
      refine AnyT.ready (rs := [12]) (by kernel_rfl) (by simp) (ReadyT.cons rfl (fun K hK => ?_) ReadyT.nil)
      go_simp
      refine ⟨trivial, (callsIn_wide.2 (HCl.out _ hSw5)).mono ?_⟩
      rintro e w6 ⟨rfl, hbw6⟩
      have hSw6 : Below wc.heap.size wc w6 := hSw5.trans (hbw6.mono hSw5.size)
      refine hK _ _ (fun _ => hSw6) ?_
      clear hK K
      try simp only [List.getElem_toArray, List.getElem_cons_zero, List.getElem_cons_succ, Act.put, List.setIfInBounds_toArray, List.set_cons_zero, List.set_cons_succ]
      refine AnyT.ready (rs := [24]) (by kernel_rfl) (by simp) (ReadyT.cons rfl (fun K hK => ?_) ReadyT.nil)
      go_simp
      refine ⟨trivial, (callsIn_wide.2 (HCe.out _ hSw6)).mono ?_⟩
      rintro e w7 ⟨rfl, hbw7⟩
      have hSw7 : Below wc.heap.size wc w7 := hSw6.trans (hbw7.mono hSw6.size)
      refine hK _ _ (fun _ => hSw7) ?_
      clear hK K
      try simp only [List.getElem_toArray, List.getElem_cons_zero, List.getElem_cons_succ, Act.put, List.setIfInBounds_toArray, List.set_cons_zero, List.set_cons_succ]
      refine AnyT.ready (rs := [25]) (by kernel_rfl) (by simp) (ReadyT.cons rfl (fun K hK => ?_) ReadyT.nil)
      go_simp
      have hS8 : Below wc.heap.size wc (w7.alloc (.cells #[.int .i64 p1, .int .i64 p2, .int .i64 q1, .int .i64 q2, .int .i64 r1', .int .i64 r2'] 54)) := hSw7.alloc hSw7.size _
      refine hK _ _ (fun _ => hS8) ?_
      clear hK K
      try simp only [List.getElem_toArray, List.getElem_cons_zero, List.getElem_cons_succ, Act.put, List.setIfInBounds_toArray, List.set_cons_zero, List.set_cons_succ]
      refine AnyT.ready (rs := [26]) (by kernel_rfl) (by simp) (ReadyT.cons rfl (fun K hK => ?_) ReadyT.nil)
      go_simp
      refine ⟨trivial, (callsIn_wide.2 (HOr.out _ _ (heap_new _ rfl))).mono ?_⟩
      rintro e w9 ⟨rfl, hb9⟩
      have hS9 : Below wc.heap.size wc w9 := hS8.trans (hb9.mono hS8.size)
      refine hK _ _ (fun _ => hS9) ?_
      clear hK K
      try simp only [List.getElem_toArray, List.getElem_cons_zero, List.getElem_cons_succ, Act.put, List.setIfInBounds_toArray, List.set_cons_zero, List.set_cons_succ]
      refine AnyT.ready (rs := [27]) (by kernel_rfl) (by simp) (ReadyT.cons rfl (fun K hK => ?_) ReadyT.nil)
      have c0 := r0 w9 hS9
      have c1 := r1 w9 hS9
      have t0 := s0 w9 hS9
      have t1 := s1 w9 hS9
      have hx := heap_set (heap_set (HRs.out w9 hS9) 0 (.int .i64 R1)) 1 (.int .i64 R2)
      have hy : Below A w ((w9.setCell ⟨A + 1, 0, none⟩ (.int .i64 R1)).setCell ⟨A + 1, 1, none⟩ (.int .i64 R2)) := ((HBc.out.trans (hS9.mono (by have := H.out.below.size; omega))).setCell (p := ⟨A + 1, 0, none⟩) (by show A ≤ A + 1; omega) _).setCell (p := ⟨A + 1, 1, none⟩) (by show A ≤ A + 1; omega) _
      go_simp
      refine hK _ _ (fun h => by simp at h) ?_
      clear hK K
      try simp only [List.getElem_toArray, List.getElem_cons_zero, List.getElem_cons_succ, Act.put, List.setIfInBounds_toArray, List.set_cons_zero, List.set_cons_succ]
      have HX := Lib.hid hx
      have HY := Lib.hid hy
      clear hx hy c0 c1 t0 t1 r0 r1 s0 s1
      refine AnyT.done (by kernel_rfl) (noPan_normal ?_) _
      go_wp2
      refine bodyPost_ret (flt_ret rfl HX.out rfl) rfl ?_
      exact ⟨rfl, by rw [HA.out]; exact HY.out⟩
end Go.Proofs.YtjcmeacgfflfmaaGreat.Md
