/- Contracts: a name's first place in a list. -/
import Derived.Test.YtjcmeacgfflfmaaGreatMdJ
set_option linter.unusedVariables false
set_option linter.unusedSectionVars false
set_option linter.unusedSimpArgs false
namespace Go.Proofs.YtjcmeacgfflfmaaGreat.Md
open Go.RowKit Go.Shelf

/-- The first place, or -1. -/
def plcI (ns : List ByteArray) (y : ByteArray) : Int := match fstP ns y with | some i => (i : Int) | none => -1
theorem bytes_eq {a b : ByteArray} : (a.toList == b.toList) = decide (a = b) := by
  rw [Bool.eq_iff_iff]
  simp only [beq_iff_eq, decide_eq_true_eq]
  constructor
  · intro h
    rw [ByteArray.toList_eq, ByteArray.toList_eq] at h
    exact WideShapes.bytes_inj h
  · rintro rfl; rfl
theorem fstP_at {ns : List ByteArray} {k : Nat} {y : ByteArray} (h1 : ∀ i, i < k → ns[i]? ≠ some y) (h2 : ns[k]? = some y) : fstP ns y = some k := by
  induction ns generalizing k with
  | nil => simp at h2
  | cons z r ih =>
    unfold fstP
    cases k with
    | zero =>
      have : z = y := by simpa using h2
      rw [if_pos this]
    | succ k =>
      have hz : ¬ z = y := fun e => h1 0 (Nat.succ_pos _) (by simp [e])
      rw [if_neg hz, ih (k := k) (fun i hi => by have := h1 (i + 1) (by omega); simpa using this) (by simpa using h2)]
      rfl
theorem fstP_no {ns : List ByteArray} {y : ByteArray} (h1 : ∀ i, i < ns.length → ns[i]? ≠ some y) : fstP ns y = none := by
  cases h : fstP ns y with
  | none => rfl
  | some k =>
    exfalso
    have : ∀ (l : List ByteArray) (k : Nat), fstP l y = some k → l[k]? = some y := fun l => by
      induction l with
      | nil => intro k h; cases h
      | cons z r ih =>
        intro k h
        unfold fstP at h
        by_cases e : z = y
        · rw [if_pos e] at h; cases h; simp [e]
        · rw [if_neg e] at h
          cases hr : fstP r y with
          | none => rw [hr] at h; cases h
          | some j => rw [hr] at h; cases h; simpa using ih j hr
    exact h1 k (fstP_lt h) (this _ _ h)

set_option maxHeartbeats 2000000 in
theorem close_P {w : World} {b1 b2 : Nat} {y : ByteArray} (h1 : Boxed w b1 65 (.func (.func 58) #[] #[])) (h2 : Boxed w b2 9 (.string y)) (x : ProcV) :
    Calls Tryz.prog 108 #[.agg #[.string x.p.name, .int .i64 x.p.weight, .slice x.va x.p.vars.length x.vc, .slice x.sa x.p.steps.length x.sc], .pointer (some ⟨b1, 0, none⟩), .pointer (some ⟨b2, 0, none⟩)] w fun e w' => e = .returned (.bool (x.p.name.toList == y.toList)) ∧ Below w.heap.size w w' := by
  have HB := Lib.hid (below_one w (.cells #[.string x.p.name, .int .i64 x.p.weight, .slice x.va x.p.vars.length x.vc, .slice x.sa x.p.steps.length x.sc] 34))
  have HO1 : Hid ((w.alloc (.cells #[.string x.p.name, .int .i64 x.p.weight, .slice x.va x.p.vars.length x.vc, .slice x.sa x.p.steps.length x.sc] 34)).heap[w.heap.size]? = some (.cells #[.string x.p.name, .int .i64 x.p.weight, .slice x.va x.p.vars.length x.vc, .slice x.sa x.p.steps.length x.sc] 34 (0, 0))) := Lib.hid (heap_new _ rfl)
  have HB1 := Lib.hid (heap_alloc h1 (.cells #[.string x.p.name, .int .i64 x.p.weight, .slice x.va x.p.vars.length x.vc, .slice x.sa x.p.steps.length x.sc] 34))
  have HB2 := Lib.hid (heap_alloc h2 (.cells #[.string x.p.name, .int .i64 x.p.weight, .slice x.va x.p.vars.length x.vc, .slice x.sa x.p.steps.length x.sc] 34))
  have HC : Hid (∀ W, Calls Tryz.prog 58 #[.agg #[.string x.p.name, .int .i64 x.p.weight, .slice x.va x.p.vars.length x.vc, .slice x.sa x.p.steps.length x.sc]] W fun e w' => e = .returned (.string x.p.name) ∧ Below W.heap.size W w') := Lib.hid (fun W => procName_any x W)
  clear h1 h2
  obtain ⟨bb, hbb⟩ : ∃ bb, (x.p.name.toList == y.toList) = bb := ⟨_, rfl⟩
  rw [hbb]
  go_enter Tryz.func108, Tryz.ntmps108
  go_upto_region 1 with fail
  generalize w.alloc (.cells #[.string x.p.name, .int .i64 x.p.weight, .slice x.va x.p.vars.length x.vc, .slice x.sa x.p.steps.length x.sc] 34) = w1 at *
  have d0 : ∀ W, Below w1.heap.size w1 W → W.cell? ⟨w.heap.size, 0, none⟩ = some (.string x.p.name) := fun W hW => heap_cell (heap_below HO1.out hW (heap_lt HO1.out)) rfl
  have d1 : ∀ W, Below w1.heap.size w1 W → W.cell? ⟨w.heap.size, 1, none⟩ = some (.int .i64 x.p.weight) := fun W hW => heap_cell (heap_below HO1.out hW (heap_lt HO1.out)) rfl
  have d2 : ∀ W, Below w1.heap.size w1 W → W.cell? ⟨w.heap.size, 2, none⟩ = some (.slice x.va x.p.vars.length x.vc) := fun W hW => heap_cell (heap_below HO1.out hW (heap_lt HO1.out)) rfl
  have d3 : ∀ W, Below w1.heap.size w1 W → W.cell? ⟨w.heap.size, 3, none⟩ = some (.slice x.sa x.p.steps.length x.sc) := fun W hW => heap_cell (heap_below HO1.out hW (heap_lt HO1.out)) rfl
  have e1 : ∀ W, Below w1.heap.size w1 W → W.cell? ⟨b1, 0, none⟩ = some (.func (.func 58) #[] #[]) := fun W hW => heap_cell (heap_below HB1.out hW (heap_lt HB1.out)) rfl
  have e2 : ∀ W, Below w1.heap.size w1 W → W.cell? ⟨b2, 0, none⟩ = some (.string y) := fun W hW => heap_cell (heap_below HB2.out hW (heap_lt HB2.out)) rfl
  go_region_held3 (fun W => Below w1.heap.size w1 W) (first | assumption | exact Below.refl _ _ | exact (Below.refl _ _).drew | exact Below.drew (by assumption)) (first
    | (go_at_call 58; refine (HC.out _).mono ?_; rintro e w5 ⟨rfl, hb⟩; have hS5 : Below w1.heap.size w1 w5 := Below.trans (show Below w1.heap.size w1 _ by first | assumption | exact (Below.refl _ _).drew | exact Below.refl _ _) (hb.mono (show Below w1.heap.size w1 _ by first | assumption | exact (Below.refl _ _).drew | exact Below.refl _ _).size); clear hb))
  all_goals
    go_wp2
    go_ret
    exact ⟨rfl, HB.out.trans (hS5.mono HB.out.size)⟩
set_option maxRecDepth 100000 in
set_option maxHeartbeats 2000000 in
theorem index_P {w : World} {a : Option Addr} {b off len cap : Nat} {L : List ProcV} (h : RowsAt encP fitP 4 w.heap.size w a b off len L) {b1 b2 : Nat} {y : ByteArray} (h1 : Boxed w b1 65 (.func (.func 58) #[] #[])) (h2 : Boxed w b2 9 (.string y)) :
    Calls Tryz.prog 107 #[.slice a len cap, .func (.func 108) #[] #[.pointer (some ⟨b1, 0, none⟩), .pointer (some ⟨b2, 0, none⟩)]] w fun e w' => e = .returned (.int .i64 (plcI (L.map (fun x => x.p.name)) y)) ∧ Below w.heap.size w w' := by
  have HM := Lib.hid h
  have HL := Lib.hid h.length
  have HF1 := Lib.hid h1
  have HF2 := Lib.hid h2
  obtain ⟨ns, hns⟩ : ∃ ns, L.map (fun x => x.p.name) = ns := ⟨_, rfl⟩
  rw [hns]
  have HNl : Hid (ns.length = len) := Lib.hid (by rw [← hns, List.length_map, h.length])
  have HNx : Hid (∀ (j : Nat) (x : ProcV), L[j]? = some x → ns[j]? = some x.p.name) := Lib.hid (fun j x hx => by rw [← hns, List.getElem?_map, hx]; rfl)
  have hsm := h.small
  unfold maxLen at hsm
  clear h hns h1 h2
  obtain ⟨R, hR⟩ : ∃ R, plcI ns y = R := ⟨_, rfl⟩
  rw [hR]
  have HR := Lib.hid hR
  clear hR
  go_enter Tryz.func107, Tryz.ntmps107
  go_wp2
  go_loopw [8] (fun i wr => ∃ j : Nat, i = .int .i64 (j : Int) ∧ j ≤ len ∧ Hid (∀ i, i < j → ns[i]? ≠ some y) ∧ Hid (Below w.heap.size w wr)) (fun i _ => len - (intOf i).toNat)
  case atStart => exact ⟨0, rfl, Nat.zero_le _, Lib.hid (fun i hi => by omega), Lib.hid (Below.refl _ _)⟩
  case round =>
    obtain ⟨j, rfl, hj, HN, HT⟩ := hrel
    by_cases hlt : j < len
    · have hI := HM.out.kept HT.out (Nat.le_refl _)
      obtain rfl : a = some ⟨b, off, none⟩ := hI.addr.resolve_left (by omega)
      have hx : L[j]? = some (L[j]'(by rw [HL.out]; exact hlt)) := List.getElem?_eq_getElem _
      generalize L[j]'(by rw [HL.out]; exact hlt) = x at hx
      have c0 : wr.cell? ⟨b, off + j * 4, none⟩ = some (.string x.p.name) := hI.cell j x hx 0 _ rfl
      have c1 : wr.cell? ⟨b, off + j * 4 + 1, none⟩ = some (.int .i64 x.p.weight) := hI.cell j x hx 1 _ rfl
      have c2 : wr.cell? ⟨b, off + j * 4 + 2, none⟩ = some (.slice x.va x.p.vars.length x.vc) := hI.cell j x hx 2 _ rfl
      have c3 : wr.cell? ⟨b, off + j * 4 + 3, none⟩ = some (.slice x.sa x.p.steps.length x.sc) := hI.cell j x hx 3 _ rfl
      have hji : (j : Int) < (len : Int) := by omega
      have hj0 : (0 : Int) ≤ (j : Int) := Int.natCast_nonneg j
      have HX := Lib.hid (HNx.out j x hx)
      have HC := Lib.hid (close_P (heap_below HF1.out HT.out (heap_lt HF1.out)) (heap_below HF2.out HT.out (heap_lt HF2.out)) x)
      have HEq : Hid ((x.p.name.toList == y.toList) = decide (x.p.name = y)) := Lib.hid bytes_eq
      clear hI hx
      cases hb : (x.p.name.toList == y.toList) with
      | true =>
        rw [hb] at HC HEq
        have HRe : Hid (R = (j : Int)) := Lib.hid (by
          rw [← HR.out]; unfold plcI
          rw [fstP_at HN.out (by rw [HX.out, of_decide_eq_true HEq.out.symm])])
        clear hb HEq
        go_wp2_with fail
        refine HC.out.mono ?_
        rintro e w2 ⟨rfl, hb2⟩
        have HB2 := Lib.hid (HT.out.trans (hb2.mono HT.out.size))
        clear hb2 HC
        go_wp2
        go_ret
        exact ⟨by rw [HRe.out]; rfl, HB2.out⟩
      | false =>
        rw [hb] at HC HEq
        have HN2 : Hid (∀ i, i < j + 1 → ns[i]? ≠ some y) := Lib.hid (fun i hi => by
          by_cases e : i = j
          · subst e
            rw [HX.out]
            intro h
            cases h
            exact absurd HEq.out (by simp)
          · exact HN.out i (by omega))
        clear hb HEq
        go_wp2_with fail
        refine HC.out.mono ?_
        rintro e w2 ⟨rfl, hb2⟩
        have HB2 := Lib.hid (HT.out.trans (hb2.mono HT.out.size))
        clear hb2 HC
        go_wp2
        go_roundw
        case rel => exact ⟨j + 1, by go_num, by omega, HN2, HB2⟩
        case measure => simp [intOf]; omega
    · obtain rfl : j = len := by omega
      have HRe : Hid (R = -1) := Lib.hid (by
        rw [← HR.out]; unfold plcI
        rw [fstP_no (fun i hi => HN.out i (by rw [← HNl.out]; exact hi))])
      go_wp2
      go_ret
      exact ⟨by rw [HRe.out]; rfl, HT.out⟩
theorem place_P {w : World} {a : Option Addr} {b off len cap : Nat} {L : List ProcV} (h : RowsAt encP fitP 4 w.heap.size w a b off len L) (y : ByteArray) :
    Calls Tryz.prog 68 #[.slice a len cap, .func (.func 58) #[] #[], .string y] w fun e w' => e = .returned (.int .i64 (plcI (L.map (fun x => x.p.name)) y)) ∧ Below w.heap.size w w' := by
  have hb1 := below_one w (.cells #[.func (.func 58) #[] #[]] 65)
  have HB := Lib.hid (hb1.alloc hb1.size (.cells #[.string y] 9))
  have HX := Lib.hid (index_P (cap := cap) (b1 := w.heap.size) (b2 := w.heap.size + 1) (h.on HB.out) (heap_alloc (heap_new _ rfl) _) (heap_new _ (by simp)))
  clear h hb1
  generalize plcI (L.map (fun x => x.p.name)) y = r at *
  go_enter Tryz.func68, Tryz.ntmps68
  go_wp2_with fail
  refine HX.out.mono ?_
  rintro e w2 ⟨rfl, hb2⟩
  have HB2 := Lib.hid (HB.out.trans (hb2.mono HB.out.size))
  clear hb2 HX
  go_wp2
  go_ret
  exact ⟨rfl, HB2.out⟩

end Go.Proofs.YtjcmeacgfflfmaaGreat.Md
