/- Contracts: the first thing of a list that is wrong. -/
import Derived.Test.YtgnlehenbdcgmaaMdE
import Derived.Laws.Rows
set_option linter.unusedVariables false
set_option linter.unusedSectionVars false
set_option linter.unusedSimpArgs false
namespace Go.Proofs.Ytgnlehenbdcgmaa.Md
open Go.RowKit

/-- The first that is wrong: its error, and how many stand up to it. -/
def fErr {α : Type} (E : Nat → α → Int) : Nat → List α → Int × Nat
  | _, [] => (0, 0)
  | k, x :: r => if E k x ≠ 0 then (E k x, k + 1) else fErr E (k + 1) r
theorem fErr_step {α : Type} {E : Nat → α → Int} {L : List α} {k : Nat} {x : α} (hx : L[k]? = some x) : fErr E k (L.drop k) = if E k x ≠ 0 then (E k x, k + 1) else fErr E (k + 1) (L.drop (k + 1)) := by
  obtain ⟨hk, rfl⟩ := List.getElem?_eq_some_iff.1 hx
  rw [List.drop_eq_getElem_cons hk]
  rfl
theorem fErr_congr {α : Type} {E E' : Nat → α → Int} : ∀ (L : List α) (k : Nat), (∀ i x, L[i]? = some x → E (k + i) x = E' (k + i) x) → fErr E k L = fErr E' k L
  | [], k, _ => rfl
  | x :: r, k, h => by
    have h0 := h 0 x rfl
    have ih := fErr_congr r (k + 1) (fun i y hy => (show k + (i + 1) = k + 1 + i by omega) ▸ h (i + 1) y (by simpa using hy))
    unfold fErr
    rw [Nat.add_zero] at h0
    rw [h0, ih]
/-- The fault behind so many declarations. -/
def fltV (ahead : Nat) (p : Int × Nat) : Value := .agg #[.int .i64 p.1, .int .i64 (if p.1 = 0 then 0 else ((ahead + p.2 : Nat) : Int))]
theorem Try.infoFl : (Try.prog.info? 31).map (·.size) = some 2 := by kernel_rfl
theorem flt_ret {fn : Func} {p : Tmp} (h : fn.results = #[.cell p 31]) {W : World} {B : Nat} {u v : Value} {tmps : Array Value} (hx : W.heap[B]? = some (.cells #[u, v] 31 (0, 0)))
    (h2 : tmps.getD p undef = .pointer (some ⟨B, 0, none⟩)) : (results fn tmps).run Try.prog W = .ok (.agg #[u, v]) W :=
  results_cell_row h _ _ B 31 _ (0, 0) _ h2 hx Try.underlying31 rfl Try.infoFl

set_option maxRecDepth 100000 in
set_option maxHeartbeats 2000000 in
theorem check_V {w : World} {a : Option Addr} {b off len cap : Nat} {L : List VarM} (h : RowsAt encV fitV 2 w.heap.size w a b off len L) (ahead : Nat) (hah : ahead ≤ 100000) (hsm : len ≤ 100000) {gf : Nat} {bv : Value} {E : Nat → VarM → Int}
    (hF : ∀ (k : Nat) (x : VarM) (W : World), L[k]? = some x → Below w.heap.size w W → Calls Try.prog gf #[bv, .int .i64 (k : Int), .agg #[.string x.name, .int .i64 x.init]] W fun e w' => e = .returned (.int .i64 (E k x)) ∧ Below W.heap.size W w')
    (hcf : ∀ args w, (callFunc gf args).run Try.prog w = .ok (.enter gf args) w) :
    Calls Try.prog 63 #[.slice a len cap, .int .i64 (ahead : Int), .func (.func gf) #[bv] #[]] w fun e w' => e = .returned (fltV ahead (fErr E 0 L)) ∧ Below w.heap.size w w' := by
  have HM := Lib.hid h
  have HL := Lib.hid h.length
  have HF := Lib.hid hF
  have HB0 : Hid (Below w.heap.size w (w.alloc (.cells #[.int .i64 0, .int .i64 0] 31))) := Lib.hid (below_one w _)
  have HO0 : Hid ((w.alloc (.cells #[.int .i64 0, .int .i64 0] 31)).heap[w.heap.size]? = some (.cells #[.int .i64 0, .int .i64 0] 31 (0, 0))) := Lib.hid (heap_new _ rfl)
  obtain ⟨R, hR⟩ : ∃ R, fErr E 0 L = R := ⟨_, rfl⟩
  rw [hR]
  have HR := Lib.hid hR
  clear h hF hR
  go_enter Try.func63, Try.ntmps63
  go_wp2
  generalize w.alloc (.cells #[.int .i64 0, .int .i64 0] 31) = w0 at *
  go_loopw [12] (fun i wr => ∃ j : Nat, i = .int .i64 (j : Int) ∧ j ≤ len ∧ Hid (fErr E j (L.drop j) = R) ∧ Hid (Below w.heap.size w wr ∧ wr.heap[w.heap.size]? = some (.cells #[.int .i64 0, .int .i64 0] 31 (0, 0)))) (fun i _ => len - (intOf i).toNat)
  case atStart => exact ⟨0, rfl, Nat.zero_le _, Lib.hid HR.out, Lib.hid ⟨HB0.out, HO0.out⟩⟩
  case round =>
    clear HB0 HO0
    obtain ⟨j, rfl, hj, HJ, HT⟩ := hrel
    by_cases hlt : j < len
    · have hI := HM.out.kept HT.out.1 (Nat.le_refl _)
      obtain rfl : a = some ⟨b, off, none⟩ := hI.addr.resolve_left (by omega)
      have hx : L[j]? = some (L[j]'(by rw [HL.out]; exact hlt)) := List.getElem?_eq_getElem _
      generalize L[j]'(by rw [HL.out]; exact hlt) = x at hx
      have c0 : wr.cell? ⟨b, off + j * 2, none⟩ = some (.string x.name) := hI.cell j x hx 0 _ rfl
      have c1 : wr.cell? ⟨b, off + j * 2 + 1, none⟩ = some (.int .i64 x.init) := hI.cell j x hx 1 _ rfl
      have hji : (j : Int) < (len : Int) := by omega
      have hj0 : (0 : Int) ≤ (j : Int) := Int.natCast_nonneg j
      have HB1 : Hid (Below w.heap.size w (wr.alloc (.cells #[.string x.name, .int .i64 x.init] 80))) := Lib.hid (HT.out.1.alloc HT.out.1.size _)
      have HO1 : Hid ((wr.alloc (.cells #[.string x.name, .int .i64 x.init] 80)).heap[w.heap.size]? = some (.cells #[.int .i64 0, .int .i64 0] 31 (0, 0))) := Lib.hid (heap_alloc HT.out.2 _)
      have HC1 := Lib.hid (HF.out j x _ hx HB1.out)
      have HSt := Lib.hid (HJ.out.symm.trans (fErr_step hx))
      generalize E j x = ee at *
      clear hI hx
      go_wp2_with fail
      refine HC1.out.mono ?_
      rintro e w2 ⟨rfl, hb2⟩
      have HB2 := Lib.hid (HB1.out.trans (hb2.mono HB1.out.size))
      have HO2 := Lib.hid (heap_below HO1.out hb2 (heap_lt HO1.out))
      clear hb2 HC1 HB1 HO1
      by_cases he : ee = 0
      · have heb : (ee != 0) = false := by simpa using he
        have HJ2 : Hid (fErr E (j + 1) (L.drop (j + 1)) = R) := Lib.hid (by rw [HSt.out, if_neg (by simpa using he)])
        clear he HSt
        go_wp2
        go_roundw
        case rel => exact ⟨j + 1, by go_num, by omega, HJ2, Lib.hid ⟨HB2.out, HO2.out⟩⟩
        case measure => simp [intOf]; omega
      · have heb : (ee != 0) = true := by simpa using he
        have HRe : Hid (R = (ee, j + 1)) := Lib.hid (by rw [HSt.out, if_pos he])
        have hE := Lib.hid he
        have c6 := heap_cell HO2.out (i := 0) rfl
        have c7 := heap_cell HO2.out (i := 1) rfl
        simp only [List.getElem_toArray, List.getElem_cons_zero, List.getElem_cons_succ] at c6 c7
        have f6 := heap_frozen HO2.out 0
        have f7 := heap_frozen HO2.out 1
        have ha1 : (ahead : Int) ≤ 100000 := by omega
        clear he HSt
        go_wp2
        refine bodyPost_ret (flt_ret rfl (heap_set (heap_set HO2.out 0 (.int .i64 ee)) 1 (.int .i64 ((ahead : Int) + (j : Int) + 1))) rfl) rfl ?_
        refine ⟨?_, ((HB2.out.setCell (p := ⟨w.heap.size, 0, none⟩) (Nat.le_refl _) _).setCell (p := ⟨w.heap.size, 1, none⟩) (Nat.le_refl _) _)⟩
        rw [HRe.out]
        unfold fltV
        simp only
        rw [if_neg hE.out, show ((ahead + (j + 1) : Nat) : Int) = (ahead : Int) + (j : Int) + 1 by omega]
    · obtain rfl : j = len := by omega
      have HRe : Hid (R = (0, 0)) := Lib.hid (by rw [← HJ.out, List.drop_of_length_le (by rw [HL.out]; exact Nat.le_refl _)]; rfl)
      have c6 := heap_cell HT.out.2 (i := 0) rfl
      have c7 := heap_cell HT.out.2 (i := 1) rfl
      simp only [List.getElem_toArray, List.getElem_cons_zero, List.getElem_cons_succ] at c6 c7
      have f6 := heap_frozen HT.out.2 0
      have f7 := heap_frozen HT.out.2 1
      go_wp2
      refine bodyPost_ret (flt_ret rfl (heap_set (heap_set HT.out.2 0 (.int .i64 0)) 1 (.int .i64 0)) rfl) rfl ?_
      exact ⟨by rw [HRe.out]; rfl, ((HT.out.1.setCell (p := ⟨w.heap.size, 0, none⟩) (Nat.le_refl _) _).setCell (p := ⟨w.heap.size, 1, none⟩) (Nat.le_refl _) _)⟩

set_option maxRecDepth 100000 in
set_option maxHeartbeats 2000000 in
theorem check_S {w : World} {a : Option Addr} {b off len cap : Nat} {L : List StepM} (h : RowsAt encS fitS 5 w.heap.size w a b off len L) (ahead : Nat) (hah : ahead ≤ 100000) (hsm : len ≤ 100000) {gf : Nat} {bv : Value} {E : Nat → StepM → Int}
    (hF : ∀ (k : Nat) (x : StepM) (W : World), L[k]? = some x → Below w.heap.size w W → Calls Try.prog gf #[bv, .int .i64 (k : Int), .agg #[.int .i64 x.kind, .string x.name, .int .i64 x.ak, .int .i64 x.an, .string x.aname]] W fun e w' => e = .returned (.int .i64 (E k x)) ∧ Below W.heap.size W w')
    (hcf : ∀ args w, (callFunc gf args).run Try.prog w = .ok (.enter gf args) w) :
    Calls Try.prog 65 #[.slice a len cap, .int .i64 (ahead : Int), .func (.func gf) #[bv] #[]] w fun e w' => e = .returned (fltV ahead (fErr E 0 L)) ∧ Below w.heap.size w w' := by
  have HM := Lib.hid h
  have HL := Lib.hid h.length
  have HF := Lib.hid hF
  have HB0 : Hid (Below w.heap.size w (w.alloc (.cells #[.int .i64 0, .int .i64 0] 31))) := Lib.hid (below_one w _)
  have HO0 : Hid ((w.alloc (.cells #[.int .i64 0, .int .i64 0] 31)).heap[w.heap.size]? = some (.cells #[.int .i64 0, .int .i64 0] 31 (0, 0))) := Lib.hid (heap_new _ rfl)
  obtain ⟨R, hR⟩ : ∃ R, fErr E 0 L = R := ⟨_, rfl⟩
  rw [hR]
  have HR := Lib.hid hR
  clear h hF hR
  go_enter Try.func65, Try.ntmps65
  go_wp2
  generalize w.alloc (.cells #[.int .i64 0, .int .i64 0] 31) = w0 at *
  go_loopw [12] (fun i wr => ∃ j : Nat, i = .int .i64 (j : Int) ∧ j ≤ len ∧ Hid (fErr E j (L.drop j) = R) ∧ Hid (Below w.heap.size w wr ∧ wr.heap[w.heap.size]? = some (.cells #[.int .i64 0, .int .i64 0] 31 (0, 0)))) (fun i _ => len - (intOf i).toNat)
  case atStart => exact ⟨0, rfl, Nat.zero_le _, Lib.hid HR.out, Lib.hid ⟨HB0.out, HO0.out⟩⟩
  case round =>
    clear HB0 HO0
    obtain ⟨j, rfl, hj, HJ, HT⟩ := hrel
    by_cases hlt : j < len
    · have hI := HM.out.kept HT.out.1 (Nat.le_refl _)
      obtain rfl : a = some ⟨b, off, none⟩ := hI.addr.resolve_left (by omega)
      have hx : L[j]? = some (L[j]'(by rw [HL.out]; exact hlt)) := List.getElem?_eq_getElem _
      generalize L[j]'(by rw [HL.out]; exact hlt) = x at hx
      have c0 : wr.cell? ⟨b, off + j * 5, none⟩ = some (.int .i64 x.kind) := hI.cell j x hx 0 _ rfl
      have c1 : wr.cell? ⟨b, off + j * 5 + 1, none⟩ = some (.string x.name) := hI.cell j x hx 1 _ rfl
      have c2 : wr.cell? ⟨b, off + j * 5 + 2, none⟩ = some (.int .i64 x.ak) := hI.cell j x hx 2 _ rfl
      have c3 : wr.cell? ⟨b, off + j * 5 + 3, none⟩ = some (.int .i64 x.an) := hI.cell j x hx 3 _ rfl
      have c4 : wr.cell? ⟨b, off + j * 5 + 4, none⟩ = some (.string x.aname) := hI.cell j x hx 4 _ rfl
      have hji : (j : Int) < (len : Int) := by omega
      have hj0 : (0 : Int) ≤ (j : Int) := Int.natCast_nonneg j
      have HB1 : Hid (Below w.heap.size w (wr.alloc (.cells #[.int .i64 x.kind, .string x.name, .int .i64 x.ak, .int .i64 x.an, .string x.aname] 99))) := Lib.hid (HT.out.1.alloc HT.out.1.size _)
      have HO1 : Hid ((wr.alloc (.cells #[.int .i64 x.kind, .string x.name, .int .i64 x.ak, .int .i64 x.an, .string x.aname] 99)).heap[w.heap.size]? = some (.cells #[.int .i64 0, .int .i64 0] 31 (0, 0))) := Lib.hid (heap_alloc HT.out.2 _)
      have HC1 := Lib.hid (HF.out j x _ hx HB1.out)
      have HSt := Lib.hid (HJ.out.symm.trans (fErr_step hx))
      generalize E j x = ee at *
      clear hI hx
      go_wp2_with fail
      refine HC1.out.mono ?_
      rintro e w2 ⟨rfl, hb2⟩
      have HB2 := Lib.hid (HB1.out.trans (hb2.mono HB1.out.size))
      have HO2 := Lib.hid (heap_below HO1.out hb2 (heap_lt HO1.out))
      clear hb2 HC1 HB1 HO1
      by_cases he : ee = 0
      · have heb : (ee != 0) = false := by simpa using he
        have HJ2 : Hid (fErr E (j + 1) (L.drop (j + 1)) = R) := Lib.hid (by rw [HSt.out, if_neg (by simpa using he)])
        clear he HSt
        go_wp2
        go_roundw
        case rel => exact ⟨j + 1, by go_num, by omega, HJ2, Lib.hid ⟨HB2.out, HO2.out⟩⟩
        case measure => simp [intOf]; omega
      · have heb : (ee != 0) = true := by simpa using he
        have HRe : Hid (R = (ee, j + 1)) := Lib.hid (by rw [HSt.out, if_pos he])
        have hE := Lib.hid he
        have c6 := heap_cell HO2.out (i := 0) rfl
        have c7 := heap_cell HO2.out (i := 1) rfl
        simp only [List.getElem_toArray, List.getElem_cons_zero, List.getElem_cons_succ] at c6 c7
        have f6 := heap_frozen HO2.out 0
        have f7 := heap_frozen HO2.out 1
        have ha1 : (ahead : Int) ≤ 100000 := by omega
        clear he HSt
        go_wp2
        refine bodyPost_ret (flt_ret rfl (heap_set (heap_set HO2.out 0 (.int .i64 ee)) 1 (.int .i64 ((ahead : Int) + (j : Int) + 1))) rfl) rfl ?_
        refine ⟨?_, ((HB2.out.setCell (p := ⟨w.heap.size, 0, none⟩) (Nat.le_refl _) _).setCell (p := ⟨w.heap.size, 1, none⟩) (Nat.le_refl _) _)⟩
        rw [HRe.out]
        unfold fltV
        simp only
        rw [if_neg hE.out, show ((ahead + (j + 1) : Nat) : Int) = (ahead : Int) + (j : Int) + 1 by omega]
    · obtain rfl : j = len := by omega
      have HRe : Hid (R = (0, 0)) := Lib.hid (by rw [← HJ.out, List.drop_of_length_le (by rw [HL.out]; exact Nat.le_refl _)]; rfl)
      have c6 := heap_cell HT.out.2 (i := 0) rfl
      have c7 := heap_cell HT.out.2 (i := 1) rfl
      simp only [List.getElem_toArray, List.getElem_cons_zero, List.getElem_cons_succ] at c6 c7
      have f6 := heap_frozen HT.out.2 0
      have f7 := heap_frozen HT.out.2 1
      go_wp2
      refine bodyPost_ret (flt_ret rfl (heap_set (heap_set HT.out.2 0 (.int .i64 0)) 1 (.int .i64 0)) rfl) rfl ?_
      exact ⟨by rw [HRe.out]; rfl, ((HT.out.1.setCell (p := ⟨w.heap.size, 0, none⟩) (Nat.le_refl _) _).setCell (p := ⟨w.heap.size, 1, none⟩) (Nat.le_refl _) _)⟩

set_option maxRecDepth 100000 in
set_option maxHeartbeats 2000000 in
theorem check_P {w : World} {a : Option Addr} {b off len cap : Nat} {L : List ProcV} (h : RowsAt encP fitP 4 w.heap.size w a b off len L) (ahead : Nat) (hah : ahead ≤ 100000) (hsm : len ≤ 100000) {gf : Nat} {bv : Value} {E : Nat → ProcV → Int}
    (hF : ∀ (k : Nat) (x : ProcV) (W : World), L[k]? = some x → Below w.heap.size w W → Calls Try.prog gf #[bv, .int .i64 (k : Int), .agg #[.string x.p.name, .int .i64 x.p.weight, x.vv, x.sv]] W fun e w' => e = .returned (.int .i64 (E k x)) ∧ Below W.heap.size W w')
    (hcf : ∀ args w, (callFunc gf args).run Try.prog w = .ok (.enter gf args) w) :
    Calls Try.prog 38 #[.slice a len cap, .int .i64 (ahead : Int), .func (.func gf) #[bv] #[]] w fun e w' => e = .returned (fltV ahead (fErr E 0 L)) ∧ Below w.heap.size w w' := by
  have HM := Lib.hid h
  have HL := Lib.hid h.length
  have HF := Lib.hid hF
  have HB0 : Hid (Below w.heap.size w (w.alloc (.cells #[.int .i64 0, .int .i64 0] 31))) := Lib.hid (below_one w _)
  have HO0 : Hid ((w.alloc (.cells #[.int .i64 0, .int .i64 0] 31)).heap[w.heap.size]? = some (.cells #[.int .i64 0, .int .i64 0] 31 (0, 0))) := Lib.hid (heap_new _ rfl)
  obtain ⟨R, hR⟩ : ∃ R, fErr E 0 L = R := ⟨_, rfl⟩
  rw [hR]
  have HR := Lib.hid hR
  clear h hF hR
  go_enter Try.func38, Try.ntmps38
  go_wp2
  generalize w.alloc (.cells #[.int .i64 0, .int .i64 0] 31) = w0 at *
  go_loopw [12] (fun i wr => ∃ j : Nat, i = .int .i64 (j : Int) ∧ j ≤ len ∧ Hid (fErr E j (L.drop j) = R) ∧ Hid (Below w.heap.size w wr ∧ wr.heap[w.heap.size]? = some (.cells #[.int .i64 0, .int .i64 0] 31 (0, 0)))) (fun i _ => len - (intOf i).toNat)
  case atStart => exact ⟨0, rfl, Nat.zero_le _, Lib.hid HR.out, Lib.hid ⟨HB0.out, HO0.out⟩⟩
  case round =>
    clear HB0 HO0
    obtain ⟨j, rfl, hj, HJ, HT⟩ := hrel
    by_cases hlt : j < len
    · have hI := HM.out.kept HT.out.1 (Nat.le_refl _)
      obtain rfl : a = some ⟨b, off, none⟩ := hI.addr.resolve_left (by omega)
      have hx : L[j]? = some (L[j]'(by rw [HL.out]; exact hlt)) := List.getElem?_eq_getElem _
      generalize L[j]'(by rw [HL.out]; exact hlt) = x at hx
      have c0 : wr.cell? ⟨b, off + j * 4, none⟩ = some (.string x.p.name) := hI.cell j x hx 0 _ rfl
      have c1 : wr.cell? ⟨b, off + j * 4 + 1, none⟩ = some (.int .i64 x.p.weight) := hI.cell j x hx 1 _ rfl
      have c2 : wr.cell? ⟨b, off + j * 4 + 2, none⟩ = some (x.vv) := hI.cell j x hx 2 _ rfl
      have c3 : wr.cell? ⟨b, off + j * 4 + 3, none⟩ = some (x.sv) := hI.cell j x hx 3 _ rfl
      have hji : (j : Int) < (len : Int) := by omega
      have hj0 : (0 : Int) ≤ (j : Int) := Int.natCast_nonneg j
      have HB1 : Hid (Below w.heap.size w (wr.alloc (.cells #[.string x.p.name, .int .i64 x.p.weight, x.vv, x.sv] 36))) := Lib.hid (HT.out.1.alloc HT.out.1.size _)
      have HO1 : Hid ((wr.alloc (.cells #[.string x.p.name, .int .i64 x.p.weight, x.vv, x.sv] 36)).heap[w.heap.size]? = some (.cells #[.int .i64 0, .int .i64 0] 31 (0, 0))) := Lib.hid (heap_alloc HT.out.2 _)
      have HC1 := Lib.hid (HF.out j x _ hx HB1.out)
      have HSt := Lib.hid (HJ.out.symm.trans (fErr_step hx))
      generalize E j x = ee at *
      clear hI hx
      unfold ProcV.vv ProcV.sv at *
      go_wp2_with fail
      refine HC1.out.mono ?_
      rintro e w2 ⟨rfl, hb2⟩
      have HB2 := Lib.hid (HB1.out.trans (hb2.mono HB1.out.size))
      have HO2 := Lib.hid (heap_below HO1.out hb2 (heap_lt HO1.out))
      clear hb2 HC1 HB1 HO1
      by_cases he : ee = 0
      · have heb : (ee != 0) = false := by simpa using he
        have HJ2 : Hid (fErr E (j + 1) (L.drop (j + 1)) = R) := Lib.hid (by rw [HSt.out, if_neg (by simpa using he)])
        clear he HSt
        go_wp2
        go_roundw
        case rel => exact ⟨j + 1, by go_num, by omega, HJ2, Lib.hid ⟨HB2.out, HO2.out⟩⟩
        case measure => simp [intOf]; omega
      · have heb : (ee != 0) = true := by simpa using he
        have HRe : Hid (R = (ee, j + 1)) := Lib.hid (by rw [HSt.out, if_pos he])
        have hE := Lib.hid he
        have c6 := heap_cell HO2.out (i := 0) rfl
        have c7 := heap_cell HO2.out (i := 1) rfl
        simp only [List.getElem_toArray, List.getElem_cons_zero, List.getElem_cons_succ] at c6 c7
        have f6 := heap_frozen HO2.out 0
        have f7 := heap_frozen HO2.out 1
        have ha1 : (ahead : Int) ≤ 100000 := by omega
        clear he HSt
        go_wp2
        refine bodyPost_ret (flt_ret rfl (heap_set (heap_set HO2.out 0 (.int .i64 ee)) 1 (.int .i64 ((ahead : Int) + (j : Int) + 1))) rfl) rfl ?_
        refine ⟨?_, ((HB2.out.setCell (p := ⟨w.heap.size, 0, none⟩) (Nat.le_refl _) _).setCell (p := ⟨w.heap.size, 1, none⟩) (Nat.le_refl _) _)⟩
        rw [HRe.out]
        unfold fltV
        simp only
        rw [if_neg hE.out, show ((ahead + (j + 1) : Nat) : Int) = (ahead : Int) + (j : Int) + 1 by omega]
    · obtain rfl : j = len := by omega
      have HRe : Hid (R = (0, 0)) := Lib.hid (by rw [← HJ.out, List.drop_of_length_le (by rw [HL.out]; exact Nat.le_refl _)]; rfl)
      have c6 := heap_cell HT.out.2 (i := 0) rfl
      have c7 := heap_cell HT.out.2 (i := 1) rfl
      simp only [List.getElem_toArray, List.getElem_cons_zero, List.getElem_cons_succ] at c6 c7
      have f6 := heap_frozen HT.out.2 0
      have f7 := heap_frozen HT.out.2 1
      go_wp2
      refine bodyPost_ret (flt_ret rfl (heap_set (heap_set HT.out.2 0 (.int .i64 0)) 1 (.int .i64 0)) rfl) rfl ?_
      exact ⟨by rw [HRe.out]; rfl, ((HT.out.1.setCell (p := ⟨w.heap.size, 0, none⟩) (Nat.le_refl _) _).setCell (p := ⟨w.heap.size, 1, none⟩) (Nat.le_refl _) _)⟩

set_option maxRecDepth 100000 in
set_option maxHeartbeats 2000000 in
theorem check_L {w : World} {a : Option Addr} {b off len cap : Nat} {L : List LinkM} (h : RowsAt encL fitL 5 w.heap.size w a b off len L) (ahead : Nat) (hah : ahead ≤ 100000) (hsm : len ≤ 100000) {gf : Nat} {bv : Value} {E : Nat → LinkM → Int}
    (hF : ∀ (k : Nat) (x : LinkM) (W : World), L[k]? = some x → Below w.heap.size w W → Calls Try.prog gf #[bv, .int .i64 (k : Int), .agg #[.string x.name, .string x.frm, .string x.to_, .int .i64 x.delay, .int .i64 x.weight]] W fun e w' => e = .returned (.int .i64 (E k x)) ∧ Below W.heap.size W w')
    (hcf : ∀ args w, (callFunc gf args).run Try.prog w = .ok (.enter gf args) w) :
    Calls Try.prog 40 #[.slice a len cap, .int .i64 (ahead : Int), .func (.func gf) #[bv] #[]] w fun e w' => e = .returned (fltV ahead (fErr E 0 L)) ∧ Below w.heap.size w w' := by
  have HM := Lib.hid h
  have HL := Lib.hid h.length
  have HF := Lib.hid hF
  have HB0 : Hid (Below w.heap.size w (w.alloc (.cells #[.int .i64 0, .int .i64 0] 31))) := Lib.hid (below_one w _)
  have HO0 : Hid ((w.alloc (.cells #[.int .i64 0, .int .i64 0] 31)).heap[w.heap.size]? = some (.cells #[.int .i64 0, .int .i64 0] 31 (0, 0))) := Lib.hid (heap_new _ rfl)
  obtain ⟨R, hR⟩ : ∃ R, fErr E 0 L = R := ⟨_, rfl⟩
  rw [hR]
  have HR := Lib.hid hR
  clear h hF hR
  go_enter Try.func40, Try.ntmps40
  go_wp2
  generalize w.alloc (.cells #[.int .i64 0, .int .i64 0] 31) = w0 at *
  go_loopw [12] (fun i wr => ∃ j : Nat, i = .int .i64 (j : Int) ∧ j ≤ len ∧ Hid (fErr E j (L.drop j) = R) ∧ Hid (Below w.heap.size w wr ∧ wr.heap[w.heap.size]? = some (.cells #[.int .i64 0, .int .i64 0] 31 (0, 0)))) (fun i _ => len - (intOf i).toNat)
  case atStart => exact ⟨0, rfl, Nat.zero_le _, Lib.hid HR.out, Lib.hid ⟨HB0.out, HO0.out⟩⟩
  case round =>
    clear HB0 HO0
    obtain ⟨j, rfl, hj, HJ, HT⟩ := hrel
    by_cases hlt : j < len
    · have hI := HM.out.kept HT.out.1 (Nat.le_refl _)
      obtain rfl : a = some ⟨b, off, none⟩ := hI.addr.resolve_left (by omega)
      have hx : L[j]? = some (L[j]'(by rw [HL.out]; exact hlt)) := List.getElem?_eq_getElem _
      generalize L[j]'(by rw [HL.out]; exact hlt) = x at hx
      have c0 : wr.cell? ⟨b, off + j * 5, none⟩ = some (.string x.name) := hI.cell j x hx 0 _ rfl
      have c1 : wr.cell? ⟨b, off + j * 5 + 1, none⟩ = some (.string x.frm) := hI.cell j x hx 1 _ rfl
      have c2 : wr.cell? ⟨b, off + j * 5 + 2, none⟩ = some (.string x.to_) := hI.cell j x hx 2 _ rfl
      have c3 : wr.cell? ⟨b, off + j * 5 + 3, none⟩ = some (.int .i64 x.delay) := hI.cell j x hx 3 _ rfl
      have c4 : wr.cell? ⟨b, off + j * 5 + 4, none⟩ = some (.int .i64 x.weight) := hI.cell j x hx 4 _ rfl
      have hji : (j : Int) < (len : Int) := by omega
      have hj0 : (0 : Int) ≤ (j : Int) := Int.natCast_nonneg j
      have HB1 : Hid (Below w.heap.size w (wr.alloc (.cells #[.string x.name, .string x.frm, .string x.to_, .int .i64 x.delay, .int .i64 x.weight] 57))) := Lib.hid (HT.out.1.alloc HT.out.1.size _)
      have HO1 : Hid ((wr.alloc (.cells #[.string x.name, .string x.frm, .string x.to_, .int .i64 x.delay, .int .i64 x.weight] 57)).heap[w.heap.size]? = some (.cells #[.int .i64 0, .int .i64 0] 31 (0, 0))) := Lib.hid (heap_alloc HT.out.2 _)
      have HC1 := Lib.hid (HF.out j x _ hx HB1.out)
      have HSt := Lib.hid (HJ.out.symm.trans (fErr_step hx))
      generalize E j x = ee at *
      clear hI hx
      go_wp2_with fail
      refine HC1.out.mono ?_
      rintro e w2 ⟨rfl, hb2⟩
      have HB2 := Lib.hid (HB1.out.trans (hb2.mono HB1.out.size))
      have HO2 := Lib.hid (heap_below HO1.out hb2 (heap_lt HO1.out))
      clear hb2 HC1 HB1 HO1
      by_cases he : ee = 0
      · have heb : (ee != 0) = false := by simpa using he
        have HJ2 : Hid (fErr E (j + 1) (L.drop (j + 1)) = R) := Lib.hid (by rw [HSt.out, if_neg (by simpa using he)])
        clear he HSt
        go_wp2
        go_roundw
        case rel => exact ⟨j + 1, by go_num, by omega, HJ2, Lib.hid ⟨HB2.out, HO2.out⟩⟩
        case measure => simp [intOf]; omega
      · have heb : (ee != 0) = true := by simpa using he
        have HRe : Hid (R = (ee, j + 1)) := Lib.hid (by rw [HSt.out, if_pos he])
        have hE := Lib.hid he
        have c6 := heap_cell HO2.out (i := 0) rfl
        have c7 := heap_cell HO2.out (i := 1) rfl
        simp only [List.getElem_toArray, List.getElem_cons_zero, List.getElem_cons_succ] at c6 c7
        have f6 := heap_frozen HO2.out 0
        have f7 := heap_frozen HO2.out 1
        have ha1 : (ahead : Int) ≤ 100000 := by omega
        clear he HSt
        go_wp2
        refine bodyPost_ret (flt_ret rfl (heap_set (heap_set HO2.out 0 (.int .i64 ee)) 1 (.int .i64 ((ahead : Int) + (j : Int) + 1))) rfl) rfl ?_
        refine ⟨?_, ((HB2.out.setCell (p := ⟨w.heap.size, 0, none⟩) (Nat.le_refl _) _).setCell (p := ⟨w.heap.size, 1, none⟩) (Nat.le_refl _) _)⟩
        rw [HRe.out]
        unfold fltV
        simp only
        rw [if_neg hE.out, show ((ahead + (j + 1) : Nat) : Int) = (ahead : Int) + (j : Int) + 1 by omega]
    · obtain rfl : j = len := by omega
      have HRe : Hid (R = (0, 0)) := Lib.hid (by rw [← HJ.out, List.drop_of_length_le (by rw [HL.out]; exact Nat.le_refl _)]; rfl)
      have c6 := heap_cell HT.out.2 (i := 0) rfl
      have c7 := heap_cell HT.out.2 (i := 1) rfl
      simp only [List.getElem_toArray, List.getElem_cons_zero, List.getElem_cons_succ] at c6 c7
      have f6 := heap_frozen HT.out.2 0
      have f7 := heap_frozen HT.out.2 1
      go_wp2
      refine bodyPost_ret (flt_ret rfl (heap_set (heap_set HT.out.2 0 (.int .i64 0)) 1 (.int .i64 0)) rfl) rfl ?_
      exact ⟨by rw [HRe.out]; rfl, ((HT.out.1.setCell (p := ⟨w.heap.size, 0, none⟩) (Nat.le_refl _) _).setCell (p := ⟨w.heap.size, 1, none⟩) (Nat.le_refl _) _)⟩

set_option maxRecDepth 100000 in
set_option maxHeartbeats 2000000 in
theorem check_E {w : World} {a : Option Addr} {b off len cap : Nat} {L : List EventM} (h : RowsAt encE fitE 3 w.heap.size w a b off len L) (ahead : Nat) (hah : ahead ≤ 100000) (hsm : len ≤ 100000) {gf : Nat} {bv : Value} {E : Nat → EventM → Int}
    (hF : ∀ (k : Nat) (x : EventM) (W : World), L[k]? = some x → Below w.heap.size w W → Calls Try.prog gf #[bv, .int .i64 (k : Int), .agg #[.string x.to_, .int .i64 x.at_, .int .i64 x.val]] W fun e w' => e = .returned (.int .i64 (E k x)) ∧ Below W.heap.size W w')
    (hcf : ∀ args w, (callFunc gf args).run Try.prog w = .ok (.enter gf args) w) :
    Calls Try.prog 42 #[.slice a len cap, .int .i64 (ahead : Int), .func (.func gf) #[bv] #[]] w fun e w' => e = .returned (fltV ahead (fErr E 0 L)) ∧ Below w.heap.size w w' := by
  have HM := Lib.hid h
  have HL := Lib.hid h.length
  have HF := Lib.hid hF
  have HB0 : Hid (Below w.heap.size w (w.alloc (.cells #[.int .i64 0, .int .i64 0] 31))) := Lib.hid (below_one w _)
  have HO0 : Hid ((w.alloc (.cells #[.int .i64 0, .int .i64 0] 31)).heap[w.heap.size]? = some (.cells #[.int .i64 0, .int .i64 0] 31 (0, 0))) := Lib.hid (heap_new _ rfl)
  obtain ⟨R, hR⟩ : ∃ R, fErr E 0 L = R := ⟨_, rfl⟩
  rw [hR]
  have HR := Lib.hid hR
  clear h hF hR
  go_enter Try.func42, Try.ntmps42
  go_wp2
  generalize w.alloc (.cells #[.int .i64 0, .int .i64 0] 31) = w0 at *
  go_loopw [12] (fun i wr => ∃ j : Nat, i = .int .i64 (j : Int) ∧ j ≤ len ∧ Hid (fErr E j (L.drop j) = R) ∧ Hid (Below w.heap.size w wr ∧ wr.heap[w.heap.size]? = some (.cells #[.int .i64 0, .int .i64 0] 31 (0, 0)))) (fun i _ => len - (intOf i).toNat)
  case atStart => exact ⟨0, rfl, Nat.zero_le _, Lib.hid HR.out, Lib.hid ⟨HB0.out, HO0.out⟩⟩
  case round =>
    clear HB0 HO0
    obtain ⟨j, rfl, hj, HJ, HT⟩ := hrel
    by_cases hlt : j < len
    · have hI := HM.out.kept HT.out.1 (Nat.le_refl _)
      obtain rfl : a = some ⟨b, off, none⟩ := hI.addr.resolve_left (by omega)
      have hx : L[j]? = some (L[j]'(by rw [HL.out]; exact hlt)) := List.getElem?_eq_getElem _
      generalize L[j]'(by rw [HL.out]; exact hlt) = x at hx
      have c0 : wr.cell? ⟨b, off + j * 3, none⟩ = some (.string x.to_) := hI.cell j x hx 0 _ rfl
      have c1 : wr.cell? ⟨b, off + j * 3 + 1, none⟩ = some (.int .i64 x.at_) := hI.cell j x hx 1 _ rfl
      have c2 : wr.cell? ⟨b, off + j * 3 + 2, none⟩ = some (.int .i64 x.val) := hI.cell j x hx 2 _ rfl
      have hji : (j : Int) < (len : Int) := by omega
      have hj0 : (0 : Int) ≤ (j : Int) := Int.natCast_nonneg j
      have HB1 : Hid (Below w.heap.size w (wr.alloc (.cells #[.string x.to_, .int .i64 x.at_, .int .i64 x.val] 60))) := Lib.hid (HT.out.1.alloc HT.out.1.size _)
      have HO1 : Hid ((wr.alloc (.cells #[.string x.to_, .int .i64 x.at_, .int .i64 x.val] 60)).heap[w.heap.size]? = some (.cells #[.int .i64 0, .int .i64 0] 31 (0, 0))) := Lib.hid (heap_alloc HT.out.2 _)
      have HC1 := Lib.hid (HF.out j x _ hx HB1.out)
      have HSt := Lib.hid (HJ.out.symm.trans (fErr_step hx))
      generalize E j x = ee at *
      clear hI hx
      go_wp2_with fail
      refine HC1.out.mono ?_
      rintro e w2 ⟨rfl, hb2⟩
      have HB2 := Lib.hid (HB1.out.trans (hb2.mono HB1.out.size))
      have HO2 := Lib.hid (heap_below HO1.out hb2 (heap_lt HO1.out))
      clear hb2 HC1 HB1 HO1
      by_cases he : ee = 0
      · have heb : (ee != 0) = false := by simpa using he
        have HJ2 : Hid (fErr E (j + 1) (L.drop (j + 1)) = R) := Lib.hid (by rw [HSt.out, if_neg (by simpa using he)])
        clear he HSt
        go_wp2
        go_roundw
        case rel => exact ⟨j + 1, by go_num, by omega, HJ2, Lib.hid ⟨HB2.out, HO2.out⟩⟩
        case measure => simp [intOf]; omega
      · have heb : (ee != 0) = true := by simpa using he
        have HRe : Hid (R = (ee, j + 1)) := Lib.hid (by rw [HSt.out, if_pos he])
        have hE := Lib.hid he
        have c6 := heap_cell HO2.out (i := 0) rfl
        have c7 := heap_cell HO2.out (i := 1) rfl
        simp only [List.getElem_toArray, List.getElem_cons_zero, List.getElem_cons_succ] at c6 c7
        have f6 := heap_frozen HO2.out 0
        have f7 := heap_frozen HO2.out 1
        have ha1 : (ahead : Int) ≤ 100000 := by omega
        clear he HSt
        go_wp2
        refine bodyPost_ret (flt_ret rfl (heap_set (heap_set HO2.out 0 (.int .i64 ee)) 1 (.int .i64 ((ahead : Int) + (j : Int) + 1))) rfl) rfl ?_
        refine ⟨?_, ((HB2.out.setCell (p := ⟨w.heap.size, 0, none⟩) (Nat.le_refl _) _).setCell (p := ⟨w.heap.size, 1, none⟩) (Nat.le_refl _) _)⟩
        rw [HRe.out]
        unfold fltV
        simp only
        rw [if_neg hE.out, show ((ahead + (j + 1) : Nat) : Int) = (ahead : Int) + (j : Int) + 1 by omega]
    · obtain rfl : j = len := by omega
      have HRe : Hid (R = (0, 0)) := Lib.hid (by rw [← HJ.out, List.drop_of_length_le (by rw [HL.out]; exact Nat.le_refl _)]; rfl)
      have c6 := heap_cell HT.out.2 (i := 0) rfl
      have c7 := heap_cell HT.out.2 (i := 1) rfl
      simp only [List.getElem_toArray, List.getElem_cons_zero, List.getElem_cons_succ] at c6 c7
      have f6 := heap_frozen HT.out.2 0
      have f7 := heap_frozen HT.out.2 1
      go_wp2
      refine bodyPost_ret (flt_ret rfl (heap_set (heap_set HT.out.2 0 (.int .i64 0)) 1 (.int .i64 0)) rfl) rfl ?_
      exact ⟨by rw [HRe.out]; rfl, ((HT.out.1.setCell (p := ⟨w.heap.size, 0, none⟩) (Nat.le_refl _) _).setCell (p := ⟨w.heap.size, 1, none⟩) (Nat.le_refl _) _)⟩

end Go.Proofs.Ytgnlehenbdcgmaa.Md
