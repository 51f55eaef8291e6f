/- Contract: Check. -/
import Derived.Test.YtgnlehenbdcgmaaMdH
import Derived.Laws.StructEq
set_option linter.unusedVariables false
set_option linter.unusedSectionVars false
set_option linter.unusedSimpArgs false
namespace Go.Proofs.Ytgnlehenbdcgmaa.Md
open Go.RowKit Go.Shelf

theorem Try.structFl : Try.prog.underlying 31 = some (.struct (Try.prog.fieldsOf 31)) := by kernel_rfl
theorem Try.stoodFl : Try.prog.stoodInHeld 31 = false := by kernel_rfl
theorem neqF (a b : Int) (V : World) : (binOp BinOp.neq 31 (.agg #[.int .i64 a, .int .i64 b]) (.agg #[.int .i64 0, .int .i64 0])).run Try.prog V = .ok (.bool (!decide (a = 0 ∧ b = 0))) V := by
  simp [go_sem, run_equalIn_agg _ _ _ _ _ Try.structFl Try.stoodFl]
  split <;> (try split) <;> simp_all
/-- The first of three that is one. -/
def orF (p q r : Int × Int) : Int × Int := if ¬ (p.1 = 0 ∧ p.2 = 0) then p else if ¬ (q.1 = 0 ∧ q.2 = 0) then q else r
set_option maxRecDepth 100000 in
set_option maxHeartbeats 2000000 in
theorem orF3_any {w : World} {N : Nat} {p q r : Int × Int} (hN : w.heap[N]? = some (.cells #[.int .i64 p.1, .int .i64 p.2, .int .i64 q.1, .int .i64 q.2, .int .i64 r.1, .int .i64 r.2] 31 (0, 0))) {R : Int × Int} (hR : R = orF p q r) :
    Calls Try.prog 37 #[.slice (some ⟨N, 0, none⟩) 3 3] w fun e w' => e = .returned (.agg #[.int .i64 R.1, .int .i64 R.2]) ∧ Below w.heap.size w w' := by
  have HR := Lib.hid hR
  have hlt := heap_lt hN
  have hb2 := (below_one w (.cells #[.int .i64 0, .int .i64 0] 31)).alloc (by simp) (.cells #[.int .i64 0, .int .i64 0] 31)
  have HN0 : Hid (∀ W, Below w.heap.size w W → W.heap[N]? = some (.cells #[.int .i64 p.1, .int .i64 p.2, .int .i64 q.1, .int .i64 q.2, .int .i64 r.1, .int .i64 r.2] 31 (0, 0))) := Lib.hid (fun W hW => heap_below hN hW hlt)
  have HO1 : Hid (((w.alloc (.cells #[.int .i64 0, .int .i64 0] 31)).alloc (.cells #[.int .i64 0, .int .i64 0] 31)).heap[w.heap.size]? = some (.cells #[.int .i64 0, .int .i64 0] 31 (0, 0))) := Lib.hid (heap_alloc (heap_new _ rfl) _)
  have HO2 : Hid (((w.alloc (.cells #[.int .i64 0, .int .i64 0] 31)).alloc (.cells #[.int .i64 0, .int .i64 0] 31)).heap[w.heap.size + 1]? = some (.cells #[.int .i64 0, .int .i64 0] 31 (0, 0))) := Lib.hid (heap_new _ (by simp))
  have HB := Lib.hid hb2
  clear hN hR hb2
  go_enter Try.func37, Try.ntmps37
  go_wp2
  generalize ((w.alloc (.cells #[.int .i64 0, .int .i64 0] 31)).alloc (.cells #[.int .i64 0, .int .i64 0] 31)) = w0 at *
  obtain ⟨A, hA⟩ : ∃ A, w.heap.size = A := ⟨_, rfl⟩
  have HA := Lib.hid hA
  rw [hA] at HO1 HO2 HB HN0 hlt ⊢
  clear hA
  go_loopw [8] (fun i wr => ∃ k : Nat, i = .int .i64 (k : Int) ∧ k ≤ 3 ∧ Hid ((1 ≤ k → p.1 = 0 ∧ p.2 = 0) ∧ (2 ≤ k → q.1 = 0 ∧ q.2 = 0) ∧ (3 ≤ k → r.1 = 0 ∧ r.2 = 0)) ∧ Hid (Below A w wr ∧ wr.heap[A]? = some (.cells #[.int .i64 0, .int .i64 0] 31 (0, 0)) ∧ wr.heap[A + 1]? = some (.cells #[.int .i64 0, .int .i64 0] 31 (0, 0)))) (fun i _ => 3 - (intOf i).toNat)
  case atStart => exact ⟨0, rfl, by omega, Lib.hid ⟨by omega, by omega, by omega⟩, Lib.hid ⟨HB.out, HO1.out, HO2.out⟩⟩
  case round =>
    clear HO1 HO2 HB
    obtain ⟨k, rfl, hk, HK, HT⟩ := hrel
    have hNw := HN0.out wr HT.out.1
    have c0 := heap_cell hNw (i := 0) rfl
    have c1 := heap_cell hNw (i := 1) rfl
    have c2 := heap_cell hNw (i := 2) rfl
    have c3 := heap_cell hNw (i := 3) rfl
    have c4 := heap_cell hNw (i := 4) rfl
    have c5 := heap_cell hNw (i := 5) rfl
    have z0 := heap_cell HT.out.2.2 (i := 0) rfl
    have z1 := heap_cell HT.out.2.2 (i := 1) rfl
    have y0 := heap_cell HT.out.2.1 (i := 0) rfl
    have y1 := heap_cell HT.out.2.1 (i := 1) rfl
    simp only [List.getElem_toArray, List.getElem_cons_zero, List.getElem_cons_succ] at c0 c1 c2 c3 c4 c5 z0 z1 y0 y1
    have f0 := heap_frozen HT.out.2.1 0
    have f1 := heap_frozen HT.out.2.1 1
    have hzw := HT.out.1.size
    have hAw := heap_lt HT.out.2.1
    have hAw1 := heap_lt HT.out.2.2
    have hne : ¬ A = wr.heap.size := by omega
    have key : ∀ (v : Int × Int) (X : World), X = ((wr.setCell ⟨A, 0, none⟩ (.int .i64 v.1)).setCell ⟨A, 1, none⟩ (.int .i64 v.2)).alloc (.cells #[.int .i64 v.1, .int .i64 v.2] 31) → X.heap[A]? = some (.cells #[.int .i64 v.1, .int .i64 v.2] 31 (0, 0)) ∧ Below A w X := fun v X hX => by
      subst hX
      exact ⟨heap_alloc (heap_set (heap_set HT.out.2.1 0 _) 1 _) _, ((HT.out.1.setCell (p := ⟨A, 0, none⟩) (Nat.le_refl _) _).setCell (p := ⟨A, 1, none⟩) (Nat.le_refl _) _).alloc (by rw [size_set, size_set]; omega) _⟩
    have HKey := Lib.hid key
    have keyn : ∀ (o : Obj), Below A w (wr.alloc o) ∧ (wr.alloc o).heap[A]? = some (.cells #[.int .i64 0, .int .i64 0] 31 (0, 0)) ∧ (wr.alloc o).heap[A + 1]? = some (.cells #[.int .i64 0, .int .i64 0] 31 (0, 0)) := fun o => ⟨HT.out.1.alloc (by omega) o, heap_alloc HT.out.2.1 o, heap_alloc HT.out.2.2 o⟩
    have HKeyn := Lib.hid keyn
    clear key keyn hNw
    obtain ⟨p1, p2⟩ := p
    obtain ⟨q1, q2⟩ := q
    obtain ⟨r1, r2⟩ := r
    simp only at *
    rcases (by omega : k = 0 ∨ k = 1 ∨ k = 2 ∨ k = 3) with rfl | rfl | rfl | rfl
    · by_cases hz : p1 = 0 ∧ p2 = 0
      · have hn : ∀ V : World, (binOp BinOp.neq 31 (.agg #[.int .i64 p1, .int .i64 p2]) (.agg #[.int .i64 0, .int .i64 0])).run Try.prog V = .ok (.bool false) V := fun V => by rw [neqF, decide_eq_true hz]; rfl
        have HKn : Hid ((1 ≤ 1 → p1 = 0 ∧ p2 = 0) ∧ (2 ≤ 1 → q1 = 0 ∧ q2 = 0) ∧ (3 ≤ 1 → r1 = 0 ∧ r2 = 0)) := Lib.hid ⟨fun _ => hz, by omega, by omega⟩
        have HG := Lib.hid (HKeyn.out (.cells #[.int .i64 p1, .int .i64 p2] 31))
        clear hz
        go_wp2
        go_roundw
        case rel => exact ⟨1, rfl, by omega, HKn, HG⟩
        case measure => simp [intOf]
      · have hn : ∀ V : World, (binOp BinOp.neq 31 (.agg #[.int .i64 p1, .int .i64 p2]) (.agg #[.int .i64 0, .int .i64 0])).run Try.prog V = .ok (.bool true) V := fun V => by rw [neqF, decide_eq_false hz]; rfl
        have HRr : Hid (R = (p1, p2)) := Lib.hid (by rw [HR.out]; unfold orF; rw [if_pos (by simpa using hz)])
        clear hz
        go_wp2
        refine bodyPost_ret (flt_ret rfl (HKey.out (p1, p2) _ rfl).1 rfl) rfl ?_
        exact ⟨by rw [HRr.out], by rw [HA.out]; exact (HKey.out (p1, p2) _ rfl).2⟩
    · by_cases hz : q1 = 0 ∧ q2 = 0
      · have hn : ∀ V : World, (binOp BinOp.neq 31 (.agg #[.int .i64 q1, .int .i64 q2]) (.agg #[.int .i64 0, .int .i64 0])).run Try.prog V = .ok (.bool false) V := fun V => by rw [neqF, decide_eq_true hz]; rfl
        have HKn : Hid ((1 ≤ 2 → p1 = 0 ∧ p2 = 0) ∧ (2 ≤ 2 → q1 = 0 ∧ q2 = 0) ∧ (3 ≤ 2 → r1 = 0 ∧ r2 = 0)) := Lib.hid ⟨fun _ => HK.out.1 (by omega), fun _ => hz, by omega⟩
        have HG := Lib.hid (HKeyn.out (.cells #[.int .i64 q1, .int .i64 q2] 31))
        clear hz
        go_wp2
        go_roundw
        case rel => exact ⟨2, rfl, by omega, HKn, HG⟩
        case measure => simp [intOf]
      · have hn : ∀ V : World, (binOp BinOp.neq 31 (.agg #[.int .i64 q1, .int .i64 q2]) (.agg #[.int .i64 0, .int .i64 0])).run Try.prog V = .ok (.bool true) V := fun V => by rw [neqF, decide_eq_false hz]; rfl
        have HRr : Hid (R = (q1, q2)) := Lib.hid (by rw [HR.out]; unfold orF; rw [if_neg (by simp [HK.out.1 (by omega)]), if_pos (by simpa using hz)])
        clear hz
        go_wp2
        refine bodyPost_ret (flt_ret rfl (HKey.out (q1, q2) _ rfl).1 rfl) rfl ?_
        exact ⟨by rw [HRr.out], by rw [HA.out]; exact (HKey.out (q1, q2) _ rfl).2⟩
    · by_cases hz : r1 = 0 ∧ r2 = 0
      · have hn : ∀ V : World, (binOp BinOp.neq 31 (.agg #[.int .i64 r1, .int .i64 r2]) (.agg #[.int .i64 0, .int .i64 0])).run Try.prog V = .ok (.bool false) V := fun V => by rw [neqF, decide_eq_true hz]; rfl
        have HKn : Hid ((1 ≤ 3 → p1 = 0 ∧ p2 = 0) ∧ (2 ≤ 3 → q1 = 0 ∧ q2 = 0) ∧ (3 ≤ 3 → r1 = 0 ∧ r2 = 0)) := Lib.hid ⟨fun _ => HK.out.1 (by omega), fun _ => HK.out.2.1 (by omega), fun _ => hz⟩
        have HG := Lib.hid (HKeyn.out (.cells #[.int .i64 r1, .int .i64 r2] 31))
        clear hz
        go_wp2
        go_roundw
        case rel => exact ⟨3, rfl, by omega, HKn, HG⟩
        case measure => simp [intOf]
      · have hn : ∀ V : World, (binOp BinOp.neq 31 (.agg #[.int .i64 r1, .int .i64 r2]) (.agg #[.int .i64 0, .int .i64 0])).run Try.prog V = .ok (.bool true) V := fun V => by rw [neqF, decide_eq_false hz]; rfl
        have HRr : Hid (R = (r1, r2)) := Lib.hid (by rw [HR.out]; unfold orF; rw [if_neg (by simp [HK.out.1 (by omega)]), if_neg (by simp [HK.out.2.1 (by omega)])])
        clear hz
        go_wp2
        refine bodyPost_ret (flt_ret rfl (HKey.out (r1, r2) _ rfl).1 rfl) rfl ?_
        exact ⟨by rw [HRr.out], by rw [HA.out]; exact (HKey.out (r1, r2) _ rfl).2⟩
    · have HRr : Hid (R = (0, 0)) := Lib.hid (by
        rw [HR.out]; unfold orF
        rw [if_neg (by simp [HK.out.1 (by omega)]), if_neg (by simp [HK.out.2.1 (by omega)])]
        obtain ⟨h1, h2⟩ := HK.out.2.2 (by omega)
        rw [h1, h2])
      have hx := heap_set (heap_set HT.out.2.1 0 (.int .i64 0)) 1 (.int .i64 0)
      have hy : Below A w ((wr.setCell ⟨A, 0, none⟩ (.int .i64 0)).setCell ⟨A, 1, none⟩ (.int .i64 0)) := (HT.out.1.setCell (p := ⟨A, 0, none⟩) (Nat.le_refl _) _).setCell (p := ⟨A, 1, none⟩) (Nat.le_refl _) _
      have HX := Lib.hid hx
      have HY := Lib.hid hy
      clear hx hy
      go_wp2
      refine bodyPost_ret (flt_ret rfl HX.out rfl) rfl ?_
      exact ⟨by rw [HRr.out], by rw [HA.out]; exact HY.out⟩
end Go.Proofs.Ytgnlehenbdcgmaa.Md
