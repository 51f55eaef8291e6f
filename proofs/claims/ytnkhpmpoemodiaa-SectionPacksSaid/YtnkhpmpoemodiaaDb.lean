/- Contracts of layer 4: the table of a polynomial. -/
import Derived.Test.YtnkhpmpoemodiaaDa
import Derived.Laws.Tables
import Derived.Deep.RegionWith
set_option linter.unusedVariables false
namespace Go.Proofs.Ytnkhpmpoemodiaa
open Go.RowKit

/-- The cells of a table that is not yet laid. -/
def zTab : Array Value := Array.replicate 256 (.int .u32 0)
theorem built_tab : Try.prog.built 146 [] = some zTab := by kernel_rfl
theorem run_build_tab (w : World) : Sem.run Try.prog (Instr.build 146 #[]) w = Result.ok (.agg zTab) w := run_build w _ _ _ built_tab
theorem run_box_tab (w : World) : Sem.run Try.prog (Instr.box 146 (.agg zTab)) w = Result.ok (.pointer (some ⟨w.heap.size, 0, none⟩)) (w.alloc (.cells zTab 146)) := by
  simp [Instr.box, go_sem, newVar]
theorem wpList_built {P : Program} {w : World} {ops : Array Oper} {rest : List Oper} {o : Oper} {a : Act} {Q : Exit → Act → World → Prop} (hgd : o.guard = none) (t : TypeId) (ho : o.op = .build t #[]) (cells : Array Value) (hc : P.built t [] = some cells)
    (h : wpList P ops Q rest (a.put o.dst (.agg cells)) w) : wpList P ops Q (o :: rest) a w := by
  refine wpList_plain hgd fun K hK => ?_
  unfold Oper.wp execOp
  simp only [ho, Sem.run_bind, run_build (P := P) w t #[] cells hc, Result.andThen_ok, List.map_toArray, List.map_nil]
  exact hK _ _ h
theorem wpList_boxed {P : Program} {w : World} {ops : Array Oper} {rest : List Oper} {o : Oper} {a : Act} {Q : Exit → Act → World → Prop} (hgd : o.guard = none) (t : TypeId) (x : Operand) (ho : o.op = .box t x) (cells : Array Value) (hx : a.eval x = .agg cells)
    (h : wpList P ops Q rest (a.put o.dst (.pointer (some ⟨w.heap.size, 0, none⟩))) (w.alloc (.cells cells t))) : wpList P ops Q (o :: rest) a w := by
  refine wpList_plain hgd fun K hK => ?_
  unfold Oper.wp execOp
  have hrun : (Instr.box t (.agg cells)).run P w = .ok (.pointer (some ⟨w.heap.size, 0, none⟩)) (w.alloc (.cells cells t)) := by simp [Instr.box, go_sem, newVar]
  simp only [ho, Sem.run_bind, hx, hrun, Result.andThen_ok]
  exact hK _ _ h
/-- A table of p in block T. -/
structure TabAt (w : World) (T p : Nat) : Prop where
  box : ∃ cur : Array Value, w.heap[T]? = some (.cells cur 146 (0, 0)) ∧ ∀ j, j < 256 → cur[j]? = some (.int .u32 (stepsN p 8 j))
def MakePost (w : World) (p : Nat) (e : Ending) (w' : World) : Prop := e = .returned (.pointer (some ⟨w.heap.size, 0, none⟩)) ∧ TabAt w' w.heap.size p ∧ Below w.heap.size w w'
set_option maxRecDepth 100000 in
theorem make_any (p : Nat) (w : World) (hp : p < 4294967296) :
    Calls Try.prog 58 #[.int .u32 p] w (MakePost w p) := by
  have HP := Lib.hid hp
  have hp2 : p ≤ 4294967295 := by omega
  have HM := Lib.hid (fun k (hk : k < 256) W => moved_any k p W (by omega) hp)
  clear hp
  go_enter Try.func58, Try.ntmps58
  go_wp2_with (first | (with_reducible refine wpList_built rfl 146 rfl zTab built_tab ?_) | (with_reducible refine wpList_boxed rfl 146 _ rfl zTab rfl ?_))
  go_loopw [7] (fun i wr => ∃ (k : Nat) (cur : Array Value), k ≤ 256 ∧ i = .int .i64 k ∧ Hid (wr.heap[w.heap.size]? = some (.cells cur 146 (0, 0))) ∧ Hid (cur.size = 256) ∧ Hid (∀ j, j < k → cur[j]? = some (.int .u32 (stepsN p 8 j))) ∧ Below w.heap.size w wr) (fun i _ => 256 - (intOf i).toNat)
  case atStart => exact ⟨0, zTab, by omega, rfl, heap_new _ rfl, Lib.hid (by unfold zTab; simp), Lib.hid (fun j hj => absurd hj (Nat.not_lt_zero _)), (Below.refl _ _).alloc (Nat.le_refl _) _⟩
  case round =>
    obtain ⟨k, cur, hk, rfl, hh, hsz, hval, hB⟩ := hrel
    by_cases hlt : k < 256
    · have hlt2 := heap_lt hh.out
      have hfz := heap_frozen hh.out k
      have hcl : ∃ x, wr.cell? ⟨w.heap.size, k, none⟩ = some x := ⟨cur[k]'(by rw [hsz.out]; exact hlt), heap_cell hh.out (Array.getElem?_eq_getElem _)⟩
      obtain ⟨x, hx⟩ := hcl
      have HK := Lib.hid (HM.out k hlt)
      generalize hv : stepsN p 8 k = v at *
      have HV := Lib.hid hv
      clear hv
      have hwr : IntKind.u32.wrap (k : Int) = (k : Int) := by rw [IntKind.wrap_u32]; omega
      go_wp2
      go_region_with ((go_at_call 86; refine (HK.out _).mono ?_; rintro e w2 ⟨rfl, rfl⟩))
      all_goals
        go_wp2
        go_roundw
        case rel =>
          refine ⟨k + 1, _, by omega, by go_num, Lib.hid (heap_set hh.out k _), Lib.hid (by simpa using hsz.out), Lib.hid (fun j hj => ?_), hB.drew.setCell (Nat.le_refl _) _⟩
          rw [Array.getElem?_setIfInBounds]
          by_cases hjk : k = j
          · subst hjk
            rw [if_pos rfl, if_pos (by rw [hsz.out]; exact hlt), HV.out]
          · rw [if_neg hjk]; exact hval.out j (by omega)
        case measure => simp [intOf]; omega
    · obtain rfl : k = 256 := by omega
      have HE : Hid (MakePost w p (.returned (.pointer (some ⟨w.heap.size, 0, none⟩))) wr) := ⟨rfl, ⟨cur, hh.out, hval.out⟩, hB⟩
      clear hh hsz hval hB
      go_wp2
      go_ret
      exact HE.out
end Go.Proofs.Ytnkhpmpoemodiaa
