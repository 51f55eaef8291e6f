/- General: a block known whole: its cells, a store into it; what turns one block alone. No program in this text. -/
import Derived.Test.YtnkhpmpoemodiaaLib
import Derived.Test.YtnkhpmpoemodiaaCol
set_option linter.unusedVariables false
namespace Go.Proofs.Ytnkhpmpoemodiaa
open Go.RowKit

theorem heap_set {w : World} {W : Nat} {cs : Array Value} {t : TypeId} {fr : Nat × Nat} (h : w.heap[W]? = some (.cells cs t fr)) (i : Nat) (v : Value) : (w.setCell ⟨W, i, none⟩ v).heap[W]? = some (.cells (cs.setIfInBounds i v) t fr) := by
  obtain ⟨hlt, hk⟩ := Array.getElem?_eq_some_iff.1 h
  show (w.heap.modify W _)[W]? = _
  rw [Array.getElem?_eq_getElem (by rw [Array.size_modify]; exact hlt), Array.getElem_modify_self, hk]
  rfl
theorem heap_cell {w : World} {W : Nat} {cs : Array Value} {t : TypeId} {fr : Nat × Nat} (h : w.heap[W]? = some (.cells cs t fr)) {i : Nat} {v : Value} (hv : cs[i]? = some v) : w.cell? ⟨W, i, none⟩ = some v := by
  simp [World.cell?, h, hv]
theorem heap_frozen {w : World} {W : Nat} {cs : Array Value} {t : TypeId} (h : w.heap[W]? = some (.cells cs t (0, 0))) (i : Nat) : w.frozen? ⟨W, i, none⟩ = false := by
  simp [World.frozen?, h]
theorem heap_lt {w : World} {W : Nat} {o : Obj} (h : w.heap[W]? = some o) : W < w.heap.size := (Array.getElem?_eq_some_iff.1 h).1
theorem heap_kept {w w' : World} {W : Nat} {o : Obj} {row : Option Nat} (h : w.heap[W]? = some o) (hg : w.grownBy w' row) (hne : some W ≠ row) : w'.heap[W]? = some o := (hg.block W (heap_lt h) hne).trans h
theorem heap_below {w w' : World} {W : Nat} {o : Obj} (h : w.heap[W]? = some o) {B : Nat} (hb : Below B w w') (hB : W < B) : w'.heap[W]? = some o := (hb.block W hB).trans h
theorem heap_alloc {w : World} {W : Nat} {o : Obj} (h : w.heap[W]? = some o) (p : Obj) : (w.alloc p).heap[W]? = some o := heap_kept h (World.grownBy_alloc w p none) (by simp)
theorem heap_other {w : World} {W V : Nat} {o : Obj} (h : w.heap[W]? = some o) (hne : W ≠ V) (i : Nat) (v : Value) : (w.setCell ⟨V, i, none⟩ v).heap[W]? = some o := (Below.heap_setCell w ⟨V, i, none⟩ v W hne).trans h
theorem heap_new {w : World} (o : Obj) {g : Nat} (hg : g = w.heap.size) : (w.alloc o).heap[g]? = some o := by subst hg; exact World.alloc_heap_new w o
theorem size_set (w : World) (a : Addr) (v : Value) : (w.setCell a v).heap.size = w.heap.size := by simp [World.setCell]
theorem grown_refl (w : World) (row : Option Nat) : w.grownBy w row := World.grownBy.refl w row
theorem grown_set (w : World) (b i : Nat) (v : Value) : w.grownBy (w.setCell ⟨b, i, none⟩ v) (some b) :=
  ⟨rfl, rfl, rfl, by simp [World.setCell], fun k _ hk => Below.heap_setCell _ _ _ _ (fun e => hk (by simp [e]))⟩
theorem grown_drew (w : World) (row : Option Nat) : w.grownBy w.drew row := ⟨rfl, rfl, rfl, Nat.le_refl _, fun _ _ _ => rfl⟩
theorem grown_below {w w' : World} (h : Below w.heap.size w w') (row : Option Nat) : w.grownBy w' row := ⟨h.os, h.tape, h.output, h.size, fun k hk _ => h.block k hk⟩
theorem below_grown {w w' : World} (h : w.grownBy w' none) : Below w.heap.size w w' := ⟨h.os, h.tape, h.output, h.size, fun k hk => h.block k hk (by simp)⟩
theorem grown_new {a w w' : World} {row : Option Nat} {B : Nat} (h : a.grownBy w row) (k : w.grownBy w' (some B)) (hB : a.heap.size ≤ B) : a.grownBy w' row :=
  h.andThen k (fun j e => by cases e; exact .inl hB)
/-- What a new block's writer turns is new. -/
theorem below_new {w w1 : World} {o : Obj} {W : Nat} (hW : W = w.heap.size) (h : (w.alloc o).grownBy w1 (some W)) : Below w.heap.size w w1 :=
  ((Below.refl _ w).alloc (Nat.le_refl _) o).grown h (by simp) (fun k e => by cases e; omega)
theorem below_row {w w1 w2 : World} {W : Nat} (h1 : Below w.heap.size w w1) (hW : w.heap.size ≤ W) (h : w1.grownBy w2 (some W)) : Below w.heap.size w w2 :=
  h1.grown h h1.size (fun k e => by cases e; exact hW)
theorem below_set {B : Nat} {w w1 w2 : World} {W : Nat} (h1 : Below B w w1) (hB : B ≤ w.heap.size) (hW : B ≤ W) (h : w1.grownBy w2 (some W)) : Below B w w2 :=
  h1.grown h (Nat.le_trans hB h1.size) (fun k e => by cases e; exact hW)
end Go.Proofs.Ytnkhpmpoemodiaa
