/- General: a set that a call has made, its keys ints. No program in this text. -/
import Derived.Maps.OwnIn
import Derived.Maps.OwnSet
import Derived.Maps.Views
set_option linter.unusedVariables false
set_option linter.unusedSectionVars false
namespace Go.Proofs.Ytepmgjohjeiopaa
open Go.Maps

/-- Block b is a set that has what g tells. -/
def SetI (w : World) (P : Program) (k : TypeId) (b n : Nat) (g : Int → Bool) : Prop :=
  ∃ D : DataW Unit, w.ownsMap P k unitElem b n D ∧ ∀ x : Int, Maps.has D (.int .i64 x) = g x
section
variable {w w' : World} {P : Program} {t k e : TypeId} {b n : Nat} {g : Int → Bool} {row : Option Nat}
theorem SetI.made (w : World) (P : Program) (k : TypeId) : SetI (w.alloc (.map #[] 0)) P k w.heap.size 0 (fun _ => false) := ⟨.map [], World.ownsMap_made w P k _, fun x => rfl⟩
theorem SetI.kept (h : SetI w P k b n g) (hg : w.grownBy w' row) (hne : some b ≠ row) : SetI w' P k b n g := by
  obtain ⟨D, h1, h2⟩ := h
  exact ⟨D, h1.kept hg hne, h2⟩
theorem SetI.lt (h : SetI w P k b n g) : b < w.heap.size := by obtain ⟨D, h1, h2⟩ := h; exact h1.lt
theorem SetI.congr (h : SetI w P k b n g) {g' : Int → Bool} (hf : ∀ x, g x = g' x) : SetI w P k b n g' := by
  obtain ⟨D, h1, h2⟩ := h
  exact ⟨D, h1, fun x => by rw [h2 x, hf]⟩
theorem SetI.obj (h : SetI w P k b n g) : ∃ es cl, w.heap[b]? = some (.map es cl) := by
  obtain ⟨D, h1, h2⟩ := h
  obtain ⟨es, cl, h3, _⟩ := h1
  exact ⟨es, cl, h3⟩
theorem set_reads {D : DataW Unit} (hD : IsMap D) {x y : Int} {d : DataW Unit} : Maps.has (D.put (.int .i64 x) d) (.int .i64 y) = (decide (y = x) || Maps.has D (.int .i64 y)) := by
  by_cases h : y = x
  · subst h
    rw [has_put_same hD (show WideAt.IsKeyLit (Lit.int .i64 y) from trivial)]; simp
  · rw [has_put_other (fun e => by cases e; exact h rfl)]; simp [h]
/-- m[x] = struct{}{}, at the operation. -/
theorem wpList_mapUpdate_S {ops : Array Oper} {rest : List Oper} {o : Oper} {a : Act} {Q : Exit → Act → World → Prop} (hg : o.guard = none) (m x v : Operand) (t : TypeId) (hop : o.op = Op.mapUpdate t m x v)
    (k e : TypeId) (ht : P.underlying t = some (.map k e)) (hk : P.underlying k = some (.int .i64)) (b n : Nat) (g : Int → Bool)
    (hm : a.eval m = .map (some b)) (hown : SetI w P k b n g) (hn : n < maxLen) (xi : Int) (hx : a.eval x = .int .i64 xi) (hv : a.eval v = .agg #[]) (hxw : (Lit.int .i64 xi).wf = true)
    (hK : ∀ w', SetI w' P k b (n + 1) (fun y => decide (y = xi) || g y) → w.grownBy w' (some b) → wpList P ops Q rest (a.put o.dst undef) w') :
    wpList P ops Q (o :: rest) a w := by
  obtain ⟨D, h1, h2⟩ := hown
  refine wpList_mapUpdate_own w hg m x v t hop k e (int_keyed hk) ht unitElem b n D hm h1 hn _ _ (.int .i64 xi) hx hv (keyOf_int_mk hk hxw) (.agg []) [] unitElem_mk ?_
  intro w' h3 h4
  refine hK w' ⟨_, h3, fun y => ?_⟩ h4
  rw [set_reads h1.isMap, h2 y]
/-- _, ok := m[x], inside a fence. -/
theorem wpListIn_lookup_S {F : Fence} {nF : Nat} {ops : Array Oper} {rest : List Oper} {o : Oper} {a : Act} {Q : Exit → Act → World → Prop} (hg : o.guard = none) (m x : Operand) (t : TypeId) (hop : o.op = Op.lookup t m x true)
    (k e : TypeId) (ht : P.underlying t = some (.map k e)) (hk : P.underlying k = some (.int .i64)) (hz : (zeroValue e).run P w = .ok (.agg #[]) w) (b n : Nat) (g : Int → Bool)
    (hm : a.eval m = .map (some b)) (hown : SetI w P k b n g) (xi : Int) (hx : a.eval x = .int .i64 xi) (hxw : (Lit.int .i64 xi).wf = true)
    (hK : wpListIn F nF P ops Q rest (a.put o.dst (.tuple #[.agg #[], .bool (g xi)])) w) :
    wpListIn F nF P ops Q (o :: rest) a w := by
  obtain ⟨D, h1, h2⟩ := hown
  refine wpListIn_lookup_own_unit w hg m x t hop k e (int_keyed hk) ht hz b n D hm h1 _ (.int .i64 xi) hx (keyOf_int_mk hk hxw) ?_
  rw [h2 xi]
  exact hK
end
end Go.Proofs.Ytepmgjohjeiopaa
