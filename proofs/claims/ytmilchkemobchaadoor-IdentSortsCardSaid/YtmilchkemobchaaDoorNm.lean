/- General: a set that a call has made, its keys texts. No program in this text. -/
import Derived.Maps.OwnIn
import Derived.Maps.OwnSet
import Derived.Maps.Views
import Derived.StringKeys
import Derived.Test.YtmilchkemobchaaDoorNa
set_option linter.unusedVariables false
namespace Go.Proofs.YtmilchkemobchaaDoor
open Go.Maps Go.WideMaps

/-- Block b is a set of texts that has what g tells. -/
def SetT (w : World) (P : Program) (k : TypeId) (b n : Nat) (g : ByteArray → Bool) : Prop :=
  ∃ D : DataW Unit, w.ownsMap P k unitElem b n D ∧ ∀ x : ByteArray, Maps.has D (.string x.data.toList) = g x
section
variable {w w' : World} {P : Program} {t k e : TypeId} {b n : Nat} {g : ByteArray → Bool} {row : Option Nat}
theorem SetT.made (w : World) (P : Program) (k : TypeId) : SetT (w.alloc (.map #[] 0)) P k w.heap.size 0 (fun _ => false) := ⟨.map [], World.ownsMap_made w P k _, fun x => rfl⟩
theorem SetT.kept (h : SetT w P k b n g) (hg : w.grownBy w' row) (hne : some b ≠ row) : SetT w' P k b n g := by
  obtain ⟨D, h1, h2⟩ := h
  exact ⟨D, h1.kept hg hne, h2⟩
theorem SetT.lt (h : SetT w P k b n g) : b < w.heap.size := by obtain ⟨D, h1, h2⟩ := h; exact h1.lt
theorem SetT.congr (h : SetT w P k b n g) {g' : ByteArray → Bool} (hf : ∀ x, g x = g' x) : SetT w P k b n g' := by
  obtain ⟨D, h1, h2⟩ := h
  exact ⟨D, h1, fun x => by rw [h2 x, hf]⟩
theorem SetT.obj (h : SetT w P k b n g) : ∃ es cl, w.heap[b]? = some (.map es cl) := by
  obtain ⟨D, h1, h2⟩ := h
  obtain ⟨es, cl, h3, _⟩ := h1
  exact ⟨es, cl, h3⟩
theorem setT_reads {D : DataW Unit} (hD : IsMap D) {x y : ByteArray} {d : DataW Unit} : Maps.has (D.put (.string x.data.toList) d) (.string y.data.toList) = (decide (y = x) || Maps.has D (.string y.data.toList)) := by
  by_cases h : y = x
  · subst h
    rw [has_put_same hD (show WideAt.IsKeyLit (Lit.string y.data.toList) from trivial)]; simp
  · rw [has_put_other (fun e => by injection e with e; exact h (WideShapes.bytes_inj e))]; simp [h]
/-- m[x] = struct{}{}, at the operation. -/
theorem wpList_mapUpdate_T {ops : Array Oper} {rest : List Oper} {o : Oper} {a : Act} {Q : Exit → Act → World → Prop} (hg : o.guard = none) (m x v : Operand) (t : TypeId) (hop : o.op = Op.mapUpdate t m x v)
    (k e : TypeId) (ht : P.underlying t = some (.map k e)) (hk : P.underlying k = some .string) (b n : Nat) (g : ByteArray → Bool)
    (hm : a.eval m = .map (some b)) (hown : SetT w P k b n g) (hn : n < maxLen) (xi : ByteArray) (hx : a.eval x = .string xi) (hv : a.eval v = .agg #[]) (hxw : xi.size ≤ maxLen)
    (hK : ∀ w', SetT w' P k b (n + 1) (fun y => decide (y = xi) || g y) → w.grownBy w' (some b) → wpList P ops Q rest (a.put o.dst undef) w') :
    wpList P ops Q (o :: rest) a w := by
  obtain ⟨D, h1, h2⟩ := hown
  refine wpList_mapUpdate_own w hg m x v t hop k e (string_keyed hk) ht unitElem b n D hm h1 hn _ _ (.string xi.data.toList) hx hv (keyOf_string_mk hk hxw) (.agg []) [] unitElem_mk ?_
  intro w' h3 h4
  refine hK w' ⟨_, h3, fun y => ?_⟩ h4
  rw [setT_reads h1.isMap, h2 y]
/-- The same inside a fence. -/
theorem wpListIn_mapUpdate_T {F : Fence} {nF : Nat} {ops : Array Oper} {rest : List Oper} {o : Oper} {a : Act} {Q : Exit → Act → World → Prop} (hg : o.guard = none) (m x v : Operand) (t : TypeId) (hop : o.op = Op.mapUpdate t m x v)
    (k e : TypeId) (ht : P.underlying t = some (.map k e)) (hk : P.underlying k = some .string) (b n : Nat) (g : ByteArray → Bool)
    (hm : a.eval m = .map (some b)) (hown : SetT w P k b n g) (hn : n < maxLen) (xi : ByteArray) (hx : a.eval x = .string xi) (hv : a.eval v = .agg #[]) (hxw : xi.size ≤ maxLen)
    (hK : ∀ w', SetT w' P k b (n + 1) (fun y => decide (y = xi) || g y) → w.grownBy w' (some b) → wpListIn F nF P ops Q rest (a.put o.dst undef) w') :
    wpListIn F nF P ops Q (o :: rest) a w := by
  obtain ⟨D, h1, h2⟩ := hown
  refine wpListIn_mapUpdate_own w hg m x v t hop k e (string_keyed hk) ht unitElem b n D hm h1 hn _ _ (.string xi.data.toList) hx hv (keyOf_string_mk hk hxw) (.agg []) [] unitElem_mk ?_
  intro w' h3 h4
  refine hK w' ⟨_, h3, fun y => ?_⟩ h4
  rw [setT_reads h1.isMap, h2 y]
/-- _, ok := m[x]. -/
theorem wpList_lookup_T {ops : Array Oper} {rest : List Oper} {o : Oper} {a : Act} {Q : Exit → Act → World → Prop} (hg : o.guard = none) (m x : Operand) (t : TypeId) (hop : o.op = Op.lookup t m x true)
    (k e : TypeId) (ht : P.underlying t = some (.map k e)) (hk : P.underlying k = some .string) (hz : (zeroValue e).run P w = .ok (.agg #[]) w) (b n : Nat) (g : ByteArray → Bool)
    (hm : a.eval m = .map (some b)) (hown : SetT w P k b n g) (xi : ByteArray) (hx : a.eval x = .string xi) (hxw : xi.size ≤ maxLen)
    (hK : wpList P ops Q rest (a.put o.dst (.tuple #[.agg #[], .bool (g xi)])) w) :
    wpList P ops Q (o :: rest) a w := by
  obtain ⟨D, h1, h2⟩ := hown
  refine wpList_lookup_own_unit w hg m x t hop k e (string_keyed hk) ht hz b n D hm h1 _ (.string xi.data.toList) hx (keyOf_string_mk hk hxw) ?_
  rw [h2 xi]
  exact hK
/-- The same inside a fence. -/
theorem wpListIn_lookup_T {F : Fence} {nF : Nat} {ops : Array Oper} {rest : List Oper} {o : Oper} {a : Act} {Q : Exit → Act → World → Prop} (hg : o.guard = none) (m x : Operand) (t : TypeId) (hop : o.op = Op.lookup t m x true)
    (k e : TypeId) (ht : P.underlying t = some (.map k e)) (hk : P.underlying k = some .string) (hz : (zeroValue e).run P w = .ok (.agg #[]) w) (b n : Nat) (g : ByteArray → Bool)
    (hm : a.eval m = .map (some b)) (hown : SetT w P k b n g) (xi : ByteArray) (hx : a.eval x = .string xi) (hxw : xi.size ≤ maxLen)
    (hK : wpListIn F nF P ops Q rest (a.put o.dst (.tuple #[.agg #[], .bool (g xi)])) w) :
    wpListIn F nF P ops Q (o :: rest) a w := by
  obtain ⟨D, h1, h2⟩ := hown
  refine wpListIn_lookup_own_unit w hg m x t hop k e (string_keyed hk) ht hz b n D hm h1 _ (.string xi.data.toList) hx (keyOf_string_mk hk hxw) ?_
  rw [h2 xi]
  exact hK
end
end Go.Proofs.YtmilchkemobchaaDoor
