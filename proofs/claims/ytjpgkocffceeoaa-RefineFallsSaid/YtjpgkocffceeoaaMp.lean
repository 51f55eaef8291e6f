/- General: a map that a call has made, its keys ints: what it reads as, a number (MapI) or a truth (MapB) for each key. No program in this text. -/
import Derived.Maps.RangeWalk
import Derived.Maps.OwnSet
import Derived.Maps.Views
set_option linter.unusedVariables false
set_option linter.unusedSectionVars false
namespace Go.Proofs.Ytjpgkocffceeoaa
open Go.Maps

/-- Block b is a map that reads as f. -/
def MapI (w : World) (P : Program) (k e : TypeId) (b n : Nat) (f : Int → Int) : Prop :=
  ∃ D : DataW Unit, w.ownsMap P k (plainElem P e) b n D ∧ ∀ x : Int, (Lit.int .i64 x).wf = true → D.atKey (.int .i64 x) (.lit (.int .i64 0)) = .lit (.int .i64 (f x))
def MapB (w : World) (P : Program) (k e : TypeId) (b n : Nat) (f : Int → Bool) : Prop :=
  ∃ D : DataW Unit, w.ownsMap P k (plainElem P e) b n D ∧ ∀ x : Int, (Lit.int .i64 x).wf = true → D.atKey (.int .i64 x) (.lit (.bool false)) = .lit (.bool (f x))
section
variable {w w' : World} {P : Program} {t k e : TypeId} {b n : Nat} {f : Int → Int} {g : Int → Bool} {row : Option Nat}
theorem MapI.made (w : World) (P : Program) (k e : TypeId) : MapI (w.alloc (.map #[] 0)) P k e w.heap.size 0 (fun _ => 0) := ⟨.map [], World.ownsMap_made w P k _, fun x _ => rfl⟩
theorem MapB.made (w : World) (P : Program) (k e : TypeId) : MapB (w.alloc (.map #[] 0)) P k e w.heap.size 0 (fun _ => false) := ⟨.map [], World.ownsMap_made w P k _, fun x _ => rfl⟩
theorem MapI.kept (h : MapI w P k e b n f) (hg : w.grownBy w' row) (hne : some b ≠ row) : MapI w' P k e b n f := by
  obtain ⟨D, h1, h2⟩ := h
  exact ⟨D, h1.kept hg hne, h2⟩
theorem MapB.kept (h : MapB w P k e b n g) (hg : w.grownBy w' row) (hne : some b ≠ row) : MapB w' P k e b n g := by
  obtain ⟨D, h1, h2⟩ := h
  exact ⟨D, h1.kept hg hne, h2⟩
theorem MapI.lt (h : MapI w P k e b n f) : b < w.heap.size := by obtain ⟨D, h1, h2⟩ := h; exact h1.lt
theorem MapB.lt (h : MapB w P k e b n g) : b < w.heap.size := by obtain ⟨D, h1, h2⟩ := h; exact h1.lt
theorem MapI.congr (h : MapI w P k e b n f) {f' : Int → Int} (hf : ∀ x, f x = f' x) : MapI w P k e b n f' := by
  obtain ⟨D, h1, h2⟩ := h
  exact ⟨D, h1, fun x hx => by rw [h2 x hx, hf]⟩
theorem MapB.congr (h : MapB w P k e b n g) {g' : Int → Bool} (hf : ∀ x, g x = g' x) : MapB w P k e b n g' := by
  obtain ⟨D, h1, h2⟩ := h
  exact ⟨D, h1, fun x hx => by rw [h2 x hx, hf]⟩
/-- m[x]. -/
theorem MapI.look (h : MapI w P k e b n f) (ht : P.underlying t = some (.map k e)) (hk : P.underlying k = some (.int .i64)) (he : P.underlying e = some (.int .i64)) (hz : (zeroValue e).run P w = .ok (.int .i64 0) w) {x : Int} (hx : (Lit.int .i64 x).wf = true) :
    (Instr.lookup t (.map (some b)) (.int .i64 x) false).run P w = .ok (.int .i64 (f x)) w := by
  obtain ⟨D, h1, h2⟩ := h
  obtain ⟨c, hrun, hat, _⟩ := h1.lookup_int (int_keyed hk) ht he hz (keyOf_int_mk hk hx)
  rw [h2 x hx] at hat
  cases hat
  exact hrun
theorem plainElem_bool_inv {H : Type} (he : P.underlying e = some .bool) {v : Value} {z : DataW H × List MemPlace} (h : plainElem P e v = some z) : ∃ x, v = .bool x ∧ z = (.lit (.bool x), []) := by
  unfold plainElem at h
  rw [he] at h
  cases v <;> simp at h
  exact ⟨_, rfl, h.symm⟩
theorem MapB.look (h : MapB w P k e b n g) (ht : P.underlying t = some (.map k e)) (hk : P.underlying k = some (.int .i64)) (he : P.underlying e = some .bool) (hz : (zeroValue e).run P w = .ok (.bool false) w) {x : Int} (hx : (Lit.int .i64 x).wf = true) :
    (Instr.lookup t (.map (some b)) (.int .i64 x) false).run P w = .ok (.bool (g x)) w := by
  obtain ⟨D, h1, h2⟩ := h
  obtain ⟨v, ps, hrun, hv⟩ := h1.lookup (int_keyed hk) ht hz (plainElem_bool he false) (keyOf_int_mk hk hx)
  obtain ⟨c, rfl, hc⟩ := plainElem_bool_inv he hv
  simp only [Prod.mk.injEq] at hc
  rw [h2 x hx] at hc
  cases hc.1
  exact hrun
theorem put_reads {D : DataW Unit} (hD : IsMap D) {x y : Int} {d z : DataW Unit} : (D.put (.int .i64 x) d).atKey (.int .i64 y) z = if y = x then d else D.atKey (.int .i64 y) z := by
  by_cases h : y = x
  · subst h
    rw [if_pos rfl, atKey_put_same hD (show WideAt.IsKeyLit (Lit.int .i64 y) from trivial)]
  · rw [if_neg h, atKey_put_other (fun e => by cases e; exact h rfl)]
/-- m[x] = v, at the operation. -/
theorem wpList_mapUpdate_I {ops : Array Oper} {rest : List Oper} {o : Oper} {a : Act} {Q : Exit → Act → World → Prop} (hg : o.guard = none) (m x v : Operand) (t : TypeId) (hop : o.op = Op.mapUpdate t m x v)
    (k e : TypeId) (ht : P.underlying t = some (.map k e)) (hk : P.underlying k = some (.int .i64)) (he : P.underlying e = some (.int .i64)) (b n : Nat) (f : Int → Int)
    (hm : a.eval m = .map (some b)) (hown : MapI w P k e b n f) (hn : n < maxLen) (xi vi : Int) (hx : a.eval x = .int .i64 xi) (hv : a.eval v = .int .i64 vi) (hxw : (Lit.int .i64 xi).wf = true) (hvw : (Lit.int .i64 vi).wf = true)
    (hK : ∀ w', MapI w' P k e b (n + 1) (fun y => if y = xi then vi else f y) → w.grownBy w' (some b) → wpList P ops Q rest (a.put o.dst undef) w') :
    wpList P ops Q (o :: rest) a w := by
  obtain ⟨D, h1, h2⟩ := hown
  refine wpList_mapUpdate_own w hg m x v t hop k e (int_keyed hk) ht (plainElem P e) b n D hm h1 hn _ _ (.int .i64 xi) hx hv (keyOf_int_mk hk hxw) (.lit (.int .i64 vi)) [] (plainElem_int he hvw) ?_
  intro w' h3 h4
  refine hK w' ⟨_, h3, fun y hy => ?_⟩ h4
  rw [put_reads h1.isMap]
  by_cases e : y = xi
  · simp [e]
  · simp only [if_neg e]
    exact h2 y hy
theorem wpList_mapUpdate_B {ops : Array Oper} {rest : List Oper} {o : Oper} {a : Act} {Q : Exit → Act → World → Prop} (hg : o.guard = none) (m x v : Operand) (t : TypeId) (hop : o.op = Op.mapUpdate t m x v)
    (k e : TypeId) (ht : P.underlying t = some (.map k e)) (hk : P.underlying k = some (.int .i64)) (he : P.underlying e = some .bool) (b n : Nat) (g : Int → Bool)
    (hm : a.eval m = .map (some b)) (hown : MapB w P k e b n g) (hn : n < maxLen) (xi : Int) (vi : Bool) (hx : a.eval x = .int .i64 xi) (hv : a.eval v = .bool vi) (hxw : (Lit.int .i64 xi).wf = true)
    (hK : ∀ w', MapB w' P k e b (n + 1) (fun y => if y = xi then vi else g y) → w.grownBy w' (some b) → wpList P ops Q rest (a.put o.dst undef) w') :
    wpList P ops Q (o :: rest) a w := by
  obtain ⟨D, h1, h2⟩ := hown
  refine wpList_mapUpdate_own w hg m x v t hop k e (int_keyed hk) ht (plainElem P e) b n D hm h1 hn _ _ (.int .i64 xi) hx hv (keyOf_int_mk hk hxw) (.lit (.bool vi)) [] (plainElem_bool he vi) ?_
  intro w' h3 h4
  refine hK w' ⟨_, h3, fun y hy => ?_⟩ h4
  rw [put_reads h1.isMap]
  by_cases e : y = xi
  · simp [e]
  · simp only [if_neg e]
    exact h2 y hy
end
end Go.Proofs.Ytjpgkocffceeoaa
