/- General: a map from texts to places that a call has made. No program in this text. -/
import Derived.Maps.OwnIn
import Derived.Maps.OwnSet
import Derived.Maps.Views
import Derived.StringKeys
import Derived.WideShapes
import Derived.Below
set_option linter.unusedVariables false
set_option linter.unusedSectionVars false
namespace Go.Proofs.YtjcmeacgfflfmaaGreat.Md
open Go.Maps Go.WideMaps Go.RowKit

/-- The first place of a name. -/
def fstP : List ByteArray → ByteArray → Option Nat
  | [], _ => none
  | y :: r, x => if y = x then some 0 else (fstP r x).map (· + 1)
theorem fstP_snoc (x y : ByteArray) : ∀ l : List ByteArray, fstP (l ++ [y]) x = match fstP l x with | some i => some i | none => if y = x then some l.length else none
  | [] => by simp [fstP]
  | z :: r => by
    have ih := fstP_snoc x y r
    simp only [List.cons_append, fstP]
    by_cases h : z = x
    · simp [h]
    · simp only [h, if_false, ih]
      cases fstP r x with
      | some i => rfl
      | none => by_cases h2 : y = x <;> simp [h2]
theorem fstP_lt {x : ByteArray} : ∀ {l : List ByteArray} {i : Nat}, fstP l x = some i → i < l.length
  | [], i, h => by cases h
  | y :: r, i, h => by
    unfold fstP at h
    by_cases e : y = x
    · rw [if_pos e] at h; cases h; simp
    · rw [if_neg e] at h
      cases hr : fstP r x with
      | none => rw [hr] at h; cases h
      | some j => rw [hr] at h; cases h; have := fstP_lt hr; simp; omega
/-- Block b is a map that tells f. -/
def MapS (w : World) (P : Program) (k e : TypeId) (b : Nat) (n : Nat) (f : ByteArray → Option Nat) : Prop :=
  ∃ D : DataW Unit, w.ownsMap P k (plainElem P e) b n D ∧ ∀ x : ByteArray, Maps.has D (.string x.data.toList) = (f x).isSome ∧ D.atKey (.string x.data.toList) (.lit (.int .i64 0)) = .lit (.int .i64 (((f x).getD 0 : Nat) : Int))
section
variable {w w' : World} {P : Program} {t k e : TypeId} {b n : Nat} {f : ByteArray → Option Nat} {row : Option Nat}
theorem MapS.made (w : World) (P : Program) (k e : TypeId) : MapS (w.alloc (.map #[] 0)) P k e w.heap.size 0 (fun _ => none) := ⟨.map [], World.ownsMap_made w P k _, fun x => ⟨rfl, rfl⟩⟩
theorem MapS.kept (h : MapS w P k e b n f) (hg : w.grownBy w' row) (hne : some b ≠ row) : MapS w' P k e b n f := by
  obtain ⟨D, h1, h2⟩ := h
  exact ⟨D, h1.kept hg hne, h2⟩
theorem MapS.lt (h : MapS w P k e b n f) : b < w.heap.size := by obtain ⟨D, h1, h2⟩ := h; exact h1.lt
theorem MapS.congr (h : MapS w P k e b n f) {g : ByteArray → Option Nat} (hf : ∀ x, f x = g x) : MapS w P k e b n g := by
  obtain ⟨D, h1, h2⟩ := h
  exact ⟨D, h1, fun x => by rw [← hf x]; exact h2 x⟩
theorem MapS.mono (h : MapS w P k e b n f) {n' : Nat} (hn : n ≤ n') : MapS w P k e b n' f := by
  obtain ⟨D, h1, h2⟩ := h
  exact ⟨D, h1.mono hn, h2⟩
theorem MapS.below (h : MapS w P k e b n f) {B : Nat} (hb : Below B w w') (hB : b < B) : MapS w' P k e b n f := by
  obtain ⟨D, ⟨es, cl, h3, h4⟩, h2⟩ := h
  exact ⟨D, ⟨es, cl, (hb.block b hB).trans h3, h4⟩, h2⟩
/-- m[x]. -/
theorem MapS.look (h : MapS w P k e b n f) (ht : P.underlying t = some (.map k e)) (hk : P.underlying k = some .string) (he : P.underlying e = some (.int .i64)) (hz : (zeroValue e).run P w = .ok (.int .i64 0) w) {x : ByteArray} (hx : x.size ≤ maxLen) :
    (Instr.lookup t (.map (some b)) (.string x) false).run P w = .ok (.int .i64 (((f x).getD 0 : Nat) : Int)) w := by
  obtain ⟨D, h1, h2⟩ := h
  obtain ⟨c, hrun, hat, _⟩ := h1.lookup_int (string_keyed hk) ht he hz (keyOf_string_mk hk hx)
  rw [(h2 x).2] at hat
  cases hat
  exact hrun
/-- v, ok := m[x]. -/
theorem MapS.look_ok (h : MapS w P k e b n f) (ht : P.underlying t = some (.map k e)) (hk : P.underlying k = some .string) (he : P.underlying e = some (.int .i64)) (hz : (zeroValue e).run P w = .ok (.int .i64 0) w) {x : ByteArray} (hx : x.size ≤ maxLen) :
    (Instr.lookup t (.map (some b)) (.string x) true).run P w = .ok (.tuple #[.int .i64 (((f x).getD 0 : Nat) : Int), .bool (f x).isSome]) w := by
  obtain ⟨D, h1, h2⟩ := h
  obtain ⟨v, ps, hrun, hv⟩ := h1.look_ok (string_keyed hk) ht hz (plainElem_int he (by decide)) (keyOf_string_mk hk hx)
  obtain ⟨c, rfl, hc, _⟩ := plainElem_int_inv he hv
  have hc' := congrArg Prod.fst hc
  simp only at hc'
  rw [(h2 x).2] at hc'
  cases hc'
  rw [(h2 x).1] at hrun
  exact hrun
/-- A look-up, at the operation. -/
theorem wpList_lookS {ops : Array Oper} {rest : List Oper} {o : Oper} {a : Act} {Q : Exit → Act → World → Prop} (hg : o.guard = none) (t : TypeId) (m x : Operand) (ok : Bool) (hop : o.op = Op.lookup t m x ok)
    (mv xv v : Value) (hm : a.eval m = mv) (hx : a.eval x = xv) (hrun : (Instr.lookup t mv xv ok).run P w = .ok v w) (h : wpList P ops Q rest (a.put o.dst v) w) : wpList P ops Q (o :: rest) a w := by
  refine wpList_plain hg fun K' hK' => ?_
  unfold Oper.wp
  simp [execOp, hop, hm, hx, hrun, Result.andThen]
  exact hK' _ _ h
theorem putS_reads {D : DataW Unit} (hD : IsMap D) {x y : ByteArray} {d z : DataW Unit} : Maps.has (D.put (.string x.data.toList) d) (.string y.data.toList) = (decide (y = x) || Maps.has D (.string y.data.toList)) ∧
    (D.put (.string x.data.toList) d).atKey (.string y.data.toList) z = if y = x then d else D.atKey (.string y.data.toList) z := by
  by_cases h : y = x
  · subst h
    rw [has_put_same hD (show WideAt.IsKeyLit (Lit.string y.data.toList) from trivial), if_pos rfl, atKey_put_same hD (show WideAt.IsKeyLit (Lit.string y.data.toList) from trivial)]
    simp
  · have hne : Lit.string y.data.toList ≠ Lit.string x.data.toList := fun e => by injection e with e; exact h (WideShapes.bytes_inj e)
    rw [has_put_other hne, if_neg h, atKey_put_other hne]
    simp [h]
/-- m[x] = v, at the operation. -/
theorem wpList_mapUpdate_S {ops : Array Oper} {rest : List Oper} {o : Oper} {a : Act} {Q : Exit → Act → World → Prop} (hg : o.guard = none) (m x v : Operand) (t : TypeId) (hop : o.op = Op.mapUpdate t m x v)
    (k e : TypeId) (ht : P.underlying t = some (.map k e)) (hk : P.underlying k = some .string) (he : P.underlying e = some (.int .i64)) (b n : Nat) (f : ByteArray → Option Nat)
    (hm : a.eval m = .map (some b)) (hown : MapS w P k e b n f) (hn : n < maxLen) (xi : ByteArray) (vi : Nat) (hx : a.eval x = .string xi) (hv : a.eval v = .int .i64 (vi : Int)) (hxw : xi.size ≤ maxLen) (hvw : (Lit.int .i64 (vi : Int)).wf = true)
    (hK : ∀ w', MapS w' P k e b (n + 1) (fun y => if y = xi then some vi else f y) → w.grownBy w' (some b) → wpList P ops Q rest (a.put o.dst undef) w') :
    wpList P ops Q (o :: rest) a w := by
  obtain ⟨D, h1, h2⟩ := hown
  refine wpList_mapUpdate_own w hg m x v t hop k e (string_keyed hk) ht (plainElem P e) b n D hm h1 hn _ _ (.string xi.data.toList) hx hv (keyOf_string_mk hk hxw) (.lit (.int .i64 (vi : Int))) [] (plainElem_int he hvw) ?_
  intro w' h3 h4
  refine hK w' ⟨_, h3, fun y => ?_⟩ h4
  obtain ⟨r1, r2⟩ := putS_reads (d := .lit (.int .i64 (vi : Int))) (z := .lit (.int .i64 0)) h1.isMap (x := xi) (y := y)
  rw [r1, r2]
  by_cases e : y = xi
  · simp [e]
  · simp only [if_neg e, decide_eq_false e, Bool.false_or]
    exact h2 y
end
end Go.Proofs.YtjcmeacgfflfmaaGreat.Md
