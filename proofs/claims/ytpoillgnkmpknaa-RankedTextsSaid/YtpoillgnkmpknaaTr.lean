/- The walk of RankedDrops. -/
import Derived.Test.YtpoillgnkmpknaaTp
import Derived.Test.YtpoillgnkmpknaaTq
import Derived.Test.YtpoillgnkmpknaaMp
set_option linter.unusedVariables false
set_option linter.unusedSectionVars false
namespace Go.Proofs.Ytpoillgnkmpknaa
open Go.RowKit Rk

theorem turned_grown {m : Nat} {W W' : World} (h : Turned (fun c => c = m) W W') : W.grownBy W' (some m) := ⟨h.os, h.tape, h.output, h.size, fun k hk hn => h.block k hk (fun e => hn (by rw [e]))⟩
theorem grown_turned {m : Nat} {W W' : World} (h : W.grownBy W' (some m)) : Turned (fun c => c = m) W W' := ⟨h.os, h.tape, h.output, h.size, fun k hk hn => h.block k hk (fun e => hn (by cases e; rfl))⟩
theorem MapB.obj {w : World} {P : Program} {k e : TypeId} {b n : Nat} {g : Int → Bool} (h : MapB w P k e b n g) : ∃ es cl, w.heap[b]? = some (.map es cl) := by
  obtain ⟨D, h1, h2⟩ := h
  obtain ⟨es, cl, h3, _⟩ := h1
  exact ⟨es, cl, h3⟩
/-- A map of which it is known what each key has. -/
structure RI (w : World) (mb : Nat) (F : Int → Option Int) (n : Nat) (wr : World) : Prop where
  below : Below w.heap.size w wr
  map : ∃ L, IsM wr mb 0 L ∧ L.length ≤ n ∧ ∀ x, get ltI x L = F x
theorem RI.lt {w : World} {mb : Nat} {F : Int → Option Int} {n : Nat} {wr : World} (h : RI w mb F n wr) : mb < wr.heap.size := by obtain ⟨L, h1, _⟩ := h.map; exact h1.lt
theorem RI.size {w : World} {mb : Nat} {F : Int → Option Int} {n : Nat} {wr : World} (h : RI w mb F n wr) : w.heap.size ≤ wr.heap.size := h.below.size
theorem RI.put {w : World} {mb : Nat} {F : Int → Option Int} {n : Nat} {wr w' : World} {L : List (Int × Int)} {k v : Int} (h : RI w mb F n wr) (hL : L.length ≤ n) (hF : ∀ x, get ltI x L = F x) (hmb : w.heap.size ≤ mb) (hP : PutW mb 0 (ins ltI k v L) wr w') : RI w mb (fun x => if x = k then some v else F x) (n + 1) w' :=
  ⟨below_turned h.below hP.turned (fun i _ e => by omega) h.size, _, hP.map, by have := ins_length_le (lt := ltI) k v L; omega, fun x => by rw [get_ins linI, hF]⟩
theorem RI.drop {w : World} {mb : Nat} {F : Int → Option Int} {n : Nat} {wr w' : World} {L : List (Int × Int)} {k : Int} (h : RI w mb F n wr) (hL : L.length ≤ n) (hF : ∀ x, get ltI x L = F x) (hmb : w.heap.size ≤ mb) (hP : PutW mb 0 (del ltI k L) wr w') : RI w mb (fun x => if x = k then none else F x) n w' :=
  ⟨below_turned h.below hP.turned (fun i _ e => by omega) h.size, _, hP.map, by have := del_length_le (lt := ltI) k L; omega, fun x => by rw [get_del linI, hF]⟩
theorem RI.congr {w : World} {mb : Nat} {F F' : Int → Option Int} {n n' : Nat} {wr : World} (h : RI w mb F n wr) (hF : ∀ x, F x = F' x) (hn : n ≤ n') : RI w mb F' n' wr := by
  obtain ⟨h1, L, h2, h3, h4⟩ := h
  exact ⟨h1, L, h2, by omega, fun x => by rw [h4, hF]⟩
theorem RI.new {w wr : World} (hb : Below w.heap.size w wr) : RI w wr.heap.size (fun _ => none) 0 (wr.alloc (.cells #[.pointer none] 38)) :=
  ⟨hb.alloc hb.size _, [], IsM.new wr, Nat.zero_le _, fun x => rfl⟩
/-- A look-up. -/
theorem wpList_look {P : Program} {ops : Array Oper} {rest : List Oper} {o : Oper} {a : Act} {Q : Exit → Act → World → Prop} {w : World} (hg : o.guard = none) (t : TypeId) (m x : Operand) (hop : o.op = Op.lookup t m x false)
    (mv xv v : Value) (hm : a.eval m = mv) (hx : a.eval x = xv) (hrun : (Instr.lookup t mv xv false).run P w = .ok v w) (h : wpList P ops Q rest (a.put o.dst v) w) : wpList P ops Q (o :: rest) a w := by
  refine wpList_plain hg fun K' hK' => ?_
  unfold Oper.wp
  simp [execOp, hop, hm, hx, hrun, Result.andThen]
  exact hK' _ _ h
theorem Gath.sits {w : World} {base : Nat} {a : Option Addr} {cap : Nat} {n : Nat} {l : List (Int × Int)} (h : Gath w base 65 2 (.slice a n cap) n (its l)) (hn : l.length = n) : ∃ b, ItsAt w.heap.size w a b n l ∧ n ≤ cap ∧ (n = 0 ∨ base ≤ b) := by
  obtain ⟨a', cap', b, hv, hc, hb, hI⟩ := Gath.itsAt h hn
  cases hv
  exact ⟨b, hI, hc, hb.imp id (fun h => h.1)⟩
end Go.Proofs.Ytpoillgnkmpknaa
