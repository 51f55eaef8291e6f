/- The walk of RankedDrops. -/
import Derived.Test.YtjbkfopfckphjaaTp
import Derived.Test.YtjbkfopfckphjaaTq
import Derived.Test.YtjbkfopfckphjaaMp
set_option linter.unusedVariables false
set_option linter.unusedSectionVars false
namespace Go.Proofs.Ytjbkfopfckphjaa
open Go.RowKit Rk

theorem turned_grown {m : Nat} {W W' : World} (h : Turned (fun c => c = m) W W') : W.grownBy W' (some m) := ⟨h.os, h.tape, h.output, h.size, fun k hk hn => h.block k hk (fun e => hn (by rw [e]))⟩
theorem grown_turned {m : Nat} {W W' : World} (h : W.grownBy W' (some m)) : Turned (fun c => c = m) W W' := ⟨h.os, h.tape, h.output, h.size, fun k hk hn => h.block k hk (fun e => hn (by cases e; rfl))⟩
theorem MapB.obj {w : World} {P : Program} {k e : TypeId} {b n : Nat} {g : Int → Bool} (h : MapB w P k e b n g) : ∃ es cl, w.heap[b]? = some (.map es cl) := by
  obtain ⟨D, h1, h2⟩ := h
  obtain ⟨es, cl, h3, _⟩ := h1
  exact ⟨es, cl, h3⟩
/-- A map of which it is known what each key has. -/
structure RI (w : World) (mb : Nat) (F : Int → Option Int) (n : Nat) (wr : World) : Prop where
  below : Below w.heap.size w wr
  map : ∃ L, IsM wr mb 0 L ∧ L.length ≤ n ∧ ∀ x, get ltI x L = F x
theorem RI.lt {w : World} {mb : Nat} {F : Int → Option Int} {n : Nat} {wr : World} (h : RI w mb F n wr) : mb < wr.heap.size := by obtain ⟨L, h1, _⟩ := h.map; exact h1.lt
theorem RI.size {w : World} {mb : Nat} {F : Int → Option Int} {n : Nat} {wr : World} (h : RI w mb F n wr) : w.heap.size ≤ wr.heap.size := h.below.size
theorem RI.put {w : World} {mb : Nat} {F : Int → Option Int} {n : Nat} {wr w' : World} {L : List (Int × Int)} {k v : Int} (h : RI w mb F n wr) (hL : L.length ≤ n) (hF : ∀ x, get ltI x L = F x) (hmb : w.heap.size ≤ mb) (hP : PutW mb 0 (ins ltI k v L) wr w') : RI w mb (fun x => if x = k then some v else F x) (n + 1) w' :=
  ⟨below_turned h.below hP.turned (fun i _ e => by omega) h.size, _, hP.map, by have := ins_length_le (lt := ltI) k v L; omega, fun x => by rw [get_ins linI, hF]⟩
theorem RI.drop {w : World} {mb : Nat} {F : Int → Option Int} {n : Nat} {wr w' : World} {L : List (Int × Int)} {k : Int} (h : RI w mb F n wr) (hL : L.length ≤ n) (hF : ∀ x, get ltI x L = F x) (hmb : w.heap.size ≤ mb) (hP : PutW mb 0 (del ltI k L) wr w') : RI w mb (fun x => if x = k then none else F x) n w' :=
  ⟨below_turned h.below hP.turned (fun i _ e => by omega) h.size, _, hP.map, by have := del_length_le (lt := ltI) k L; omega, fun x => by rw [get_del linI, hF]⟩
theorem RI.congr {w : World} {mb : Nat} {F F' : Int → Option Int} {n n' : Nat} {wr : World} (h : RI w mb F n wr) (hF : ∀ x, F x = F' x) (hn : n ≤ n') : RI w mb F' n' wr := by
  obtain ⟨h1, L, h2, h3, h4⟩ := h
  exact ⟨h1, L, h2, by omega, fun x => by rw [h4, hF]⟩
theorem RI.new {w wr : World} (hb : Below w.heap.size w wr) : RI w wr.heap.size (fun _ => none) 0 (wr.alloc (.cells #[.pointer none] 26)) :=
  ⟨hb.alloc hb.size _, [], IsM.new wr, Nat.zero_le _, fun x => rfl⟩
/-- Beside it: a set of numbers, a copy, a row. -/
structure DW (w : World) (mb mc fb b8 B8 n8 : Nat) (a8 : Option Addr) (L0 : List (Int × Int)) (F : Int → Option Int) (n : Nat) (g : Int → Bool) (j : Nat) (wr : World) : Prop where
  ri : RI w mb F n wr
  set : MapB wr Try.prog 3 4 fb j g
  cop : IsM wr mc 0 L0
  was : ItsAt B8 wr a8 b8 n8 L0
  size : B8 ≤ wr.heap.size
theorem DW.turned {w : World} {mb mc fb b8 B8 n8 : Nat} {a8 : Option Addr} {L0 : List (Int × Int)} {F F' : Int → Option Int} {n n' : Nat} {g : Int → Bool} {j : Nat} {wr w' : World} {L' : List (Int × Int)} (h : DW w mb mc fb b8 B8 n8 a8 L0 F n g j wr) (h1 : mc ≠ mb) (h2 : fb ≠ mb) (h3 : n8 = 0 ∨ b8 ≠ mb)
    (hP : PutW mb 0 L' wr w') (hr : RI w mb F' n' w') : DW w mb mc fb b8 B8 n8 a8 L0 F' n' g j w' := by
  obtain ⟨L, hL, _⟩ := h.ri.map
  exact ⟨hr, h.set.kept (turned_grown hP.turned) (fun e => h2 (by cases e; rfl)), h.cop.apart hP h1 hL.box, h.was.turned hP.turned h.size h3, Nat.le_trans h.size hP.turned.size⟩
theorem DW.upd {w : World} {mb mc fb b8 B8 n8 : Nat} {a8 : Option Addr} {L0 : List (Int × Int)} {F : Int → Option Int} {n : Nat} {g g' : Int → Bool} {j j' : Nat} {wr w' : World} (h : DW w mb mc fb b8 B8 n8 a8 L0 F n g j wr) (h1 : mc ≠ fb) (h2 : mb ≠ fb) (h3 : n8 = 0 ∨ b8 ≠ fb) (hw : w.heap.size ≤ fb)
    (hg : wr.grownBy w' (some fb)) (hM : MapB w' Try.prog 3 4 fb j' g') : DW w mb mc fb b8 B8 n8 a8 L0 F n g' j' w' := by
  obtain ⟨es, cl, ho⟩ := h.set.obj
  have ht := grown_turned hg
  have hn : ∀ c, c = fb → ∀ o, wr.heap[c]? = some o → NotNode o := fun c e o hc => by subst e; rw [ho] at hc; cases hc; exact fun _ _ e => by cases e
  obtain ⟨hb, L, hL, h5, h6⟩ := h.ri
  exact ⟨⟨below_turned hb ht (fun i _ e => by omega) hb.size, L, hL.turned ht h2 hn, h5, h6⟩, hM, h.cop.turned ht h1 hn, h.was.turned ht h.size h3, Nat.le_trans h.size hg.size⟩
/-- A look-up. -/
theorem wpList_look {P : Program} {ops : Array Oper} {rest : List Oper} {o : Oper} {a : Act} {Q : Exit → Act → World → Prop} {w : World} (hg : o.guard = none) (t : TypeId) (m x : Operand) (hop : o.op = Op.lookup t m x false)
    (mv xv v : Value) (hm : a.eval m = mv) (hx : a.eval x = xv) (hrun : (Instr.lookup t mv xv false).run P w = .ok v w) (h : wpList P ops Q rest (a.put o.dst v) w) : wpList P ops Q (o :: rest) a w := by
  refine wpList_plain hg fun K' hK' => ?_
  unfold Oper.wp
  simp [execOp, hop, hm, hx, hrun, Result.andThen]
  exact hK' _ _ h
theorem DW.look {w : World} {mb mc fb b8 B8 n8 : Nat} {a8 : Option Addr} {L0 : List (Int × Int)} {F : Int → Option Int} {n : Nat} {g : Int → Bool} {j : Nat} {wr : World} (h : DW w mb mc fb b8 B8 n8 a8 L0 F n g j wr) {x : Int} (hx : (Lit.int .i64 x).wf = true) :
    (Instr.lookup 67 (.map (some fb)) (.int .i64 x) false).run Try.prog wr = .ok (.bool (g x)) wr :=
  h.set.look Try.underlying67 Try.underlying3 Try.underlying4 (by rfl) hx
theorem Gath.sits {w : World} {base : Nat} {a : Option Addr} {cap : Nat} {n : Nat} {l : List (Int × Int)} (h : Gath w base 42 2 (.slice a n cap) n (its l)) (hn : l.length = n) : ∃ b, ItsAt w.heap.size w a b n l ∧ n ≤ cap ∧ (n = 0 ∨ base ≤ b) := by
  obtain ⟨a', cap', b, hv, hc, hb, hI⟩ := Gath.itsAt h hn
  cases hv
  exact ⟨b, hI, hc, hb.imp id (fun h => h.1)⟩
end Go.Proofs.Ytjbkfopfckphjaa
