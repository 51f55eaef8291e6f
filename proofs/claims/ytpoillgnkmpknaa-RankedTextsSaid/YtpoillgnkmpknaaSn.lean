/- A string map of which it is known what each key has. -/
import Derived.Test.YtpoillgnkmpknaaSl
import Derived.Test.YtpoillgnkmpknaaSm
import Derived.Test.YtpoillgnkmpknaaTr
set_option linter.unusedVariables false
set_option linter.unusedSectionVars false
namespace Go.Proofs.Ytpoillgnkmpknaa.Ss
open Go.RowKit Rk

structure RI (w : World) (mb : Nat) (F : ByteArray → Option Int) (n : Nat) (wr : World) : Prop where
  below : Below w.heap.size w wr
  map : ∃ L, IsM wr mb 0 L ∧ L.length ≤ n ∧ ∀ x, get ltS x L = F x
theorem RI.lt {w : World} {mb : Nat} {F : ByteArray → Option Int} {n : Nat} {wr : World} (h : RI w mb F n wr) : mb < wr.heap.size := by obtain ⟨L, h1, _⟩ := h.map; exact h1.lt
theorem RI.size {w : World} {mb : Nat} {F : ByteArray → Option Int} {n : Nat} {wr : World} (h : RI w mb F n wr) : w.heap.size ≤ wr.heap.size := h.below.size
theorem RI.put {w : World} {mb : Nat} {F : ByteArray → Option Int} {n : Nat} {wr w' : World} {L : List (ByteArray × Int)} {k : ByteArray} {v : Int} (h : RI w mb F n wr) (hL : L.length ≤ n) (hF : ∀ x, get ltS x L = F x) (hmb : w.heap.size ≤ mb) (hP : PutW mb 0 (ins ltS k v L) wr w') : RI w mb (fun x => if x = k then some v else F x) (n + 1) w' :=
  ⟨below_turned h.below hP.turned (fun i _ e => by omega) h.size, _, hP.map, by have := ins_length_le (lt := ltS) k v L; omega, fun x => by rw [get_ins linS, hF]⟩
theorem RI.congr {w : World} {mb : Nat} {F F' : ByteArray → Option Int} {n n' : Nat} {wr : World} (h : RI w mb F n wr) (hF : ∀ x, F x = F' x) (hn : n ≤ n') : RI w mb F' n' wr := by
  obtain ⟨h1, L, h2, h3, h4⟩ := h
  exact ⟨h1, L, h2, by omega, fun x => by rw [h4, hF]⟩
theorem IsM.new (wr : World) : IsM (wr.alloc (.cells #[.pointer none] 26)) wr.heap.size 0 [] :=
  ⟨none, .nil, _, heap_new _ rfl, rfl, rfl, rfl, List.Pairwise.nil⟩
theorem RI.new {w wr : World} (hb : Below w.heap.size w wr) : RI w wr.heap.size (fun _ => none) 0 (wr.alloc (.cells #[.pointer none] 26)) :=
  ⟨hb.alloc hb.size _, [], IsM.new wr, Nat.zero_le _, fun x => rfl⟩
end Go.Proofs.Ytpoillgnkmpknaa.Ss
