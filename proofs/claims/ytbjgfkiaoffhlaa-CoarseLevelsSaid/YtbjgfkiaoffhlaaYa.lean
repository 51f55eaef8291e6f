/- Small rows: of two, of three; an argument's row; a base that stood before. -/
import Derived.Test.YtbjgfkiaoffhlaaBo
set_option linter.unusedVariables false
set_option linter.unusedSectionVars false
namespace Go.Proofs.Ytbjgfkiaoffhlaa
open Go.RowKit Go.Shelf Rk

theorem IsRow.zz {k : IntKind} {w : World} {a : Option Addr} {len cap : Nat} {z : List Int} (h : IsRow k w a len cap z) : ∃ b off zs, IntsAt k w.heap.size w a b off len zs ∧ (a = none → len = 0 ∧ cap = 0) := by
  obtain ⟨b, off, hi⟩ := h.ints
  exact ⟨b, off, _, hi, fun e => by subst e; exact h.nil⟩
theorem ints_three (w : World) (a b c : Int) (ha : (Lit.int .i64 a).wf = true) (hb : (Lit.int .i64 b).wf = true) (hc : (Lit.int .i64 c).wf = true) (t : TypeId) : IntsAt .i64 (w.alloc (.cells #[.int .i64 a, .int .i64 b, .int .i64 c] t)).heap.size (w.alloc (.cells #[.int .i64 a, .int .i64 b, .int .i64 c] t)) (some ⟨w.heap.size, 0, none⟩) w.heap.size 0 3 [a, b, c] :=
  ⟨.inr rfl, rfl, by decide, .inr (by simp), fun i hi => by
    match i, hi with
    | 0, _ => exact heap_cell (heap_new _ rfl) rfl
    | 1, _ => exact heap_cell (heap_new _ rfl) rfl
    | 2, _ => exact heap_cell (heap_new _ rfl) rfl, fun n hn => by simp at hn; rcases hn with rfl | rfl | rfl <;> assumption⟩
theorem rops_two (w : World) (o p : RopV) (ho : o.ok) (hp : p.ok) (t : TypeId) : RopsAt (w.alloc (.cells #[.int .i64 o.kind, .int .i64 o.key, .int .i64 o.n, .int .i64 p.kind, .int .i64 p.key, .int .i64 p.n] t)).heap.size (w.alloc (.cells #[.int .i64 o.kind, .int .i64 o.key, .int .i64 o.n, .int .i64 p.kind, .int .i64 p.key, .int .i64 p.n] t)) (some ⟨w.heap.size, 0, none⟩) w.heap.size 0 2 [o, p] :=
  ⟨.inr rfl, rfl, by decide, .inr (by simp), fun i o' hi => by
    match i, hi with
    | 0, hi =>
      cases hi
      exact ⟨heap_cell (heap_new _ rfl) rfl, heap_cell (heap_new _ rfl) rfl, heap_cell (heap_new _ rfl) rfl⟩
    | 1, hi =>
      cases hi
      exact ⟨heap_cell (heap_new _ rfl) rfl, heap_cell (heap_new _ rfl) rfl, heap_cell (heap_new _ rfl) rfl⟩, fun n hn => by simp at hn; rcases hn with rfl | rfl <;> assumption⟩
theorem BothR.base {v w W : World} {g nb Bx lo : Nat} {X : XD} {zs : List Int} {F : Nat → Nat → Int} (h : BothR w g nb Bx lo X zs F W) (hb : Below v.heap.size v w) : BothR v g nb Bx lo X zs F W :=
  ⟨h.one, h.two, h.gw, h.box, hb.trans (h.below.mono hb.size)⟩
end Go.Proofs.Ytbjgfkiaoffhlaa
