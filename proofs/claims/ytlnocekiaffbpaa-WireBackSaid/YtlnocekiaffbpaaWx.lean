/- A writer beside a slice of bytes that grows: they stay apart. -/
import Derived.Test.YtlnocekiaffbpaaOr
import Derived.Test.YtlnocekiaffbpaaJp
import Derived.Test.YtlnocekiaffbpaaAp
set_option linter.unusedVariables false
namespace Go.Proofs.Ytlnocekiaffbpaa
open Go.RowKit

/-- A chain lies in the blocks that there are. -/
theorem Chain.tight {S : Nat → Prop} {w : World} : ∀ n p zs, Chain S w n p zs → Chain (fun k => S k ∧ k < w.heap.size) w n p zs := by
  intro n
  induction n with
  | zero => intro p zs h; exact h
  | succ n ih =>
    intro p zs h
    obtain ⟨g, q, a, cap, b, off, front, bs, h1, h2, h3, h4, h5, h6, h7, h8⟩ := h
    refine ⟨g, q, a, cap, b, off, front, bs, h1, ⟨h2, heap_lt h3⟩, h3, h4, h5, ?_, h7, ih _ _ h8⟩
    have hb := h5.below
    by_cases h0 : bs.length = 0
    · exact .inl h0
    · exact .inr ⟨h6.resolve_left h0, hb.resolve_left h0⟩
theorem WIs.tight {S T : Nat → Prop} {w : World} {W : Nat} {zs : List Int} (h : WIs S w W zs) (hT : ∀ k, S k → k < w.heap.size → T k) (hW : ¬ T W) : WIs T w W zs := by
  obtain ⟨p, ⟨n, hc⟩, hb, ho⟩ := h
  exact ⟨p, ⟨n, (hc.tight).wider (fun k hk => hT k hk.1 hk.2)⟩, hb, hW⟩
theorem WIs.lt {S : Nat → Prop} {w : World} {W : Nat} {zs : List Int} (h : WIs S w W zs) : W < w.heap.size := by
  obtain ⟨p, _, hb, _⟩ := h
  exact heap_lt hb

/-- The writer in block N has da; the slice v owns db. -/
structure PairH (w : World) (N : Nat) (v : Value) (da db : List Int) (W : World) : Prop where
  wr : ∃ S : Nat → Prop, WIs S W N da ∧ (∀ g, v.ownBlock = some g → ¬ S g) ∧ ∀ k, S k → k < W.heap.size
  own : W.ownsRow w.heap.size 5 1 v db.length (ivals .u8 db)
  nn : ∃ g, v.ownBlock = some g
  ne : v.ownBlock ≠ some N
  below : Below w.heap.size w W
  lo : w.heap.size ≤ N
theorem PairH.new {w W W' : World} {N : Nat} {v : Value} {da db : List Int} (h : PairH w N v da db W) (hb : Below W.heap.size W W') : PairH w N v da db W' := by
  obtain ⟨S, h1, h2, h3⟩ := h.wr
  exact ⟨⟨S, h1.stay (Stay.below hb), h2, fun k hk => Nat.lt_of_lt_of_le (h3 k hk) hb.size⟩, h.own.kept (grown_below hb none) (by obtain ⟨g, hg⟩ := h.nn; exact .inr (by rw [hg]; simp)), h.nn, h.ne, h.below.trans (hb.mono h.below.size), h.lo⟩
theorem PairH.open {w W : World} {N : Nat} {v : Value} {da db : List Int} (h : PairH w N v da db W) :
    ∃ S : Nat → Prop, WIs S W N da ∧ (∀ k, W.heap.size ≤ k → S k) ∧ ∀ W1 da', WIs S W1 N da' → W.grownBy W1 (some N) → PairH w N v da' db W1 := by
  obtain ⟨S, h1, h2, h3⟩ := h.wr
  have hN := h1.lt
  have hSN : ¬ S N := by obtain ⟨_, hw⟩ := h1; exact hw.out
  refine ⟨fun k => S k ∨ W.heap.size ≤ k, h1.tight (fun k hk _ => .inl hk) (fun hk => by rcases hk with hk | hk; exact hSN hk; omega), fun k hk => .inr hk, fun W1 da' hw hg => ?_⟩
  have hown : ∀ g, v.ownBlock = some g → g < W.heap.size := fun g hg' => (h.own.lt g hg').2
  refine ⟨⟨fun k => (S k ∨ W.heap.size ≤ k) ∧ k < W1.heap.size, hw.tight (fun k h1 h2 => ⟨h1, h2⟩) (fun hk => by rcases hk.1 with hk | hk; exact hSN hk; omega), fun g hg' hk => ?_, fun k hk => hk.2⟩, h.own.kept hg (.inr h.ne), h.nn, h.ne, below_set h.below (Nat.le_refl _) h.lo hg, h.lo⟩
  rcases hk.1 with hk | hk
  · exact h2 g hg' hk
  · have := hown g hg'; omega
theorem PairH.appended {w W W1 : World} {N : Nat} {v v' : Value} {da db ys : List Int} (h : PairH w N v da db W) (hown : W1.ownsRow w.heap.size 5 1 v' (db.length + ys.length) (ivals .u8 db ++ ivals .u8 ys)) (hg : W.grownBy W1 v.ownBlock)
    (hat : v'.ownBlock = v.ownBlock ∨ v'.ownBlock = some W.heap.size) : PairH w N v' da (db ++ ys) W1 := by
  obtain ⟨S, h1, h2, h3⟩ := h.wr
  have hN := h1.lt
  obtain ⟨g, hgv⟩ := h.nn
  have hgb : w.heap.size ≤ g := (h.own.lt g hgv).1
  rw [hgv] at hg
  have hgN : g ≠ N := fun e => h.ne (by rw [hgv, e])
  refine ⟨⟨S, h1.stay (Stay.grown hg (fun k e hk => by cases e; rcases hk with hk | hk; exact h2 _ hgv hk; exact hgN hk)), fun g' hg' hk => ?_, fun k hk => Nat.lt_of_lt_of_le (h3 k hk) hg.size⟩, ?_, ?_, ?_, below_set h.below (Nat.le_refl _) hgb hg, h.lo⟩
  · rcases hat with e | e
    · exact h2 g' (by rw [← e]; exact hg') hk
    · rw [hg'] at e; cases e; exact absurd (h3 _ hk) (Nat.lt_irrefl _)
  · rw [List.length_append, ivals_append]; exact hown
  · rcases hat with e | e
    · exact ⟨g, by rw [e, hgv]⟩
    · exact ⟨_, e⟩
  · rcases hat with e | e
    · rw [e]; exact h.ne
    · rw [e]; intro e'; cases e'; exact Nat.lt_irrefl _ hN
end Go.Proofs.Ytlnocekiaffbpaa
