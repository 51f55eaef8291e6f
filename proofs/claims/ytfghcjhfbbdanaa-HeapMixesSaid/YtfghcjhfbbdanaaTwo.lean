/- General: two slices of different element types that one loop gathers. No program in this text. -/
import Derived.Test.YtfghcjhfbbdanaaVn
set_option linter.unusedVariables false
namespace Go.Proofs.Ytfghcjhfbbdanaa
open Go.RowKit

/-- The row that an append may have written. -/
def RowOf (w : World) (base : Nat) (e : TypeId) (row : Option Nat) : Prop := ∀ g, row = some g → base ≤ g ∧ ∃ cur, w.heap[g]? = some (.cells cur e (0, 0))
theorem RowOf.none {w : World} {base : Nat} {e : TypeId} : RowOf w base e none := fun g hg => by cases hg
theorem RowOf.owns {w : World} {base : Nat} {e : TypeId} {size : Nat} {v : Value} {n : Nat} {xs : List Value} (h : w.ownsRow base e size v n xs) : RowOf w base e v.ownBlock := by
  intro g hg
  rcases h.2 with ⟨rfl, _⟩ | ⟨g', cap, cur, rfl, hb, hgb, _⟩
  · simp [Value.ownBlock] at hg
  · obtain rfl : g' = g := by simpa [Value.ownBlock] using hg
    exact ⟨hb, cur, hgb⟩
theorem Gath.other {w w' : World} {base base' : Nat} {e e' : TypeId} {size : Nat} {v : Value} {n : Nat} {xs : List Value} {row : Option Nat} (h : Gath w base e size v n xs) (hg : w.grownBy w' row) (hr : RowOf w base' e' row) (hne : e' ≠ e) : Gath w' base e size v n xs := by
  rcases h with h | h
  · exact .inl h
  · refine .inr (h.kept hg ?_)
    rcases h.2 with ⟨rfl, _⟩ | ⟨g, cap, cur, rfl, _, hgb, _⟩
    · exact .inl rfl
    · refine .inr fun e1 => ?_
      obtain ⟨_, cur', hc⟩ := hr g (by simpa [Value.ownBlock] using e1.symm)
      rw [hgb] at hc
      simp at hc
      exact hne hc.2.symm
theorem Gath.nilcap {w : World} {base : Nat} {e : TypeId} {size : Nat} {a : Option Addr} {n cap : Nat} {k : Nat} {xs : List Value} (h : Gath w base e size (.slice a k cap) n xs) : a = none → k = 0 ∧ cap = 0 := by
  rintro rfl
  rcases h with ⟨_, _, ao, h⟩ | h
  · simp at h; exact ⟨h.2.1, h.2.2⟩
  · rcases h.2 with ⟨h, _⟩ | ⟨g, cap', cur, h, _⟩
    · simp at h; exact h
    · simp at h

theorem wpList_append_gathR {P : Program} (w : World) {ops : Array Oper} {rest : List Oper} {o : Oper} {a : Act} {Q : Exit → Act → World → Prop} (hgd : o.guard = none) (s x : Operand) (t : TypeId)
    (ho : o.op = .call { callee := .builtin .append, args := #[s, x], argTypes := #[t, t] })
    (base : Nat) (e : TypeId) (i : TypeInfo) (z : Value) (size bytes : Nat) (ht : P.underlying t = some (.slice e)) (hi : P.info? e = some i) (hz : i.zero = some z)
    (hsize : i.size = size) (hby : i.bytes = bytes) (hzs : z.cells.size = size) (hsz : 0 < size)
    (v : Value) (n : Nat) (xs : List Value) (hs : a.eval s = v) (hown : Gath w base e size v n xs)
    (ad : Addr) (m c : Nat) (news : List Value) (hx : a.eval x = .slice (some ad) m c) (hl : news.length = m * size) (hnews : ∀ j u, news[j]? = some u → w.cell? (ad.add j) = some u) (h1 : ∀ u ∈ news, u.oneCell' = true)
    (hm : 0 < m) (h63 : n + m ≤ maxLen) (hbytes : (n + m) * bytes ≤ 140737488355328) (hbase : base ≤ w.heap.size)
    (h : ∀ v' w' row, w'.ownsRow base e size v' (n + m) (xs ++ news) → w.grownBy w' row → RowOf w base e row → wpList P ops Q rest (a.put o.dst v') w') : wpList P ops Q (o :: rest) a w := by
  rcases hown with ⟨rfl, rfl, ao, rfl⟩ | hown
  · refine wpList_append_grows w hgd s x t ho e i z size bytes ht hi hz hsize hby hzs hsz ao 0 0 [] hs (fun _ => ⟨rfl, rfl⟩) (by simp) (fun b _ j u hj => by simp at hj) ad m c news hx hl hnews h1 (by omega) h63 hbytes ?_
    intro v' w' h2 h3
    exact h v' w' none (ownsRow_base h2 hbase) h3 RowOf.none
  · refine wpList_append_own w hgd s x t ho base e i z size bytes ht hi hz hsize hby hzs hsz v n xs hs hown ad m c news hx hl hnews h1 h63 hbytes hbase ?_
    intro v' w' h2 h3 _
    exact h v' w' _ h2 h3 (RowOf.owns hown)
theorem RowOf.below {w w' : World} {base : Nat} {e : TypeId} {row : Option Nat} (hr : RowOf w base e row) (hg : w.grownBy w' row) (hb : base ≤ w.heap.size) : Below base w w' :=
  (Below.refl base w).grown hg hb (fun k hk => (hr k hk).1)
theorem Gath.kept {w w' : World} {base : Nat} {e : TypeId} {size : Nat} {v : Value} {n : Nat} {xs : List Value} (h : Gath w base e size v n xs) (hb : Below w.heap.size w w') : Gath w' base e size v n xs :=
  h.imp id (fun g => g.kept (row := none) ⟨hb.os, hb.tape, hb.output, hb.size, fun k hk _ => hb.block k hk⟩ (by cases v.ownBlock <;> simp))
end Go.Proofs.Ytfghcjhfbbdanaa
