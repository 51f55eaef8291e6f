/- General: a row that a loop gathers beside another, its block known. -/
import Derived.Test.YtjpgkocffceeoaaAw
import Derived.Test.YtjpgkocffceeoaaRg
set_option linter.unusedVariables false
namespace Go.Proofs.Ytjpgkocffceeoaa
open Go.RowKit

theorem owns_block {w : World} {base : Nat} {e : TypeId} {size : Nat} {v : Value} {n : Nat} {xs : List Value} (h : w.ownsRow base e size v n xs) {g : Nat} (hg : v.ownBlock = some g) : base ≤ g ∧ ∃ cur, w.heap[g]? = some (.cells cur e (0, 0)) := by
  rcases h.2 with ⟨rfl, _⟩ | ⟨g', cap, cur, rfl, hb, hgb, _⟩
  · simp [Value.ownBlock] at hg
  · obtain rfl : g' = g := by simpa [Value.ownBlock] using hg
    exact ⟨hb, cur, hgb⟩
/-- What is gathered, and its block. -/
def GB (w : World) (base : Nat) (e : TypeId) (size : Nat) (v : Value) (n : Nat) (xs : List Value) (b : Option Nat) : Prop :=
  (b = none ∧ n = 0 ∧ xs = [] ∧ ∃ ao, v = .slice ao 0 0) ∨ ∃ g, b = some g ∧ v.ownBlock = some g ∧ w.ownsRow base e size v n xs
theorem GB.gath {w : World} {base : Nat} {e : TypeId} {size : Nat} {v : Value} {n : Nat} {xs : List Value} {b : Option Nat} (h : GB w base e size v n xs b) : Gath w base e size v n xs := by
  rcases h with ⟨_, h1, h2, h3⟩ | ⟨g, _, _, h⟩
  · exact .inl ⟨h1, h2, h3⟩
  · exact .inr h
theorem GB.kept {w w' : World} {base : Nat} {e : TypeId} {size : Nat} {v : Value} {n : Nat} {xs : List Value} {b row : Option Nat} (h : GB w base e size v n xs b) (hg : w.grownBy w' row) (hr : ∀ g, b = some g → row ≠ some g) : GB w' base e size v n xs b := by
  rcases h with h | ⟨g, h1, h2, h3⟩
  · exact .inl h
  · exact .inr ⟨g, h1, h2, h3.kept hg (.inr (by rw [h2]; exact fun e => hr g h1 e.symm))⟩
theorem GB.below {w w' : World} {base : Nat} {e : TypeId} {size : Nat} {v : Value} {n : Nat} {xs : List Value} {b : Option Nat} (h : GB w base e size v n xs b) (hb : Below w.heap.size w w') : GB w' base e size v n xs b :=
  h.kept (row := none) (grown_below hb none) (fun _ _ e => by cases e)
theorem GB.alloc {w : World} {base : Nat} {e : TypeId} {size : Nat} {v : Value} {n : Nat} {xs : List Value} {b : Option Nat} (h : GB w base e size v n xs b) (o : Obj) : GB (w.alloc o) base e size v n xs b :=
  h.below ((Below.refl _ _).alloc (Nat.le_refl _) o)
theorem GB.lt {w : World} {base : Nat} {e : TypeId} {size : Nat} {v : Value} {n : Nat} {xs : List Value} {b : Option Nat} (h : GB w base e size v n xs b) : ∀ g, b = some g → base ≤ g ∧ g < w.heap.size ∧ ∃ cur, w.heap[g]? = some (.cells cur e (0, 0)) := by
  intro g hg
  rcases h with ⟨h, _⟩ | ⟨g', h1, h2, h3⟩
  · rw [hg] at h; cases h
  · rw [hg] at h1; cases h1
    obtain ⟨h4, cur, h5⟩ := owns_block h3 h2
    exact ⟨h4, heap_lt h5, cur, h5⟩
theorem GB.slice {w : World} {base : Nat} {e : TypeId} {size : Nat} {v : Value} {n : Nat} {xs : List Value} {b : Option Nat} (h : GB w base e size v n xs b) : ∃ a cap, v = .slice a n cap := h.gath.slice
theorem gb_nil (w : World) (base : Nat) (e : TypeId) (size : Nat) (ao : Option Addr) : GB w base e size (.slice ao 0 0) 0 [] none := .inl ⟨rfl, rfl, rfl, ao, rfl⟩

theorem wpList_append_GB {P : Program} (w : World) {ops : Array Oper} {rest : List Oper} {o : Oper} {a : Act} {Q : Exit → Act → World → Prop} (hgd : o.guard = none) (s x : Operand) (t : TypeId)
    (hop : o.op = Op.call { callee := Callee.builtin Builtin.append, args := #[s, x], argTypes := #[t, t] })
    (base : Nat) (e : TypeId) (i : TypeInfo) (z : Value) (size bytes : Nat) (h1 : P.underlying t = some (.slice e)) (h2 : P.info? e = some i) (h3 : i.zero = some z) (h4 : i.size = size) (h5 : i.bytes = bytes) (h6 : z.cells.size = size) (h7 : 0 < size)
    (v : Value) (n : Nat) (xs : List Value) (b : Option Nat) (hs : a.eval s = v) (hown : GB w base e size v n xs b)
    (ad : Addr) (m c : Nat) (news : List Value) (hx : a.eval x = .slice (some ad) m c) (hn : news.length = m * size) (hc : ∀ j u, news[j]? = some u → w.cell? (ad.add j) = some u) (h1c : ∀ u ∈ news, u.oneCell' = true)
    (hm : 0 < m) (b1 : n + m ≤ maxLen) (b2 : (n + m) * bytes ≤ 140737488355328) (hbase : base ≤ w.heap.size)
    (hK : ∀ g cap w' row, GB w' base e size (.slice (some ⟨g, 0, none⟩) (n + m) cap) (n + m) (xs ++ news) (some g) → w.grownBy w' row → (row = none ∨ row = b) → (b = some g ∨ w.heap.size ≤ g) → wpList P ops Q rest (a.put o.dst (.slice (some ⟨g, 0, none⟩) (n + m) cap)) w') :
    wpList P ops Q (o :: rest) a w := by
  rcases hown with ⟨rfl, rfl, rfl, ao, rfl⟩ | ⟨g0, rfl, e1, e2⟩
  · refine wpList_append_grows w hgd s x t hop e i z size bytes h1 h2 h3 h4 h5 h6 h7 ao 0 0 [] hs (fun _ => ⟨rfl, rfl⟩) (by simp) (fun b _ j u hj => by simp at hj) ad m c news hx hn hc h1c (by omega) b1 b2 ?_
    intro v' w' r1 r2
    rcases r1.2 with ⟨_, h0⟩ | ⟨g, cap, cur, rfl, hb, _⟩
    · omega
    · exact hK g cap w' none (.inr ⟨g, rfl, rfl, ownsRow_base r1 hbase⟩) r2 (.inl rfl) (.inr hb)
  · refine wpList_append_where w hgd s x t hop base e i z size bytes h1 h2 h3 h4 h5 h6 h7 v n xs hs e2 ad m c news hx hn hc h1c hm b1 b2 hbase ?_
    intro g cap w' r1 r2 _ r4
    exact hK g cap w' _ (.inr ⟨g, rfl, rfl, r1⟩) (by rw [← e1]; exact r2) (.inr rfl) (by rw [← e1]; exact r4)

end Go.Proofs.Ytjpgkocffceeoaa
