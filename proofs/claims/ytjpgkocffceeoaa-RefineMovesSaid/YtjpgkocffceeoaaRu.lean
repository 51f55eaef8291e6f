/- General: append to a row that is gathered beside another, and loads and stores, as steps of a region inside a fence. No program in this text. -/
import Derived.Test.YtjpgkocffceeoaaRt
import Derived.Test.YtjpgkocffceeoaaGbr
import Derived.Test.YtjpgkocffceeoaaCol
set_option linter.unusedVariables false
namespace Go.Proofs.Ytjpgkocffceeoaa
open Go.RowKit Go.Shelf

theorem stepIn_append_GB {F : Fence} {fn : Nat} {P : Program} {ops : Array Oper} {o : Oper} {a : Act} {w : World} {K : Act → World → Prop} {Q : Exit → Act → World → Prop} {E : Prop}
    (hgd : o.guard = none) (s x : Operand) (t : TypeId) (hop : o.op = Op.call { callee := Callee.builtin Builtin.append, args := #[s, x], argTypes := #[t, t] })
    (base : Nat) (e : TypeId) (i : TypeInfo) (z : Value) (size bytes : Nat) (h1 : P.underlying t = some (.slice e)) (h2 : P.info? e = some i) (h3 : i.zero = some z) (h4 : i.size = size) (h5 : i.bytes = bytes) (h6 : z.cells.size = size) (h7 : 0 < size)
    (v : Value) (n : Nat) (xs : List Value) (b : Option Nat) (hs : a.eval s = v) (hown : GB w base e size v n xs b)
    (ad : Addr) (m c : Nat) (news : List Value) (hx : a.eval x = .slice (some ad) m c) (hn : news.length = m * size) (hc : ∀ j u, news[j]? = some u → w.cell? (ad.add j) = some u) (h1c : ∀ u ∈ news, u.oneCell' = true)
    (hm : 0 < m) (b1 : n + m ≤ maxLen) (b2 : (n + m) * bytes ≤ 140737488355328) (hbase : base ≤ w.heap.size)
    (hK : ∀ g cap w' row, GB w' base e size (.slice (some ⟨g, 0, none⟩) (n + m) cap) (n + m) (xs ++ news) (some g) → w.grownBy w' row → (row = none ∨ row = b) → (b = some g ∨ w.heap.size ≤ g) → K (a.put o.dst (.slice (some ⟨g, 0, none⟩) (n + m) cap)) w') :
    if Region.wanted o (yielded ops a.tmps) = true then Oper.wpIn F fn P o a w K Q else E := by
  have hw : Region.wanted o (yielded ops a.tmps) = true := by simp [Region.wanted, hgd]
  rw [if_pos hw]
  have key : ∃ g cap w' row, (Builtin.append_ #[t, t] o.type #[v, .slice (some ad) m c]).run P w = .ok (.slice (some ⟨g, 0, none⟩) (n + m) cap) w' ∧ GB w' base e size (.slice (some ⟨g, 0, none⟩) (n + m) cap) (n + m) (xs ++ news) (some g) ∧ w.grownBy w' row ∧ (row = none ∨ row = b) ∧ (b = some g ∨ w.heap.size ≤ g) := by
    rcases hown with ⟨rfl, rfl, rfl, ao, rfl⟩ | ⟨g0, rfl, e1, e2⟩
    · cases ao with
      | some b0 =>
        obtain ⟨v', w', hrun, r1, r2⟩ := run_append_arg_grows (P := P) w t o.type e i z size bytes h1 h2 h3 h4 h5 h6 h7 b0 0 0 [] (by simp) (fun j u hj => by simp at hj) ad m c news hn hc (by omega) b1 b2
        rcases r1.2 with ⟨_, h0⟩ | ⟨g, cap, cur, rfl, hb, _⟩
        · omega
        · exact ⟨g, cap, w', none, hrun, .inr ⟨g, rfl, rfl, ownsRow_base r1 hbase⟩, r2, .inl rfl, .inr hb⟩
      | none =>
        obtain ⟨v', w', hrun, r1, r2, g, cap, rfl, _, r5⟩ := run_append_where (P := P) w w.heap.size t o.type e i z size bytes h1 h2 h3 h4 h5 h6 h7 (.slice none 0 0) 0 [] (World.ownsRow_nil _ _ _ _) ad m c news hn hc h1c hm b1 b2 (Nat.le_refl _)
        exact ⟨g, cap, w', none, hrun, .inr ⟨g, rfl, rfl, ownsRow_base r1 hbase⟩, by simpa [Value.ownBlock] using r2, .inl rfl, .inr (r5.resolve_left (by simp [Value.ownBlock]))⟩
    · obtain ⟨v', w', hrun, r1, r2, g, cap, rfl, _, r5⟩ := run_append_where (P := P) w base t o.type e i z size bytes h1 h2 h3 h4 h5 h6 h7 v n xs e2 ad m c news hn hc h1c hm b1 b2 hbase
      exact ⟨g, cap, w', some g0, hrun, .inr ⟨g, rfl, rfl, r1⟩, by rw [← e1]; exact r2, .inr rfl, by rw [← e1]; exact r5⟩
  obtain ⟨g, cap, w', row, hrun, k1, k2, k3, k4⟩ := key
  unfold Oper.wpIn
  refine ⟨?_, ?_⟩
  · simp [Oper.about, hop, resolve, Target.leads, Sem.run_pure]
  · rw [Oper.semAt_plain F _ _ (by rw [hop]; intro c hc'; cases hc')]
    simp [execOp, hop, resolve, invoke, builtin, hs, hx, hrun, Result.andThen]
    exact hK g cap w' row k1 k2 k3 k4
end Go.Proofs.Ytjpgkocffceeoaa
