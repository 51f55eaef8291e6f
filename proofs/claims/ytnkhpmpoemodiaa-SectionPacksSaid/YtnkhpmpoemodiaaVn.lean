/- Plain arithmetic of layer 2: folded and back; half a number is never longer. No program in this text. -/
import Derived.Test.YtnkhpmpoemodiaaVm
import Derived.Test.YtnkhpmpoemodiaaLib
import Derived.Laws.AppendOwnNone
set_option linter.unusedVariables false
namespace Go.Proofs.Ytnkhpmpoemodiaa
open Go.RowKit

theorem unfold_bd {n : Int} (h0 : 0 ≤ n) (h1 : n ≤ 18446744073709551615) : -9223372036854775808 ≤ unfoldF n ∧ unfoldF n ≤ 9223372036854775807 := by
  unfold unfoldF; split <;> omega
theorem fold_bd {n : Int} (h0 : -9223372036854775808 ≤ n) (h1 : n ≤ 9223372036854775807) : 0 ≤ foldF n ∧ foldF n ≤ 18446744073709551615 := by
  unfold foldF; split <;> omega
theorem fold_unfold {n : Int} (h0 : 0 ≤ n) : foldF (unfoldF n) = n := by
  unfold unfoldF foldF; split <;> split <;> omega
theorem unfold_fold (n : Int) : unfoldF (foldF n) = n := by
  unfold unfoldF foldF; split <;> split <;> omega
theorem half_len (n : Nat) (h : n ≤ 18446744073709551615) : (putF (n / 2)).length ≤ (putF n).length := by
  have e : (128 : Nat) ^ (9 + 1) = 1180591620717411303424 := by decide
  by_cases h2 : n < 128
  · have h1 : putF (n / 2) = [((n / 2 : Nat) : Int)] := by unfold putF; simp only [putL]; rw [if_pos (by omega)]
    have := putL_length 9 n
    rw [h1]; unfold putF; simp only [List.length_cons, List.length_nil]; omega
  · unfold putF
    rw [putL_len 9 n (by omega) (by rw [e]; omega) (by omega), putL_len 9 (n / 2) (by omega) (by rw [e]; omega) (by omega), Lib.bitLen_half n (by omega) (by omega)]
    omega
theorem ivals_append (k : IntKind) (l m : List Int) : ivals k (l ++ m) = ivals k l ++ ivals k m := by unfold ivals; exact List.map_append
theorem ivals_length (k : IntKind) (l : List Int) : (ivals k l).length = l.length := by unfold ivals; exact List.length_map ..
theorem ivals_one (k : IntKind) (l : List Int) : ∀ u ∈ ivals k l, u.oneCell' = true := by
  unfold ivals; intro u hu; obtain ⟨n, _, rfl⟩ := List.mem_map.1 hu; rfl
/-- The elements lie where the slice's address leads, in whatever world keeps what lay below. -/
theorem ints_cells {k : IntKind} {B B' : Nat} {w W : World} {x : Addr} {b off len : Nat} {zs : List Int} (h : IntsAt k B w (some x) b off len zs) (hb : Below B' w W) (hB : B ≤ B') : ∀ j u, (ivals k zs)[j]? = some u → W.cell? (x.add j) = some u := by
  intro j u hj
  unfold ivals at hj
  rw [List.getElem?_map] at hj
  obtain ⟨n, hn, rfl⟩ := Option.map_eq_some_iff.1 hj
  obtain ⟨hjl, hjn⟩ := List.getElem?_eq_some_iff.1 hn
  have hlen := h.length
  have hx : some x = some ⟨b, off, none⟩ := h.addr.resolve_left (by omega)
  cases hx
  rw [addr_add, (h.kept hb hB).cell j (by omega)]
  simp [List.getD, hn]
/-- What is appended is a slice of numbers that lies elsewhere; nil, too. -/
theorem wpList_append_ints {P : Program} (w : World) {ops : Array Oper} {rest : List Oper} {o : Oper} {a : Act} {Q : Exit → Act → World → Prop} (hgd : o.guard = none) (s x : Operand) (t : TypeId)
    (ho : o.op = .call { callee := .builtin .append, args := #[s, x], argTypes := #[t, t] })
    (base : Nat) (e : TypeId) (i : TypeInfo) (z : Value) (bytes : Nat) (ht : P.underlying t = some (.slice e)) (hi : P.info? e = some i) (hz : i.zero = some z)
    (hsize : i.size = 1) (hby : i.bytes = bytes) (hzs : z.cells.size = 1)
    (v : Value) (n : Nat) (xs : List Value) (hs : a.eval s = v) (hown : w.ownsRow base e 1 v n xs)
    (k : IntKind) (B B' : Nat) (w0 : World) (a1 : Option Addr) (b off m c : Nat) (zs : List Int) (hx : a.eval x = .slice a1 m c) (h0 : a1 = none → m = 0 ∧ c = 0) (hI : IntsAt k B w0 a1 b off m zs) (hbel : Below B' w0 w) (hB : B ≤ B')
    (h63 : n + m ≤ maxLen) (hbytes : (n + m) * bytes ≤ 140737488355328) (hbase : base ≤ w.heap.size)
    (h : ∀ v' w', w'.ownsRow base e 1 v' (n + m) (xs ++ ivals k zs) → Below base w w' → wpList P ops Q rest (a.put o.dst v') w') : wpList P ops Q (o :: rest) a w := by
  cases a1 with
  | none =>
    obtain ⟨rfl, rfl⟩ := h0 rfl
    have hz : zs = [] := List.eq_nil_of_length_eq_zero hI.length
    subst hz
    refine wpList_append_own_none hgd s x t ho base e i 1 ht hi v n xs hs hown hx ?_
    refine h v w ?_ (Below.refl _ _)
    simpa [ivals] using hown
  | some y =>
    refine wpList_append_own w hgd s x t ho base e i z 1 bytes ht hi hz hsize hby hzs (by decide) v n xs hs hown y m c (ivals k zs) hx (by rw [ivals_length, hI.length, Nat.mul_one]) (ints_cells hI hbel hB) (ivals_one k zs) h63 hbytes hbase ?_
    intro v' w' h2 h3 _
    exact h v' w' h2 ((Below.refl base w).grown h3 hbase (fun k hk => (hown.lt k hk).1))
end Go.Proofs.Ytnkhpmpoemodiaa
