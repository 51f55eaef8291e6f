/- General: a slice of numbers that lies below a block; a slice that a call gathers by append; no program in this text. -/
import Derived.WalkKit
import Derived.ProofKit
import Derived.OpenShut
import Derived.ArgAppend
import Derived.Lib.Hide
set_option linter.unusedVariables false
namespace Go.Proofs.Ytnkhpmpoemodiaa
open Go.RowKit

/-- What a walk is told of a slice of integers that came in. -/
def IsRow (k : IntKind) (w : World) (a : Option Addr) (len cap : Nat) (zs : List Int) : Prop :=
  (a = none ∧ len = 0 ∧ cap = 0 ∧ zs = []) ∨
  ∃ x, a = some x ∧ len ≤ cap ∧ cap ≤ maxLen ∧ zs.length = cap ∧ (∀ i, i < zs.length → w.cell? (x.add i) = some (.int k (zs.getD i 0))) ∧ ∀ n ∈ zs, (Lit.int k n).wf = true

theorem addr_add (b off i : Nat) : (⟨b, off, none⟩ : Addr).add i = ⟨b, off + i, none⟩ := by unfold Addr.add; split <;> simp_all
/-- The slice with address a has the elements zs, which lie below block B (b, off: where, if there are any). -/
structure IntsAt (k : IntKind) (B : Nat) (w : World) (a : Option Addr) (b off len : Nat) (zs : List Int) : Prop where
  addr : len = 0 ∨ a = some ⟨b, off, none⟩
  length : zs.length = len
  small : len ≤ maxLen
  below : len = 0 ∨ b < B
  cell : ∀ i, i < len → w.cell? ⟨b, off + i, none⟩ = some (.int k (zs.getD i 0))
  fits : ∀ n ∈ zs, (Lit.int k n).wf = true

theorem IntsAt.kept {k : IntKind} {B B' : Nat} {w w' : World} {a : Option Addr} {b off len : Nat} {zs : List Int} (h : IntsAt k B w a b off len zs) (hb : Below B' w w') (hB : B ≤ B') : IntsAt k B w' a b off len zs :=
  ⟨h.addr, h.length, h.small, h.below, fun i hi => by
    rw [hb.cell (p := ⟨b, off + i, none⟩) (by have := h.below; show b < B'; omega)]; exact h.cell i hi, h.fits⟩
theorem IntsAt.mono {k : IntKind} {B B' : Nat} {w : World} {a : Option Addr} {b off len : Nat} {zs : List Int} (h : IntsAt k B w a b off len zs) (hB : B ≤ B') : IntsAt k B' w a b off len zs :=
  ⟨h.addr, h.length, h.small, h.below.imp id (fun g => Nat.lt_of_lt_of_le g hB), h.cell, h.fits⟩

theorem IsRow.ints {k : IntKind} {w : World} {a : Option Addr} {len cap : Nat} {zs : List Int} (h : IsRow k w a len cap zs) : ∃ b off, IntsAt k w.heap.size w a b off len (zs.take len) := by
  rcases h with ⟨rfl, rfl, rfl, rfl⟩ | ⟨x, rfl, hl, hm, hz, hcell, hwz⟩
  · exact ⟨0, 0, .inl rfl, rfl, Nat.zero_le _, .inl rfl, fun i hi => absurd hi (Nat.not_lt_zero _), fun n hn => by simp at hn⟩
  · obtain ⟨b, off, spot⟩ := x
    by_cases h0 : len = 0
    · subst h0
      exact ⟨b, off, .inl rfl, by simp, Nat.zero_le _, .inl rfl, fun i hi => absurd hi (Nat.not_lt_zero _), fun n hn => by simp at hn⟩
    · have hc := hcell 0 (by omega)
      have hspot : spot = none := by simpa [Addr.add] using World.cell?_spot hc
      subst hspot
      refine ⟨b, off, .inr rfl, by rw [List.length_take]; omega, by omega, .inr ?_, fun i hi => ?_, fun n hn => hwz n (List.mem_of_mem_take hn)⟩
      · have := World.block_lt_of_cell? _ _ hc
        simpa [Addr.add] using this
      · have := hcell i (by omega)
        rw [show (zs.take len).getD i 0 = zs.getD i 0 by simp [hi]]
        rwa [addr_add] at this

theorem IntsAt.take {k : IntKind} {B : Nat} {w : World} {a : Option Addr} {b off len : Nat} {zs : List Int} (h : IntsAt k B w a b off len zs) (d : Nat) (hd : d ≤ len) : IntsAt k B w a b off d (zs.take d) := by
  have h1 := h.addr
  have h2 := h.below
  have h3 := h.small
  refine ⟨by rcases h1 with g | g; exact .inl (by omega); exact .inr g, by rw [List.length_take, h.length]; omega, by omega, by omega, fun i hi => ?_, fun n hn => h.fits n (List.mem_of_mem_take hn)⟩
  rw [show (zs.take d).getD i 0 = zs.getD i 0 by simp [hi]]
  exact h.cell i (by omega)
theorem IntsAt.drop {k : IntKind} {B : Nat} {w : World} {a : Option Addr} {b off len : Nat} {zs : List Int} (h : IntsAt k B w a b off len zs) (d : Nat) (hd : d ≤ len) (a' : Option Addr) (ha : len - d = 0 ∨ a' = some ⟨b, off + d, none⟩) : IntsAt k B w a' b (off + d) (len - d) (zs.drop d) := by
  have h2 := h.below
  have h3 := h.small
  refine ⟨ha, by rw [List.length_drop, h.length], by omega, by omega, fun i hi => ?_, fun n hn => h.fits n (List.mem_of_mem_drop hn)⟩
  rw [show (zs.drop d).getD i 0 = zs.getD (d + i) 0 by simp, Nat.add_assoc]
  exact h.cell (d + i) (by omega)

theorem IsRow.cap {k : IntKind} {w : World} {a : Option Addr} {len cap : Nat} {zs : List Int} (h : IsRow k w a len cap zs) : len ≤ cap := by
  rcases h with ⟨rfl, rfl, rfl, rfl⟩ | ⟨x, rfl, hl, _⟩
  · exact Nat.le_refl _
  · exact hl
theorem IsRow.nil {k : IntKind} {w : World} {len cap : Nat} {zs : List Int} (h : IsRow k w none len cap zs) : len = 0 ∧ cap = 0 := by
  rcases h with ⟨_, rfl, rfl, rfl⟩ | ⟨x, hx, _⟩
  · exact ⟨rfl, rfl⟩
  · cases hx
/-- A slice with nothing in it, at whatever address, without room; or one that the call owns. -/
def Gath (w : World) (base : Nat) (e : TypeId) (size : Nat) (v : Value) (n : Nat) (xs : List Value) : Prop :=
  (n = 0 ∧ xs = [] ∧ ∃ ao, v = .slice ao 0 0) ∨ w.ownsRow base e size v n xs

theorem ownsRow_base {w : World} {base base' : Nat} {e : TypeId} {size : Nat} {v : Value} {n : Nat} {xs : List Value} (h : w.ownsRow base e size v n xs) (hb : base' ≤ base) : w.ownsRow base' e size v n xs := by
  refine ⟨h.1, ?_⟩
  rcases h.2 with hn | ⟨g, cap, cur, hv, hg, rest⟩
  · exact .inl hn
  · exact .inr ⟨g, cap, cur, hv, Nat.le_trans hb hg, rest⟩

theorem wpList_append_gath {P : Program} (w : World) {ops : Array Oper} {rest : List Oper} {o : Oper} {a : Act} {Q : Exit → Act → World → Prop} (hgd : o.guard = none) (s x : Operand) (t : TypeId)
    (ho : o.op = .call { callee := .builtin .append, args := #[s, x], argTypes := #[t, t] })
    (base : Nat) (e : TypeId) (i : TypeInfo) (z : Value) (size bytes : Nat) (ht : P.underlying t = some (.slice e)) (hi : P.info? e = some i) (hz : i.zero = some z)
    (hsize : i.size = size) (hby : i.bytes = bytes) (hzs : z.cells.size = size) (hsz : 0 < size)
    (v : Value) (n : Nat) (xs : List Value) (hs : a.eval s = v) (hown : Gath w base e size v n xs)
    (ad : Addr) (m c : Nat) (news : List Value) (hx : a.eval x = .slice (some ad) m c) (hl : news.length = m * size) (hnews : ∀ j u, news[j]? = some u → w.cell? (ad.add j) = some u) (h1 : ∀ u ∈ news, u.oneCell' = true)
    (hm : 0 < m) (h63 : n + m ≤ maxLen) (hbytes : (n + m) * bytes ≤ 140737488355328) (hbase : base ≤ w.heap.size)
    (h : ∀ v' w', w'.ownsRow base e size v' (n + m) (xs ++ news) → Below base w w' → wpList P ops Q rest (a.put o.dst v') w') : wpList P ops Q (o :: rest) a w := by
  rcases hown with ⟨rfl, rfl, ao, rfl⟩ | hown
  · refine wpList_append_grows w hgd s x t ho e i z size bytes ht hi hz hsize hby hzs hsz ao 0 0 [] hs (fun _ => ⟨rfl, rfl⟩) (by simp) (fun b _ j u hj => by simp at hj) ad m c news hx hl hnews h1 (by omega) h63 hbytes ?_
    intro v' w' h2 h3
    exact h v' w' (ownsRow_base h2 hbase) ((Below.refl base w).grown h3 hbase (fun k hk => by cases hk))
  · refine wpList_append_own w hgd s x t ho base e i z size bytes ht hi hz hsize hby hzs hsz v n xs hs hown ad m c news hx hl hnews h1 h63 hbytes hbase ?_
    intro v' w' h2 h3 _
    exact h v' w' h2 ((Below.refl base w).grown h3 hbase (fun k hk => (hown.lt k hk).1))

theorem Gath.alloc {w : World} {base : Nat} {e : TypeId} {size : Nat} {v : Value} {n : Nat} {xs : List Value} (h : Gath w base e size v n xs) (o : Obj) : Gath (w.alloc o) base e size v n xs :=
  h.imp id (fun g => g.alloc o)
theorem Gath.drew {w : World} {base : Nat} {e : TypeId} {size : Nat} {v : Value} {n : Nat} {xs : List Value} (h : Gath w base e size v n xs) : Gath w.drew base e size v n xs := h

/-- Numbers as values. (A name: so that no rule looks into it.) -/
def ivals (k : IntKind) (l : List Int) : List Value := l.map (Value.int k)
theorem ivals_snoc (k : IntKind) (l : List Int) (n : Int) : ivals k (l ++ [n]) = ivals k l ++ [.int k n] := by unfold ivals; rw [List.map_append]; rfl
theorem ivals_take (k : IntKind) (l : List Int) (j : Nat) (h : j < l.length) : ivals k (l.take (j + 1)) = ivals k (l.take j) ++ [.int k (l.getD j 0)] := by
  rw [List.take_succ_eq_append_getElem h, ivals_snoc]; simp [List.getD, h]
/-- What has been gathered is a slice of numbers. -/
theorem Gath.ints {k : IntKind} {w : World} {base : Nat} {e : TypeId} {v : Value} {n : Nat} {zs : List Int} (h : Gath w base e 1 v n (ivals k zs)) (hn : zs.length = n) (hf : ∀ n ∈ zs, (Lit.int k n).wf = true) :
    ∃ a cap b, v = .slice a n cap ∧ n ≤ cap ∧ cap ≤ maxLen ∧ (n = 0 ∨ base ≤ b) ∧ IntsAt k w.heap.size w a b 0 n zs := by
  rcases h with ⟨rfl, _, ao, rfl⟩ | h
  · exact ⟨ao, 0, 0, rfl, Nat.le_refl _, Nat.zero_le _, .inl rfl, .inl rfl, hn, Nat.zero_le _, .inl rfl, fun i hi => absurd hi (Nat.not_lt_zero _), hf⟩
  · rcases h.2 with ⟨rfl, rfl⟩ | ⟨g, cap, cur, rfl, hb, hg, hnc, hcm, hcs, htake⟩
    · exact ⟨none, 0, 0, rfl, Nat.le_refl _, Nat.zero_le _, .inl rfl, .inl rfl, hn, Nat.zero_le _, .inl rfl, fun i hi => absurd hi (Nat.not_lt_zero _), hf⟩
    · refine ⟨_, cap, g, rfl, hnc, hcm, .inr hb, .inr rfl, hn, by omega, .inr (Array.getElem?_eq_some_iff.1 hg).1, fun i hi => ?_, hf⟩
      have hz : (ivals k zs)[i]? = some (.int k (zs.getD i 0)) := by
        unfold ivals
        rw [List.getElem?_map, List.getElem?_eq_getElem (by omega)]; simp [List.getD, show i < zs.length by omega]
      have := h.cells (g := g) rfl i _ hz
      rwa [addr_add] at this

theorem cell_one (w : World) (u : Value) (e : TypeId) : ∀ j v, [u][j]? = some v → (w.alloc (.cells #[u] e)).cell? ((⟨w.heap.size, 0, none⟩ : Addr).add j) = some v := by
  intro j v hj
  match j, hj with
  | 0, hj => simp at hj; subst hj; simp [Addr.add, go_sem]
theorem wrap64_in_bd (n : Int) : -9223372036854775808 ≤ wrap64 n ∧ wrap64 n ≤ 9223372036854775807 := by unfold wrap64; omega
theorem one_val {u : Value} (h : u.oneCell' = true) : ∀ x ∈ [u], x.oneCell' = true := by intro x hx; simp at hx; subst hx; exact h
theorem i64_and511 (n : Int) : bits .and .i64 n 511 = n % 512 := by
  have h511 : (BitVec.ofInt 64 511).toNat = 2 ^ 9 - 1 := by decide
  have key : (BitVec.ofInt 64 n &&& BitVec.ofInt 64 511).toNat = (n % ((2 ^ 64 : Nat) : Int)).toNat % 2 ^ 9 := by
    rw [BitVec.toNat_and, BitVec.toNat_ofInt, h511, Nat.and_two_pow_sub_one_eq_mod]
  show IntKind.i64.wrap ((BitVec.ofInt 64 n &&& BitVec.ofInt 64 511).toNat : Nat) = n % 512
  rw [key, IntKind.wrap_i64]
  omega
end Go.Proofs.Ytnkhpmpoemodiaa
