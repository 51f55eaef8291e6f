/- Contracts: the iterator over all names. -/
import Derived.Test.YtgnlehenbdcgmaaMdL
import Derived.Test.YtgnlehenbdcgmaaRt
import Derived.Test.YtgnlehenbdcgmaaEa
set_option linter.unusedVariables false
set_option linter.unusedSectionVars false
set_option linter.unusedSimpArgs false
namespace Go.Proofs.Ytgnlehenbdcgmaa.Md
open Go.RowKit Go.Shelf

attribute [local go_sem] Oper.semAt_some
/-- What was gathered, as a row. -/
theorem names_row {W : World} {base : Nat} {v : Value} {xs : List ByteArray} (h : Gath W base 9 1 v xs.length (sv xs)) : ∃ a c g, v = .slice a xs.length c ∧ (xs.length = 0 ∨ a = some ⟨g, 0, none⟩) ∧ (xs.length = 0 ∨ (base ≤ g ∧ g < W.heap.size)) ∧ ∀ i y, xs[i]? = some y → W.cell? ⟨g, i, none⟩ = some (.string y) := by
  rcases h with ⟨h1, _, ao, rfl⟩ | h
  · exact ⟨ao, 0, 0, by rw [h1], .inl h1, .inl h1, fun i y hi => by have := (List.getElem?_eq_some_iff.1 hi).1; omega⟩
  · rcases h.2 with ⟨rfl, h1⟩ | ⟨g, cap, cur, rfl, hb, hg, hnc, hcm, hcs, htake⟩
    · exact ⟨none, 0, 0, by rw [h1], .inl h1, .inl h1, fun i y hi => by have := (List.getElem?_eq_some_iff.1 hi).1; omega⟩
    · refine ⟨_, cap, g, rfl, .inr rfl, .inr ⟨hb, heap_lt hg⟩, fun i y hi => ?_⟩
      have h2 : (sv xs)[i]? = some (.string y) := by unfold sv; rw [List.getElem?_map, hi]; rfl
      have := h.cells (g := g) rfl i _ h2
      rw [Addr.add] at this
      split at this
      · rename_i h0
        have : i = 0 := by simpa using h0
        subst this
        assumption
      · simpa using this
/-- Between two names. -/
structure AtN (xs : List ByteArray) (J : List ByteArray → World → Prop) (k : Nat) (W : World) (n₀ lo up : Nat) (wr : World) : Prop where
  j : J (xs.take k) wr
  low : Below n₀ W wr
  mid : Mid lo up W wr
set_option maxRecDepth 100000 in
set_option maxHeartbeats 4000000 in
theorem names1_seq {xs : List ByteArray} {w : World} {Bx n₀ lo up : Nat} {v : Value} (hBx : Boxed w Bx 40 v) (hg : Gath w (Bx + 1) 9 1 v xs.length (sv xs)) (hl : xs.length ≤ 1000000) (h1 : lo ≤ Bx) (hup : up = w.heap.size) (hnw : n₀ ≤ w.heap.size) (q : Nat) :
    SeqF Fence.wide q Try.prog 78 #[.pointer (some ⟨Bx, 0, none⟩)] (fun y => #[.string y]) n₀ lo up xs w := by
  intro l J Jx W hW hY h0
  obtain ⟨a, c, g, rfl, ha, hgb, hcell⟩ := names_row hg
  have hbw : Bx < w.heap.size := heap_lt hBx
  have hBxW : W.cell? ⟨Bx, 0, none⟩ = some (.slice a xs.length c) := (hW.cell (p := ⟨Bx, 0, none⟩) hbw).trans hBx.cell
  have hzW := hW.size
  have HK0 : Hid (AtN xs J 0 W n₀ lo up W) := Lib.hid ⟨h0, Below.refl _ _, Mid.refl _ _ _⟩
  have HY := Lib.hid hY
  have HC : Hid (∀ wr : World, Mid lo up W wr → ∀ i y, xs[i]? = some y → wr.cell? ⟨g, i, none⟩ = some (.string y)) := Lib.hid (fun wr hm i y hi => by
    have hz : xs.length ≠ 0 := by have := (List.getElem?_eq_some_iff.1 hi).1; omega
    obtain ⟨g1, g2⟩ := hgb.resolve_left hz
    exact (hm.cell (p := ⟨g, i, none⟩) (by show lo ≤ g; omega) (by show g < up; omega)).trans ((hW.cell (p := ⟨g, i, none⟩) g2).trans (hcell i y hi)))
  clear hY h0 hBx hg hW hcell hgb
  refine callsIn_of_wp Try.func78 rfl trivial ?_ rfl
  simp only [Try.ntmps78, List.size_toArray, List.length_cons, List.length_nil, Nat.reduceAdd, Nat.reduceSub, Array.replicate_succ, Array.replicate_zero, List.push_toArray, List.append_toArray, List.nil_append, List.cons_append]
  gi_wp2
  gi_loopw [7] (fun i wr => ∃ k : Nat, k ≤ xs.length ∧ i = .int .i64 (k : Int) ∧ Hid (AtN xs J k W n₀ lo up wr))
    (fun i _ => xs.length - (intOf i).toNat)
  case atStart => exact ⟨0, Nat.zero_le _, rfl, HK0⟩
  case round =>
    obtain ⟨k, hk, rfl, HK⟩ := hrel
    by_cases hlt : k < xs.length
    · have ha' := ha.resolve_left (by omega)
      subst ha'
      have hx : xs[k]? = some (xs[k]'hlt) := List.getElem?_eq_getElem _
      obtain ⟨y, hy⟩ : ∃ y, xs[k]'hlt = y := ⟨_, rfl⟩
      rw [hy] at hx
      have c0 := HC.out wr HK.out.mid k y hx
      have hki : (k : Int) < (xs.length : Int) := by omega
      have hk0 : (0 : Int) ≤ (k : Int) := Int.natCast_nonneg k
      have HT : Hid (xs.take (k + 1) = xs.take k ++ [y]) := Lib.hid (by rw [List.take_succ_eq_append_getElem hlt, hy])
      obtain ⟨fn, tmps, assign, body, hyl, hRd⟩ := HY.out (xs.take k) y wr wr HK.out.j (Below.refl _ _) (by rw [← HT.out]; exact List.take_prefix _ _)
      replace hyl : (Instr.yield l #[.string y]).run Try.prog wr = _ := hyl
      have HRd := Lib.hid hRd
      clear hRd hx hy
      gi_wp2
      refine ⟨fun h => (by cases h), RoundIn.mono HRd.out ?_⟩
      rintro e W9 ⟨⟨hk1, hk2, hk3⟩, ⟨rfl, hj⟩ | ⟨rfl, hj⟩⟩
      · have HN : Hid (AtN xs J (k + 1) W n₀ lo up W9) := Lib.hid ⟨by rw [HT.out]; exact hj, HK.out.low.trans hk1, HK.out.mid.trans hk2⟩
        clear hj hk1 hk2 hk3 HK HRd
        gi_wp2
        refine ⟨⟨k + 1, by omega, by simp, HN⟩, ?_⟩
        unfold intOf
        simp
        omega
      · have HJ9 := Lib.hid hj
        clear hj hk1 hk2 hk3
        gi_wp2
        refine bodyPost_ret (results_none rfl _ _ _) rfl ?_
        exact ⟨⟨_, rfl⟩, W9, Below.refl _ _, .inr ⟨_, by rw [← HT.out]; exact List.take_prefix _ _, HJ9.out⟩⟩
    · obtain rfl : k = xs.length := by omega
      gi_wp2
      refine bodyPost_end (results_none rfl _ _ _) rfl ?_
      exact ⟨⟨_, rfl⟩, wr, Below.refl _ _, .inl (by have := HK.out.j; rwa [List.take_length] at this)⟩
end Go.Proofs.Ytgnlehenbdcgmaa.Md
