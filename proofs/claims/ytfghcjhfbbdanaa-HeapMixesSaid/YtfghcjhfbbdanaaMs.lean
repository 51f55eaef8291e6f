/- HeapMixes: the facts ahead of the walk. -/
import Derived.Test.YtfghcjhfbbdanaaMo
import Derived.Test.YtfghcjhfbbdanaaVn
import Derived.IntWalk
set_option linter.unusedVariables false
set_option linter.unusedSectionVars false
namespace Go.Proofs.Ytfghcjhfbbdanaa
open Go.RowKit

theorem Try.infoMix : (Try.prog.info? 3).map (fun i => (i.zero, i.size, i.bytes)) = some (some (.int .i64 0), 1, 8) := by kernel_rfl
/-- How often a key stands in a row. -/
def cn (l : List (Int × Int)) (y : Int) : Int := ((l.map Prod.fst).count y : Nat)
theorem cn_nil (y : Int) : cn [] y = 0 := rfl
theorem cn_snoc (l : List (Int × Int)) (p : Int × Int) (y : Int) : (if y = p.1 then cn l p.1 + 1 else cn l y) = cn (l ++ [p]) y := by
  unfold cn
  rw [List.map_append, List.count_append, List.map_singleton, List.count_singleton]
  by_cases h : y = p.1
  · subst h; simp
  · rw [if_neg h, if_neg (by simp; exact fun e => h e.symm)]; simp
theorem cn_take (S : List (Int × Int)) (j : Nat) (hj : j < S.length) : S.take (j + 1) = S.take j ++ [S.getD j default] := by
  rw [List.take_succ_eq_append_getElem hj]
  simp [List.getD, hj]
theorem cn_perm {l m : List (Int × Int)} (h : l.Perm m) (y : Int) : cn l y = cn m y := by
  unfold cn
  rw [(h.map Prod.fst).count_eq]
theorem cn_small (l : List (Int × Int)) (y : Int) : 0 ≤ cn l y ∧ cn l y ≤ l.length := by
  unfold cn
  have h := List.count_le_length (a := y) (l := l.map Prod.fst)
  rw [List.length_map] at h
  omega
/-- The count that is left: behind one more that is counted down. -/
theorem cn_down (f : Int → Int) (S : List (Int × Int)) (j : Nat) (hj : j < S.length) (y : Int) :
    (if y = (S.getD j default).1 then f (S.getD j default).1 - cn (S.take j) (S.getD j default).1 - 1 else f y - cn (S.take j) y) = f y - cn (S.take (j + 1)) y := by
  rw [cn_take S j hj, ← cn_snoc]
  split
  · next h => rw [h]; omega
  · rfl
theorem gath_grown {w w' : World} {base : Nat} {e : TypeId} {size : Nat} {v : Value} {n : Nat} {xs : List Value} {m : Nat} (h : Gath w base e size v n xs) (hg : w.grownBy w' (some m)) (hm : m < base) : Gath w' base e size v n xs := by
  refine h.imp id fun ho => ⟨ho.1, ?_⟩
  rcases ho.2 with h3 | ⟨g, cap, cur, rfl, hb, hg', r⟩
  · exact .inl h3
  · exact .inr ⟨g, cap, cur, rfl, hb, heap_kept hg' hg (by simp; omega), r⟩
/-- A look-up. -/
theorem wpList_look {P : Program} {ops : Array Oper} {rest : List Oper} {o : Oper} {a : Act} {Q : Exit → Act → World → Prop} {w : World} (hg : o.guard = none) (t : TypeId) (m x : Operand) (hop : o.op = Op.lookup t m x false)
    (mv xv v : Value) (hm : a.eval m = mv) (hx : a.eval x = xv) (hrun : (Instr.lookup t mv xv false).run P w = .ok v w) (h : wpList P ops Q rest (a.put o.dst v) w) : wpList P ops Q (o :: rest) a w := by
  refine wpList_plain hg fun K' hK' => ?_
  unfold Oper.wp
  simp [execOp, hop, hm, hx, hrun, Result.andThen]
  exact hK' _ _ h
theorem wf_count (c : Int) (h0 : -1000 ≤ c) (h1 : c ≤ 1000) : (Lit.int .i64 c).wf = true ∧ IntKind.i64.wrap c = c := by
  have e1 : IntKind.i64.min = -9223372036854775808 := by decide
  have e2 : IntKind.i64.max = 9223372036854775807 := by decide
  refine ⟨?_, IntWalk.i64_in _ (by omega)⟩
  show (decide (IntKind.i64.min ≤ c) && decide (c ≤ IntKind.i64.max)) = true
  rw [e1, e2, Bool.and_eq_true, decide_eq_true_eq, decide_eq_true_eq]
  omega
theorem srt_wf (zs : List Int) (k : Nat) (hl : zs.length = k) (hf : ∀ x ∈ zs, (Lit.int .i64 x).wf = true) (j : Nat) (hj : j < k) : (Lit.int .i64 ((Hm.srt kk (tg zs k)).getD j default).1).wf = true := by
  obtain ⟨m, hm, he, _⟩ := srt_facts zs k j hj
  rw [he]
  refine hf _ ?_
  show zs.getD m 0 ∈ zs
  rw [show zs.getD m 0 = zs[m]'(by omega) by simp [List.getD, show m < zs.length by omega]]
  exact List.getElem_mem _
/-- A heap of as many as ever: one more, one less. -/
theorem mix_len (row : List (Int × Int)) (p : Int × Int) : (Hm.rest kk (row ++ [p])).length = row.length := by
  rw [Hm.rest_length (by simp)]; simp
end Go.Proofs.Ytfghcjhfbbdanaa
