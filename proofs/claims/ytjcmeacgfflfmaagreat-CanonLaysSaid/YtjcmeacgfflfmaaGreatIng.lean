/- General: append to a gathered row of rows, none too. Plain: putting in, one by one, is sorting. -/
import Derived.Test.YtjcmeacgfflfmaaGreatCnh
import Derived.Test.YtjcmeacgfflfmaaGreatAw
set_option linter.unusedVariables false
set_option linter.unusedSectionVars false
set_option linter.unusedSimpArgs false
namespace Go.Proofs.YtjcmeacgfflfmaaGreat.Hk
open Go.RowKit Go.Shelf Go.Proofs.YtjcmeacgfflfmaaGreat.Md
theorem wpList_append_zeroN {P : Program} {w : World} {ops : Array Oper} {rest : List Oper} {o : Oper} {a : Act} {Q : Exit → Act → World → Prop} (hgd : o.guard = none) (s x : Operand) (t : TypeId)
    (ho : o.op = .call { callee := .builtin .append, args := #[s, x], argTypes := #[t, t] })
    (e : TypeId) (i : TypeInfo) (ht : P.underlying t = some (.slice e)) (hi : P.info? e = some i)
    (ao : Option Addr) (n k : Nat) (hn : n ≤ k) (hs : a.eval s = .slice ao n k) (px : Option Addr) (c : Nat) (hx : a.eval x = .slice px 0 c)
    (h : wpList P ops Q rest (a.put o.dst (.slice ao n k)) w) : wpList P ops Q (o :: rest) a w := by
  refine wpList_plain hgd fun K hK => ?_
  have hrun : (Builtin.append_ #[t, t] o.type #[.slice ao n k, .slice px 0 c]).run P w = .ok (.slice ao n k) w := by
    cases ao <;> cases px <;> simp [Builtin.append_, run_underlying ht, sizeOf, typeInfo, hi, Builtin.lenOf, Builtin.firstCells, storeCells, loadCells, loadCellsFrom, Result.andThen, hn]
  unfold Oper.wp
  simp [execOp, ho, resolve, invoke, builtin, hs, hx, hrun, Result.andThen]
  exact hK _ _ h
theorem gath_room {w : World} {base : Nat} {e : TypeId} {size : Nat} {v : Value} {n : Nat} {xs : List Value} (h : Gath w base e size v n xs) : ∃ a cap, v = .slice a n cap ∧ n ≤ cap := by
  rcases h with ⟨rfl, _, ao, rfl⟩ | h
  · exact ⟨ao, 0, rfl, Nat.le_refl _⟩
  · rcases h.2 with ⟨rfl, rfl⟩ | ⟨g, cap, cur, rfl, hb, hg, hnc, _⟩
    · exact ⟨none, 0, rfl, Nat.le_refl _⟩
    · exact ⟨_, cap, rfl, hnc⟩
/-- Rows appended to what was gathered. -/
theorem wpList_append_rows {α : Type} {enc : α → List Value} {fit : α → Prop} {sz : Nat} (hsz : ∀ x, (enc x).length = sz) (hone : ∀ L : List α, ∀ u ∈ L.flatMap enc, u.oneCell' = true) {P : Program} {w : World} {ops : Array Oper} {rest : List Oper} {o : Oper} {a : Act} {Q : Exit → Act → World → Prop} (hgd : o.guard = none) (s x : Operand) (t : TypeId)
    (ho : o.op = .call { callee := .builtin .append, args := #[s, x], argTypes := #[t, t] })
    (base : Nat) (e : TypeId) (i : TypeInfo) (z : Value) (bytes : Nat) (ht : P.underlying t = some (.slice e)) (hi : P.info? e = some i) (hz : i.zero = some z)
    (hsize : i.size = sz) (hby : i.bytes = bytes) (hzs : z.cells.size = sz) (h0 : 0 < sz)
    (v : Value) (X : List α) (hs : a.eval s = v) (hg : Gath w base e sz v X.length (X.flatMap enc)) {pa : Option Addr} {b off len c : Nat} {L : List α} (hx : a.eval x = .slice pa len c) (hr : RowsAt enc fit sz w.heap.size w pa b off len L) (hl : (X.length + len) * bytes ≤ 140737488355328) (hm : X.length + len ≤ maxLen) (hbase : base ≤ w.heap.size)
    (h : ∀ v' w', Gath w' base e sz v' (X ++ L).length ((X ++ L).flatMap enc) → Below base w w' → wpList P ops Q rest (a.put o.dst v') w') : wpList P ops Q (o :: rest) a w := by
  obtain rfl := hr.length
  by_cases hn : L.length = 0
  · obtain rfl : L = [] := List.eq_nil_of_length_eq_zero hn
    obtain ⟨ao, cap, rfl, hc⟩ := gath_room hg
    refine wpList_append_zeroN hgd s x t ho e i ht hi ao X.length cap hc hs pa c hx (h _ w ?_ (Below.refl _ _))
    rw [List.append_nil]
    exact hg
  · have hpa := hr.addr.resolve_left hn
    subst hpa
    refine wpList_append_gathP w hgd s x t ho base e i z sz bytes ht hi hz hsize hby hzs h0 v X.length (X.flatMap enc) hs hg ⟨b, off, none⟩ L.length c (L.flatMap enc) hx (flat_lenU hsz _) (rows_cells hsz hr) (hone L) (by omega) hm hl hbase ?_
    intro v' w' row hown hgr hrow
    refine h v' w' (.inr ?_) ((Below.refl _ w).grown hgr hbase (fun r e => (hrow r e).2))
    rw [List.length_append, List.flatMap_append]
    exact hown
end Go.Proofs.YtjcmeacgfflfmaaGreat.Hk
namespace Go.Proofs.YtjcmeacgfflfmaaGreat.Hg
section
variable {X : Type} [Inhabited X] {kf : Ord X}
/-- Put in behind all that are not above it. -/
def insG (kf : Ord X) (x : X) : List X → List X
  | [] => [x]
  | y :: r => if kf.lt x y = true then x :: y :: r else y :: insG kf x r
theorem getD_left (row : List X) (x : X) {i : Nat} (h : i < row.length) : (row ++ [x]).getD i default = row.getD i default := by
  rw [List.getD_eq_getElem?_getD, List.getD_eq_getElem?_getD, List.getElem?_append_left h]
theorem getD_last (row : List X) (x : X) : (row ++ [x]).getD row.length default = x := by
  rw [List.getD_eq_getElem?_getD, List.getElem?_append_right (Nat.le_refl _), Nat.sub_self]; rfl
theorem getD_mem (row : List X) {i : Nat} (h : i < row.length) : row.getD i default ∈ row := by
  rw [List.getD_eq_getElem?_getD, List.getElem?_eq_getElem h]; exact List.getElem_mem h
theorem srt_snoc : ∀ (n : Nat) (row : List X) (x : X), row.length = n → srt kf (row ++ [x]) = insG kf x (srt kf row)
  | 0, row, x, h => by
    obtain rfl := nil_of h
    have hf : first kf [x] = 0 := first_asc (List.pairwise_singleton _ _)
    rw [List.nil_append, srt_succ [x] (by simp)]
    unfold top rest
    rw [hf]
    rfl
  | n + 1, row, x, h => by
    have h0 : row.length ≠ 0 := by omega
    have hl : (row ++ [x]).length = row.length + 1 := by simp
    have hF := first_is (kf := kf) (row := row) (by intro e; subst e; exact h0 rfl)
    rw [srt_succ (row ++ [x]) (by omega), srt_succ row h0]
    by_cases c : kf.lt x (top kf row) = true
    · have hf : first kf (row ++ [x]) = row.length := by
        refine (first_is (by simp)).uniq ⟨by omega, fun i hi => ?_, fun i h1 h2 => ?_⟩
        · rw [getD_last, getD_left _ _ hi]
          exact kf.lt_le c (top_low h0 _ (getD_mem row hi))
        · obtain rfl : i = row.length := by omega
          exact kf.irr _
      have ht : top kf (row ++ [x]) = x := by unfold top; rw [hf, getD_last]
      have hr : rest kf (row ++ [x]) = row := by
        unfold rest
        rw [hf, List.eraseIdx_append_of_length_le (Nat.le_refl _), Nat.sub_self]
        exact List.append_nil row
      rw [ht, hr]
      unfold insG
      rw [if_pos c, ← srt_succ row h0]
    · have c' : kf.lt x (top kf row) = false := by simpa using c
      have hlt := first_lt (kf := kf) h0
      have hf : first kf (row ++ [x]) = first kf row := by
        refine (first_is (by simp)).uniq ⟨by omega, fun i hi => ?_, fun i h1 h2 => ?_⟩
        · rw [getD_left _ _ hlt, getD_left _ _ (by omega)]
          exact hF.ahead i hi
        · rw [getD_left _ _ hlt]
          by_cases e : i < row.length
          · rw [getD_left _ _ e]
            exact hF.behind i h1 e
          · obtain rfl : i = row.length := by omega
            rw [getD_last]
            exact c'
      have ht : top kf (row ++ [x]) = top kf row := by unfold top; rw [hf, getD_left _ _ hlt]
      have hr : rest kf (row ++ [x]) = rest kf row ++ [x] := by
        unfold rest
        rw [hf, List.eraseIdx_append_of_lt_length hlt]
      rw [ht, hr, srt_snoc n (rest kf row) x (by rw [rest_length h0]; omega)]
      conv => rhs; unfold insG
      rw [if_neg c]
theorem insG_at : ∀ (O : List X) (x : X) (t : Nat), Asc kf O → t ≤ O.length → (∀ k y, t ≤ k → O[k]? = some y → kf.lt x y = true) → (∀ k y, t = k + 1 → O[k]? = some y → kf.lt x y = false) → insG kf x O = O.take t ++ x :: O.drop t
  | [], x, t, _, ht, _, _ => by
    obtain rfl : t = 0 := by simpa using ht
    rfl
  | y :: r, x, 0, _, _, h1, _ => by
    unfold insG
    rw [if_pos (h1 0 y (Nat.le_refl _) rfl)]
    rfl
  | y :: r, x, t + 1, ha, ht, h1, h2 => by
    obtain ⟨a1, a2⟩ := List.pairwise_cons.1 ha
    have hy : kf.lt x y = false := by
      obtain ⟨u, hu⟩ : ∃ u, (y :: r)[t]? = some u := ⟨_, List.getElem?_eq_getElem (by simp at ht ⊢; omega)⟩
      have hux := h2 t u rfl hu
      cases c : kf.lt x y with
      | false => rfl
      | true =>
        cases t with
        | zero => rw [show u = y by simpa using hu.symm] at hux; rw [hux] at c; cases c
        | succ t =>
          have hm : u ∈ r := List.mem_of_getElem? (by simpa using hu)
          rw [kf.lt_le c (a1 u hm)] at hux
          cases hux
    unfold insG
    rw [if_neg (by rw [hy]; decide), insG_at r x t a2 (by simpa using ht) (fun k z hk hz => h1 (k + 1) z (by omega) (by simpa using hz)) (fun k z hk hz => h2 (k + 1) z (by omega) (by simpa using hz))]
    rfl
end
end Go.Proofs.YtjcmeacgfflfmaaGreat.Hg
