/- General: a row put behind a row; two heaps beside each other. -/
import Derived.Test.YtfghcjhfbbdanaaKa
import Derived.Deep.Upon
set_option linter.unusedVariables false
namespace Go.Proofs.Ytfghcjhfbbdanaa
open Go.RowKit

theorem Gath.room {w : World} {base : Nat} {e : TypeId} {size : Nat} {v : Value} {n : Nat} {xs : List Value} (h : Gath w base e size v n xs) : ∃ a cap, v = .slice a n cap ∧ n ≤ cap := by
  rcases h with ⟨rfl, _, ao, rfl⟩ | h
  · exact ⟨ao, 0, rfl, Nat.le_refl _⟩
  · rcases h.2 with ⟨rfl, rfl⟩ | ⟨g, cap, cur, rfl, hb, hg, hnc, _⟩
    · exact ⟨none, 0, rfl, Nat.le_refl _⟩
    · exact ⟨_, cap, rfl, hnc⟩
theorem Gath.size {w : World} {base : Nat} {e : TypeId} {size : Nat} {v : Value} {n : Nat} {xs : List Value} (h : Gath w base e size v n xs) : xs.length = n * size := by
  rcases h with ⟨rfl, rfl, _⟩ | h
  · simp
  · exact h.1

theorem its_ones : ∀ l : List (Int × Int), ∀ u ∈ its l, u.oneCell' = true
  | [], u, h => by simp [its] at h
  | x :: r, u, h => by
    rw [show its (x :: r) = its [x] ++ its r from by rw [← its_append]; rfl, List.mem_append] at h
    exact h.elim (its_one x u) (its_ones r u)
/-- append of a whole row to what is gathered. -/
theorem wpList_append_two {P : Program} (w : World) {ops : Array Oper} {rest : List Oper} {o : Oper} {a : Act} {Q : Exit → Act → World → Prop} (hw : Region.wanted o (yielded ops a.tmps) = true) (s x : Operand) (t : TypeId)
    (hop : o.op = Op.call { callee := Callee.builtin Builtin.append, args := #[s, x], argTypes := #[t, t] })
    (base : Nat) (e : TypeId) (i : TypeInfo) (z : Value) (size bytes : Nat) (h1 : P.underlying t = some (.slice e)) (h2 : P.info? e = some i) (h3 : i.zero = some z) (h4 : i.size = size) (h5 : i.bytes = bytes) (h6 : z.cells.size = size) (h7 : 0 < size)
    (v : Value) (n : Nat) (xs : List Value) (hs : a.eval s = v) (hown : Gath w base e size v n xs)
    (base2 : Nat) (v2 : Value) (m : Nat) (ys : List Value) (hx : a.eval x = v2) (hsrc : Gath w base2 e size v2 m ys) (h1c : ∀ u ∈ ys, u.oneCell' = true)
    (b1 : n + m ≤ maxLen) (b2 : (n + m) * bytes ≤ 140737488355328) (hbase : base ≤ w.heap.size)
    (hK : ∀ v' w', Gath w' base e size v' (n + m) (xs ++ ys) → Below base w w' → wpList P ops Q rest (a.put o.dst v') w') :
    wpList P ops Q (o :: rest) a w := by
  refine wpList_step fun K hK' => ?_
  rw [if_pos hw]
  obtain ⟨av, cv, rfl, hcv⟩ := hown.room
  obtain ⟨ax, cx, rfl, hcx⟩ := hsrc.room
  by_cases hm : m = 0
  · subst hm
    have hy : ys = [] := List.eq_nil_of_length_eq_zero (by rw [hsrc.size]; simp)
    subst hy
    have hld : ∀ (x : Addr) (W : World), (loadCells x 0).run P W = .ok #[] W := fun x W => by simpa using run_loadCells_list (P := P) W x [] (by simp)
    have hrun := run_append_nothing (P := P) w t t o.type e i h1 h2 av n cv hcv (.slice ax 0 cx) ⟨.inl ⟨e, h1⟩, fun w' => by simp [Builtin.lenOf], by cases ax <;> simp [Builtin.firstCells, hld], by cases ax <;> simp [Builtin.firstCells, hld], by simp, by simp⟩
    unfold Oper.wp
    simp [execOp, hop, resolve, invoke, builtin, hs, hx, hrun, Result.andThen]
    refine hK' _ _ (hK _ _ ?_ (Below.refl _ _))
    simpa using hown
  · obtain ⟨g, hg⟩ : ∃ g : Nat, ax = some ⟨g, 0, none⟩ ∧ ∀ j u, ys[j]? = some u → w.cell? ((⟨g, 0, none⟩ : Addr).add j) = some u := by
      rcases hsrc with ⟨h, _⟩ | h
      · exact absurd h hm
      · rcases h.2 with ⟨_, h0⟩ | ⟨g, cap, cur, hv, _⟩
        · exact absurd h0 hm
        · cases hv
          exact ⟨g, rfl, fun j u hu => h.cells (g := g) rfl j u hu⟩
    obtain ⟨rfl, hc⟩ := hg
    have hyl := hsrc.size
    rcases hown with ⟨rfl, rfl, ao, hv⟩ | hown
    · cases hv
      cases av with
      | none =>
        obtain ⟨v', w', hrun, r1, r2, _⟩ := run_append_own (P := P) w w.heap.size t o.type e i z size bytes h1 h2 h3 h4 h5 h6 h7 (.slice none 0 0) 0 [] (World.ownsRow_nil w _ e size) ⟨g, 0, none⟩ m cx ys hyl hc h1c b1 b2 (Nat.le_refl _)
        unfold Oper.wp
        simp [execOp, hop, resolve, invoke, builtin, hs, hx, hrun, Result.andThen]
        exact hK' _ _ (hK _ _ (.inr (ownsRow_base r1 hbase)) ((Below.refl _ _).grown r2 hbase (fun r e => by simp [Value.ownBlock] at e)))
      | some b =>
        obtain ⟨v', w', hrun, r1, r2⟩ := run_append_arg_grows (P := P) w t o.type e i z size bytes h1 h2 h3 h4 h5 h6 h7 b 0 0 [] (by simp) (fun j u hj => by simp at hj) ⟨g, 0, none⟩ m cx ys hyl hc (by omega) b1 b2
        unfold Oper.wp
        simp [execOp, hop, resolve, invoke, builtin, hs, hx, hrun, Result.andThen]
        exact hK' _ _ (hK _ _ (.inr (ownsRow_base r1 hbase)) ((Below.refl _ _).grown r2 hbase (fun r e => by cases e)))
    · obtain ⟨v', w', hrun, r1, r2, g', cap', rfl, r4, r5⟩ := run_append_where (P := P) w base t o.type e i z size bytes h1 h2 h3 h4 h5 h6 h7 (.slice av n cv) n xs hown ⟨g, 0, none⟩ m cx ys hyl hc h1c (by omega) b1 b2 hbase
      unfold Oper.wp
      simp [execOp, hop, resolve, invoke, builtin, hs, hx, hrun, Result.andThen]
      exact hK' _ _ (hK _ _ (.inr r1) ((Below.refl _ _).grown r2 hbase (fun r e => (owns_block hown e).1)))

theorem Spared.grown {hb : Nat} {A B C : World} (h : Spared hb A B) (hB : Below A.heap.size B C) (hle : hb ≤ A.heap.size) : Spared hb A C :=
  ⟨h.below.trans (hB.mono hle), fun k o ho hf => heap_below (h.other k o ho hf) hB (heap_lt ho)⟩
theorem Spared.mono {hb hb' : Nat} {W W' : World} (h : Spared hb W W') (hle : hb' ≤ hb) : Spared hb' W W' := ⟨h.below.mono hle, h.other⟩
/-- Two heaps; neither's list is the other's. -/
def HH (K : Nat) (kf : Int × Int → Int) (p q : Nat) (W : World) (ra : List (Int × Int)) (pa : Int) (rb : List (Int × Int)) (pb : Int) : Prop :=
  ∃ la lb, p ≤ la ∧ q ≤ lb ∧ la ≠ lb ∧ la ≠ q ∧ lb ≠ p ∧ p ≠ q ∧ HIs K kf p p la W ra pa ∧ HIs K kf q q lb W rb pb
variable {K : Nat} {kf : Int × Int → Int} {p q : Nat} {W : World} {ra rb : List (Int × Int)} {pa pb : Int}
theorem HH.symm (h : HH K kf p q W ra pa rb pb) : HH K kf q p W rb pb ra pa := by
  obtain ⟨la, lb, h1, h2, h3, h4, h5, h6, h7, h8⟩ := h
  exact ⟨lb, la, h2, h1, h3.symm, h5, h4, h6.symm, h8, h7⟩
theorem HH.one (h : HH K kf p q W ra pa rb pb) : HC K kf p W ra pa := by
  obtain ⟨la, lb, h1, h2, h3, h4, h5, h6, h7, h8⟩ := h
  exact ⟨la, h1, h7⟩
theorem HH.below {W' : World} (h : HH K kf p q W ra pa rb pb) (hB : Below W.heap.size W W') : HH K kf p q W' ra pa rb pb := by
  obtain ⟨la, lb, h1, h2, h3, h4, h5, h6, h7, h8⟩ := h
  exact ⟨la, lb, h1, h2, h3, h4, h5, h6, h7.below hB, h8.below hB⟩
theorem HH.of {W' : World} (h : HC K kf p W ra pa) (hB : Below W.heap.size W W') (h' : HC K kf q W' rb pb) (hq : W.heap.size ≤ q) : HH K kf p q W' ra pa rb pb := by
  obtain ⟨la, h1, h2⟩ := h
  obtain ⟨lb, h3, h4⟩ := h'
  have h5 := hb_lb h2
  exact ⟨la, lb, h1, h3, by omega, by omega, by omega, by omega, h2.below hB, h4⟩
theorem HH.kept {W' : World} {r : Option Nat} (h : HH K kf p q W ra pa rb pb) (hg : W.grownBy W' r) (hr : ∀ k, r = some k → ∃ o, W.heap[k]? = some o ∧ Foreign o) : HH K kf p q W' ra pa rb pb := by
  obtain ⟨la, lb, h1, h2, h3, h4, h5, h6, h7, h8⟩ := h
  have n7 : ∀ k, some k = r → ¬ (k = p ∨ k = la) := fun k e => by obtain ⟨o, ho, hf⟩ := hr k e.symm; exact h7.other ho hf.1 hf.2
  have n8 : ∀ k, some k = r → ¬ (k = q ∨ k = lb) := fun k e => by obtain ⟨o, ho, hf⟩ := hr k e.symm; exact h8.other ho hf.1 hf.2
  exact ⟨la, lb, h1, h2, h3, h4, h5, h6, h7.turned (Turned.of_grown hg) (fun e => n7 _ e (.inl rfl)) (fun e => n7 _ e (.inr rfl)), h8.turned (Turned.of_grown hg) (fun e => n8 _ e (.inl rfl)) (fun e => n8 _ e (.inr rfl))⟩
/-- What turns the one leaves the other. -/
theorem HH.next {la' : Nat} {W' : World} {ra' : List (Int × Int)} {pa' : Int} {la lb : Nat} (h1 : p ≤ la) (h2 : q ≤ lb) (h3 : la ≠ lb) (h4 : la ≠ q) (h5 : lb ≠ p) (h6 : p ≠ q) (h7 : HIs K kf p p la W ra pa) (h8 : HIs K kf q q lb W rb pb)
    (hn : HIs K kf p p la' W' ra' pa') (hla : la' = la ∨ W.heap.size ≤ la') (ht : Turned (fun k => k = p ∨ k = la) W W') : HH K kf p q W' ra' pa' rb pb := by
  have k1 := hb_lb h7
  have k2 := hb_lb h8
  exact ⟨la', lb, by omega, h2, by omega, by omega, h5, h6, hn, h8.turned ht (by omega) (by omega)⟩
theorem hh_push (HK : IsOrd K kf) (h : HH K kf p q W ra pa rb pb) (x1 x2 : Int) (hs : ra.length ≤ 100000) (hp0 : 0 ≤ pa) (hp1 : pa ≤ 1000000) :
    Calls Try.prog 11 #[.pointer (some ⟨p, 0, none⟩), .agg #[.int .i64 x1, .int .i64 x2]] W fun e w' => e = .returned (.tuple #[]) ∧ HH K kf p q w' (ra ++ [(x1, x2)]) (pa + 1) rb pb ∧ Spared p W w' := by
  obtain ⟨la, lb, h1, h2, h3, h4, h5, h6, h7, h8⟩ := h
  refine (push_any HK h7 x1 x2 hs hp0 hp1 (Nat.le_of_lt (hb_lb h7).1)).mono ?_
  rintro e w' ⟨rfl, lb', k1, k2, k3⟩
  exact ⟨rfl, HH.next h1 h2 h3 h4 h5 h6 h7 h8 k1 k2 k3, Spared.of_turned h7 h1 k3⟩
theorem hh_pop (HK : IsOrd K kf) (h : HH K kf p q W ra pa rb pb) (hs : ra.length ≤ 100001) (h0 : ra.length ≠ 0) :
    Calls Try.prog 13 #[.pointer (some ⟨p, 0, none⟩)] W fun e w' => e = .returned (.tuple #[.agg #[.int .i64 (Hm.top kf ra).1, .int .i64 (Hm.top kf ra).2], .bool true]) ∧ HH K kf p q w' (Hm.rest kf ra) pa rb pb ∧ Spared p W w' := by
  obtain ⟨la, lb, h1, h2, h3, h4, h5, h6, h7, h8⟩ := h
  exact (pop_cons HK h7 hs h0).mono fun e w' ⟨e1, e2, e3⟩ => ⟨e1, HH.next h1 h2 h3 h4 h5 h6 h7 h8 e2 (.inl rfl) e3, Spared.of_turned h7 h1 e3⟩
theorem hh_take (HK : IsOrd K kf) (h : HH K kf p q W ra pa rb pb) (hs : ra.length ≤ 100001) (m : Int) :
    Calls Try.prog 17 #[.pointer (some ⟨p, 0, none⟩), .int .i64 m] W fun e w' => ∃ v, e = .returned v ∧ Gath w' W.heap.size 26 2 v (Hm.outs kf m.toNat ra).length (its (Hm.outs kf m.toNat ra)) ∧ HH K kf p q w' (Hm.left kf m.toNat ra) pa rb pb ∧ Spared p W w' := by
  obtain ⟨la, lb, h1, h2, h3, h4, h5, h6, h7, h8⟩ := h
  refine (take_any HK h7 hs m).mono ?_
  rintro e w' ⟨v, e1, e2, e3, e4⟩
  exact ⟨v, e1, e2, HH.next h1 h2 h3 h4 h5 h6 h7 h8 e3 (.inl rfl) e4, Spared.of_turned h7 h1 e4⟩
end Go.Proofs.Ytfghcjhfbbdanaa
