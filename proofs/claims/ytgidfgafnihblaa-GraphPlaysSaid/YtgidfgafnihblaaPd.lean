/- Plain: joins in whichever order. -/
import Derived.Test.YtgidfgafnihblaaPb
set_option linter.unusedVariables false
set_option linter.unusedSectionVars false
namespace Go.Proofs.Ytgidfgafnihblaa
open Go.RowKit Rk

/-- What a step adds to what is between two. -/
def cb (x y v : Int) (a b : Nat) : Int := if (x = (a : Int) ∧ y = (b : Int)) ∨ (x = (b : Int) ∧ y = (a : Int)) then v else 0
theorem cb_swap (x y v : Int) (a b : Nat) : cb y x v a b = cb x y v a b := by
  unfold cb
  by_cases h : (x = (a : Int) ∧ y = (b : Int)) ∨ (x = (b : Int) ∧ y = (a : Int))
  · rw [if_pos h, if_pos (by rcases h with h | h; exact .inr ⟨h.2, h.1⟩; exact .inl ⟨h.2, h.1⟩)]
  · rw [if_neg h, if_neg (fun e => h (by rcases e with e | e; exact .inr ⟨e.2, e.1⟩; exact .inl ⟨e.2, e.1⟩))]
theorem join_add {n : Nat} {F : Nat → Nat → Int} (ht : Tab n F) {x y v : Int} (h : joinE n F x y v = 0) (a b : Nat) : joinF n F x y v a b = F a b + cb x y v a b := by
  have h' := h
  unfold joinE at h'
  split at h'
  · cases h'
  · rename_i hc
    have ha : hasN n x = true := by cases e : hasN n x; exact absurd (.inl e) hc; rfl
    have hb : hasN n y = true := by cases e : hasN n y; exact absurd (.inr (.inl e)) hc; rfl
    obtain ⟨i, rfl, hi⟩ := hasN_t ha
    obtain ⟨j, rfl, hj⟩ := hasN_t hb
    have hij : i ≠ j := fun e => hc (.inr (.inr (by rw [e])))
    rw [joinF_yes h hi hj]
    unfold joinT cb
    by_cases e : (a = i ∧ b = j) ∨ (a = j ∧ b = i)
    · rw [if_pos e, if_pos (by omega)]
      rcases e with ⟨rfl, rfl⟩ | ⟨rfl, rfl⟩
      · rfl
      · rw [ht.sym]
    · rw [if_neg e, if_neg (by omega)]
      omega
/-- What all steps together lay between two. -/
def tot (l : List RopV) (a b : Nat) : Int := (l.map (fun o => cb o.kind o.key o.n a b)).sum
theorem tot_append (l m : List RopV) (a b : Nat) : tot (l ++ m) a b = tot l a b + tot m a b := by simp [tot, List.sum_append]
theorem tot_take {l : List RopV} {k : Nat} {o : RopV} (h : l[k]? = some o) (a b : Nat) : tot (l.take (k + 1)) a b = tot (l.take k) a b + cb o.kind o.key o.n a b := by
  obtain ⟨hk, he⟩ := List.getElem?_eq_some_iff.1 h
  rw [List.take_succ_eq_append_getElem hk, tot_append, he]
  simp [tot]
theorem tot_drop {l : List RopV} {k : Nat} {o : RopV} (h : l[k]? = some o) (a b : Nat) : tot (l.drop k) a b = tot (l.drop (k + 1)) a b + cb o.kind o.key o.n a b := by
  obtain ⟨hk, he⟩ := List.getElem?_eq_some_iff.1 h
  rw [List.drop_eq_getElem_cons hk, he]
  simp only [tot, List.map_cons, List.sum_cons]
  omega
/-- Two graphs, while the steps are taken, one from each end. -/
structure TwoR (w : World) (g nb g' nb' : Nat) (zs : List Int) (ops : List RopV) (n k : Nat) (al : Bool) (F F' : Nat → Nat → Int) (W : World) : Prop where
  one : IsG W g nb zs F
  two : IsG W g' nb' zs F'
  below : Below w.heap.size w W
  eq : al = true → ∀ a b, F a b = tot (ops.take k) a b ∧ F' a b = tot (ops.drop (n - k)) a b
theorem IsG.other {w w' : World} {g nb g' nb' : Nat} {ws : List Int} {F F' : Nat → Nat → Int} (h : IsG w g nb ws F) (ht : Turned (fun c => c = nb') w w') (h1 : g ≠ nb') (h2 : nb ≠ nb') (h' : IsG w g' nb' ws F') : IsG w' g nb ws F := by
  obtain ⟨wa, wc, wb, h3, h4⟩ := h.box
  obtain ⟨cs, h5⟩ := h.maps
  obtain ⟨cs', h6⟩ := h'.maps
  have hnn : ∀ c, c = nb' → ∀ o, w.heap[c]? = some o → NotNode o := fun c e o ho => by subst e; rw [h6] at ho; cases ho; exact notNode_map _ _
  refine ⟨⟨wa, wc, wb, ht.old h3 h1, h4.turned ht ?_⟩, ⟨cs, ht.old h5 h2⟩, fun i hi => (h.map i hi).turned ht h2 hnn, h.tab, h.small, h.wts⟩
  by_cases h0 : ws.length = 0
  · exact .inl h0
  · refine .inr fun e => ?_
    subst e
    have c1 := h4.cell 0 (by omega)
    obtain ⟨p, t, cs2, h7, h8, _⟩ := h'.map 0 (by omega)
    have c2 : w.cell? ⟨wb, 0 + 0, none⟩ = some (.pointer p) := heap_cell h7 h8
    rw [c1] at c2
    cases c2
/-- The graphs' blocks lie apart. -/
theorem IsG.apart' {w : World} {g nb : Nat} {ws : List Int} {F : Nat → Nat → Int} (h : IsG w g nb ws F) : g ≠ nb := h.g0.apart
end Go.Proofs.Ytgidfgafnihblaa
