/- Plain: a row as what each key has. No program in this text. -/
import Derived.Test.YtjcmeacgfflfmaaGreatTm
set_option linter.unusedVariables false
set_option linter.unusedSectionVars false
namespace Go.Proofs.YtjcmeacgfflfmaaGreat.Rk
section
variable {X V : Type} [DecidableEq X] {lt : X → X → Bool}
theorem Lin.ne (hl : Lin lt) {a b : X} (h : lt a b = true) : a ≠ b := fun e => by subst e; rw [hl.irr] at h; cases h
theorem Lin.eq_iff (hl : Lin lt) (a b : X) : (!lt a b && !lt b a) = decide (a = b) := by
  by_cases h : a = b
  · subst h; simp [hl.irr]
  · have : lt a b = true ∨ lt b a = true := by
      cases h1 : lt a b with
      | true => exact .inl rfl
      | false =>
        cases h2 : lt b a with
        | true => exact .inr rfl
        | false => exact absurd (hl.tri a b h1 h2) h
    rcases this with h1 | h1 <;> simp [h1, h]
theorem get_cons' (hl : Lin lt) (k : X) (p : X × V) (r : List (X × V)) : get lt k (p :: r) = if p.1 = k then some p.2 else get lt k r := by
  rw [get_cons, hl.eq_iff]
  by_cases h : p.1 = k <;> simp [h]
theorem get_ins (hl : Lin lt) (k : X) (v : V) (x : X) : ∀ l : List (X × V), get lt x (ins lt k v l) = if x = k then some v else get lt x l
  | [] => by
    by_cases h : x = k
    · subst h; rw [if_pos rfl, show ins lt x v [] = [(x, v)] from rfl, get_cons' hl, if_pos rfl]
    · rw [if_neg h, show ins lt k v [] = [(k, v)] from rfl, get_cons' hl, if_neg (Ne.symm h)]
  | p :: r => by
    have ih := get_ins hl k v x r
    unfold ins
    split
    · next h =>
      rw [get_cons' hl]
      by_cases e : x = k
      · simp [e]
      · simp [Ne.symm e, e]
    · next h =>
      split
      · next h2 =>
        rw [get_cons' hl, get_cons' hl, ih]
        have hne := hl.ne h2
        by_cases e : p.1 = x
        · subst e; simp [hne]
        · simp [e]
      · next h2 =>
        have e : p.1 = k := hl.tri _ _ (by simpa using h2) (by simpa using h)
        rw [get_cons' hl, get_cons' hl]
        by_cases e2 : p.1 = x
        · subst e2; simp [e]
        · have : ¬ x = k := fun h => e2 (e.trans h.symm)
          simp [e2, this]
theorem get_del (hl : Lin lt) (k x : X) : ∀ l : List (X × V), get lt x (del lt k l) = if x = k then none else get lt x l
  | [] => by simp [del, get]
  | p :: r => by
    have ih := get_del hl k x r
    have e0 : del lt k (p :: r) = if p.1 = k then del lt k r else p :: del lt k r := by
      unfold del
      rw [List.filter_cons]
      have := hl.eq_iff p.1 k
      by_cases h : p.1 = k
      · rw [if_pos h, if_neg]; rw [h, hl.irr]; simp
      · rw [if_neg h, if_pos]
        rw [decide_eq_false h] at this
        cases h1 : lt p.1 k <;> cases h2 : lt k p.1 <;> simp_all
    rw [e0]
    by_cases h : p.1 = k
    · rw [if_pos h, ih, get_cons' hl]
      by_cases e : x = k
      · simp [e]
      · have : ¬ p.1 = x := fun h' => e (h'.symm.trans h)
        simp [e, this]
    · rw [if_neg h, get_cons' hl, get_cons' hl, ih]
      by_cases e : p.1 = x
      · have : ¬ x = k := fun h' => h (e.trans h')
        simp [e, this]
      · simp [e]
theorem get_above (hl : Lin lt) {k : X} {l : List (X × V)} (h : ∀ a ∈ l, lt k a.1 = true) : get lt k l = none := get_none (fun a ha => by simp [h a ha])
theorem ext_get (hl : Lin lt) : ∀ l m : List (X × V), Srt lt l → Srt lt m → (∀ x, get lt x l = get lt x m) → l = m
  | [], [], _, _, _ => rfl
  | [], q :: s, _, _, h => by have := h q.1; rw [get_cons' hl, if_pos rfl] at this; simp [get] at this
  | p :: r, [], _, _, h => by have := h p.1; rw [get_cons' hl, if_pos rfl] at this; simp [get] at this
  | p :: r, q :: s, hs, hm, h => by
    obtain ⟨h1, h2⟩ := List.pairwise_cons.1 hs
    obtain ⟨h3, h4⟩ := List.pairwise_cons.1 hm
    have hp := h p.1
    have hq := h q.1
    rw [get_cons' hl, if_pos rfl] at hp
    rw [get_cons' hl q.1 q s, if_pos rfl] at hq
    have e : p.1 = q.1 := by
      refine hl.tri _ _ ?_ ?_
      · cases hc : lt p.1 q.1 with
        | false => rfl
        | true =>
          rw [get_above hl (fun a ha => by rcases List.mem_cons.1 ha with rfl | ha; exact hc; exact hl.trans _ _ _ hc (h3 a ha))] at hp
          cases hp
      · cases hc : lt q.1 p.1 with
        | false => rfl
        | true =>
          rw [get_above hl (fun a ha => by rcases List.mem_cons.1 ha with rfl | ha; exact hc; exact hl.trans _ _ _ hc (h1 a ha))] at hq
          cases hq
    rw [get_cons' hl, if_pos e.symm] at hp
    have e2 : p.2 = q.2 := by simpa using hp
    have er : r = s := ext_get hl r s h2 h4 fun x => by
      by_cases hx : p.1 = x
      · subst hx
        rw [get_above hl h1, get_above hl (l := s) (fun a ha => by rw [e]; exact h3 a ha)]
      · have := h x
        rw [get_cons' hl, get_cons' hl, if_neg hx, if_neg (by rw [← e]; exact hx)] at this
        exact this
    rw [er, Prod.ext e e2]
theorem get_of_mem (hl : Lin lt) {l : List (X × V)} (hs : Srt lt l) {p : X × V} (hp : p ∈ l) : get lt p.1 l = some p.2 := by
  obtain ⟨A, B, rfl⟩ := List.append_of_mem hp
  exact get_eq hl A B p hs
theorem mem_of_get (hl : Lin lt) {k : X} {v : V} : ∀ {l : List (X × V)}, get lt k l = some v → (k, v) ∈ l
  | [], h => by simp [get] at h
  | p :: r, h => by
    rw [get_cons' hl] at h
    split at h
    · next e => cases h; subst e; exact List.mem_cons_self ..
    · exact List.mem_cons_of_mem _ (mem_of_get hl h)
theorem rk_at (hl : Lin lt) {l : List (X × V)} (hs : Srt lt l) {i : Nat} {p : X × V} (h : l[i]? = some p) : rk lt p.1 l = i := by
  obtain ⟨hi, he⟩ := List.getElem?_eq_some_iff.1 h
  have e : l = l.take i ++ p :: l.drop (i + 1) := by rw [← he, List.getElem_cons_drop, List.take_append_drop]
  have hs' := hs
  rw [e] at hs'
  rw [e, rk_ge hl _ _ _ _ hs' (hl.irr _), rk_all (hs'.split.2.2.1)]
  rw [List.length_take]; omega
end

/-- What each key has behind the first i keys, each with its place. -/
def lastAt {X : Type} [DecidableEq X] (key : Nat → X) : Nat → X → Option Int
  | 0, _ => none
  | i + 1, x => if x = key i then some (i : Int) else lastAt key i x
theorem lastAt_some {X : Type} [DecidableEq X] {key : Nat → X} {x : X} {v : Int} : ∀ {n : Nat}, lastAt key n x = some v → ∃ i : Nat, i < n ∧ v = (i : Int) ∧ key i = x
  | 0, h => by simp [lastAt] at h
  | n + 1, h => by
    unfold lastAt at h
    split at h
    · next e => cases h; exact ⟨n, by omega, rfl, e.symm⟩
    · obtain ⟨i, h1, h2, h3⟩ := lastAt_some h; exact ⟨i, by omega, h2, h3⟩
theorem lastAt_isSome {X : Type} [DecidableEq X] {key : Nat → X} : ∀ {n i : Nat}, i < n → (lastAt key n (key i)).isSome = true
  | n + 1, i, h => by
    unfold lastAt
    split
    · rfl
    · next e =>
      have : i ≠ n := fun e' => e (by rw [e'])
      exact lastAt_isSome (by omega)
/-- .. and on more. -/
def onto {X : Type} [DecidableEq X] (key : Nat → X) (G : X → Option Int) : Nat → X → Option Int
  | 0, x => G x
  | i + 1, x => if x = key i then some (i : Int) else onto key G i x
theorem onto_eq {X : Type} [DecidableEq X] {key : Nat → X} {G : X → Option Int} {x : X} : ∀ n : Nat, onto key G n x = (lastAt key n x).or (G x)
  | 0 => rfl
  | n + 1 => by
    unfold onto lastAt
    split
    · rfl
    · exact onto_eq n
end Go.Proofs.YtjcmeacgfflfmaaGreat.Rk
