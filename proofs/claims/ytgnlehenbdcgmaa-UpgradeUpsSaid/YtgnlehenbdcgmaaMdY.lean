/- Plain: a right model with one link or one event turned. -/
import Derived.Test.YtgnlehenbdcgmaaMdW
import Derived.Test.YtgnlehenbdcgmaaMdR
set_option linter.unusedVariables false
set_option linter.unusedSectionVars false
set_option linter.unusedSimpArgs false
namespace Go.Proofs.Ytgnlehenbdcgmaa.Md
open Go.RowKit Go.Shelf

theorem fErr_at {α : Type} (E : Nat → α → Int) : ∀ (L : List α) (k j : Nat) (y : α), (∀ i x, i < j → L[i]? = some x → E (k + i) x = 0) → L[j]? = some y → E (k + j) y ≠ 0 → fErr E k L = (E (k + j) y, k + j + 1)
  | [], k, j, y, _, h, _ => by simp at h
  | z :: r, k, 0, y, _, h, hy => by
    have : z = y := by simpa using h
    subst this
    unfold fErr
    rw [Nat.add_zero] at hy
    rw [if_pos hy]
    rfl
  | z :: r, k, j + 1, y, h0, h, hy => by
    have h1 := h0 0 z (by omega) rfl
    rw [Nat.add_zero] at h1
    unfold fErr
    rw [if_neg (by simpa using h1)]
    have := fErr_at E r (k + 1) j y (fun i x hi hx => by
      have := h0 (i + 1) x (by omega) (by simpa using hx)
      rwa [show k + (i + 1) = k + 1 + i by omega] at this) (by simpa using h) (by rwa [show k + 1 + j = k + (j + 1) by omega])
    rw [show k + (j + 1) = k + 1 + j by omega]
    exact this
theorem fstP_some {x : ByteArray} : ∀ {l : List ByteArray} {i : Nat}, fstP l x = some i → l[i]? = some x
  | [], i, h => by cases h
  | y :: r, i, h => by
    unfold fstP at h
    by_cases e : y = x
    · rw [if_pos e] at h
      cases h
      simp [e]
    · rw [if_neg e] at h
      cases hr : fstP r x with
      | none => rw [hr] at h; cases h
      | some j =>
        rw [hr] at h
        cases h
        have := fstP_some hr
        simpa using this
theorem no_empty {m : ModelM} (h : Right m) : fstP (nmsP m) ⟨#[]⟩ = none := by
  cases hf : fstP (nmsP m) ⟨#[]⟩ with
  | none => rfl
  | some i =>
    have h1 := fstP_some hf
    unfold nmsP at h1
    rw [List.getElem?_map] at h1
    cases hp : m.procs[i]? with
    | none => rw [hp] at h1; cases h1
    | some p =>
      rw [hp] at h1
      have e : p.name = ⟨#[]⟩ := by simpa using h1
      have h2 := (nm_zero (h.procs i p hp)).1
      rw [e, nm_empty] at h2
      cases h2
/-- A link beside another of the same name and ends. -/
def sameL (l l' : LinkM) : Prop := l'.name = l.name ∧ l'.frm = l.frm ∧ l'.to_ = l.to_
theorem map_set_same {α β : Type} (f : α → β) : ∀ (L : List α) (k : Nat) (x y : α), L[k]? = some x → f y = f x → (L.set k y).map f = L.map f
  | [], _, _, _, h, _ => by simp at h
  | z :: r, 0, x, y, h, e => by
    have : z = x := by simpa using h
    subst this
    simp [e]
  | z :: r, k + 1, x, y, h, e => by
    have := map_set_same f r k x y (by simpa using h) e
    simp [this]
theorem tgt_set {L : List LinkM} {k : Nat} {l l' : LinkM} (hk : L[k]? = some l) (hs : sameL l l') (nm : ByteArray) (f : ByteArray → Option Nat) (s : StepM) : tgtE (L.set k l') nm f s = tgtE L nm f s := by
  unfold tgtE
  rw [map_set_same (fun y : LinkM => y.name) L k l l' hk hs.1]
  split
  · rfl
  · split
    · rfl
    · rename_i i hi
      by_cases e : k = i
      · subst e
        have h1 := (List.getElem?_eq_some_iff.1 hk).1
        rw [List.getElem?_set_self h1, hk]
        simp only [hs.2.1]
      · rw [List.getElem?_set_ne e]
theorem in_set {L : List LinkM} {k : Nat} {l l' : LinkM} (hk : L[k]? = some l) (hs : sameL l l') (p : ProcM) : inE (L.set k l') p = inE L p := by
  unfold inE
  have : (fun (_ : Nat) s => stE (L.set k l') p.name (fstP (vNames p)) s) = fun (_ : Nat) s => stE L p.name (fstP (vNames p)) s := by
    funext _ s
    unfold stE
    rw [tgt_set hk hs]
  rw [this]
theorem pr_set {L : List LinkM} {k : Nat} {l l' : LinkM} (hk : L[k]? = some l) (hs : sameL l l') (ver : Int) (f : ByteArray → Option Nat) (i : Nat) (p : ProcM) : prE ver (L.set k l') f i p = prE ver L f i p := by
  unfold prE
  rw [in_set hk hs]
theorem turn_link {m : ModelM} (h : Right m) {k : Nat} {l l' : LinkM} (hk : m.links[k]? = some l) (hs : sameL l l') {e : Int} (he : lnE m.ver (fstP (nmsP m)) (fstP (nmsL m)) k l' = e) (h0 : e ≠ 0) : mdE { m with links := m.links.set k l' } = (e, ((m.procs.length + (k + 1) : Nat) : Int)) := by
  have hkl := (List.getElem?_eq_some_iff.1 hk).1
  have g1 := h.ver
  have g2 := h.few
  have e1 : erP { m with links := m.links.set k l' } = (0, 0) := by
    unfold erP fltP
    dsimp only
    have : (fErr (prE m.ver (m.links.set k l') (fstP (nmsP { m with links := m.links.set k l' }))) 0 m.procs).1 = 0 := (fErr_zero _ _ _).2 fun i x hi => by
      rw [Nat.zero_add, pr_set hk hs]
      exact h.procs i x hi
    rw [this, if_pos rfl]
  have hl : nmsL { m with links := m.links.set k l' } = nmsL m := by unfold nmsL; exact map_set_same _ _ _ _ _ hk hs.1
  have e2 : erL { m with links := m.links.set k l' } = (e, ((m.procs.length + (k + 1) : Nat) : Int)) := by
    unfold erL
    rw [hl]
    dsimp only
    rw [fErr_at _ _ 0 k l' (fun i x hi hx => by
      rw [List.getElem?_set_ne (by omega)] at hx
      rw [Nat.zero_add]
      exact h.links i x hx) (List.getElem?_set_self hkl) (by rw [Nat.zero_add]; show lnE m.ver (fstP (nmsP m)) (fstP (nmsL m)) k l' ≠ 0; rw [he]; exact h0)]
    rw [Nat.zero_add]
    show fltP _ (lnE m.ver (fstP (nmsP m)) (fstP (nmsL m)) k l', _) = _
    rw [he]
    unfold fltP
    rw [if_neg h0]
  unfold mdE
  dsimp only
  rw [if_neg (by simp; omega), if_neg (by simp; omega), e1, e2]
  unfold orF
  rw [if_neg (by simp), if_pos (by simpa using fun e => absurd e h0)]
theorem turn_event {m : ModelM} (h : Right m) {k : Nat} {v : EventM} (hk : k < m.events.length) {e : Int} (he : evE (fstP (nmsP m)) v = e) (h0 : e ≠ 0) : mdE { m with events := m.events.set k v } = (e, ((m.procs.length + m.links.length + (k + 1) : Nat) : Int)) := by
  have g1 := h.ver
  have g2 := h.few
  have e1 : erP { m with events := m.events.set k v } = (0, 0) := by
    unfold erP fltP
    dsimp only
    have : (fErr (prE m.ver m.links (fstP (nmsP { m with events := m.events.set k v }))) 0 m.procs).1 = 0 := (fErr_zero _ _ _).2 fun i x hi => by
      rw [Nat.zero_add]
      exact h.procs i x hi
    rw [this, if_pos rfl]
  have e2 : erL { m with events := m.events.set k v } = (0, 0) := by
    unfold erL fltP
    dsimp only
    have : (fErr (lnE m.ver (fstP (nmsP { m with events := m.events.set k v })) (fstP (nmsL { m with events := m.events.set k v }))) 0 m.links).1 = 0 := (fErr_zero _ _ _).2 fun i x hi => by
      rw [Nat.zero_add]
      exact h.links i x hi
    rw [this, if_pos rfl]
  have e3 : erE { m with events := m.events.set k v } = (e, ((m.procs.length + m.links.length + (k + 1) : Nat) : Int)) := by
    unfold erE
    dsimp only
    rw [fErr_at _ _ 0 k v (fun i x hi hx => by
      rw [List.getElem?_set_ne (by omega)] at hx
      exact h.events i x hx) (List.getElem?_set_self hk) (by show evE (fstP (nmsP m)) v ≠ 0; rw [he]; exact h0)]
    rw [Nat.zero_add]
    show fltP _ (evE (fstP (nmsP m)) v, _) = _
    rw [he]
    unfold fltP
    rw [if_neg h0]
  unfold mdE
  dsimp only
  rw [if_neg (by simp; omega), if_neg (by simp; omega), e1, e2, e3]
  unfold orF
  rw [if_neg (by simp), if_neg (by simp)]
theorem ln_delay {ver : Int} {f g : ByteArray → Option Nat} {k : Nat} {l : LinkM} (h : lnE ver f g k l = 0) : lnE ver f g k { l with delay := 0 } = 42 ∧ lnE ver f g k { l with delay := 1, weight := -1 } = 41 := by
  unfold lnE at *
  split at h
  · exact absurd h ‹_›
  · rename_i h1
    rw [if_neg h1, if_neg h1]
    split at h
    · simp at h
    · rename_i h2
      rw [if_neg h2, if_neg h2]
      exact ⟨if_pos (by simp), by rw [if_neg (by simp), if_neg (by unfold wgtB; simp)]⟩
theorem ev_at {m : ModelM} (hr : Right m) {v : EventM} (h : evE (fstP (nmsP m)) v = 0) : evE (fstP (nmsP m)) { v with at_ := -1 } = 23 ∧ evE (fstP (nmsP m)) { v with at_ := -1, to_ := ⟨#[]⟩ } = 4 := by
  constructor
  · unfold evE at *
    split at h
    · simp at h
    · rename_i h1
      rw [if_neg h1, if_pos (by simp)]
  · unfold evE
    dsimp only
    rw [no_empty hr]
    rfl
end Go.Proofs.Ytgnlehenbdcgmaa.Md
