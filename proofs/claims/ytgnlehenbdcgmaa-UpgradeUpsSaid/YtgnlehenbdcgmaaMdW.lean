/- Plain: when a model is right; rows that were gathered. -/
import Derived.Test.YtgnlehenbdcgmaaMdQ
import Derived.Test.YtgnlehenbdcgmaaMdV
set_option linter.unusedVariables false
set_option linter.unusedSectionVars false
set_option linter.unusedSimpArgs false
namespace Go.Proofs.Ytgnlehenbdcgmaa.Md
open Go.RowKit Go.Shelf

theorem fErr_zero {α : Type} (E : Nat → α → Int) : ∀ (L : List α) (k : Nat), (fErr E k L).1 = 0 ↔ ∀ i x, L[i]? = some x → E (k + i) x = 0
  | [], k => by simp [fErr]
  | y :: r, k => by
    have ih := fErr_zero E r (k + 1)
    unfold fErr
    constructor
    · intro h
      by_cases h0 : E k y = 0
      · rw [if_neg (by simpa using h0)] at h
        intro i x hi
        cases i with
        | zero => simp at hi; subst hi; exact h0
        | succ i =>
          have := ih.1 h i x (by simpa using hi)
          rwa [show k + 1 + i = k + (i + 1) by omega] at this
      · rw [if_pos (by simpa using h0)] at h
        exact absurd h h0
    · intro h
      have h0 := h 0 y rfl
      rw [Nat.add_zero] at h0
      rw [if_neg (by simpa using h0)]
      refine ih.2 fun i x hi => ?_
      have := h (i + 1) x (by simpa using hi)
      rwa [show k + (i + 1) = k + 1 + i by omega] at this
/-- A model that is right. -/
structure Right (m : ModelM) : Prop where
  ver : 1 ≤ m.ver ∧ m.ver ≤ 3
  few : m.procs.length ≤ 4096 ∧ m.links.length ≤ 16384 ∧ m.events.length ≤ 16384
  procs : ∀ (i : Nat) (x : ProcM), m.procs[i]? = some x → prE m.ver m.links (fstP (nmsP m)) i x = 0
  links : ∀ (i : Nat) (x : LinkM), m.links[i]? = some x → lnE m.ver (fstP (nmsP m)) (fstP (nmsL m)) i x = 0
  events : ∀ (i : Nat) (x : EventM), m.events[i]? = some x → evE (fstP (nmsP m)) x = 0
theorem right_zero {m : ModelM} (h : Right m) : mdE m = (0, 0) := by
  unfold mdE
  have h1 : (fErr (prE m.ver m.links (fstP (nmsP m))) 0 m.procs).1 = 0 := (fErr_zero _ _ _).2 fun i x hi => by rw [Nat.zero_add]; exact h.procs i x hi
  have h2 : (fErr (lnE m.ver (fstP (nmsP m)) (fstP (nmsL m))) 0 m.links).1 = 0 := (fErr_zero _ _ _).2 fun i x hi => by rw [Nat.zero_add]; exact h.links i x hi
  have h3 : (fErr (fun _ e => evE (fstP (nmsP m)) e) 0 m.events).1 = 0 := (fErr_zero _ _ _).2 fun i x hi => h.events i x hi
  have e1 : erP m = (0, 0) := by unfold erP fltP; rw [h1, if_pos rfl]
  have e2 : erL m = (0, 0) := by unfold erL fltP; rw [h2, if_pos rfl]
  have e3 : erE m = (0, 0) := by unfold erE fltP; rw [h3, if_pos rfl]
  have g1 := h.ver
  have g2 := h.few
  rw [if_neg (by simp; omega), if_neg (by simp; omega), e1, e2, e3]
  rfl
theorem right_of {m : ModelM} (h : (mdE m).1 = 0) : Right m := by
  unfold mdE at h
  by_cases g1 : 1 ≤ m.ver ∧ m.ver ≤ 3
  · rw [if_neg (by simp; omega)] at h
    by_cases g2 : m.procs.length ≤ 4096 ∧ m.links.length ≤ 16384 ∧ m.events.length ≤ 16384
    · rw [if_neg (by simp; omega)] at h
      unfold orF at h
      by_cases k1 : (erP m).1 = 0 ∧ (erP m).2 = 0
      · rw [if_neg (by simpa using k1)] at h
        by_cases k2 : (erL m).1 = 0 ∧ (erL m).2 = 0
        · rw [if_neg (by simpa using k2)] at h
          refine ⟨g1, g2, fun i x hi => ?_, fun i x hi => ?_, fun i x hi => ?_⟩
          · have := (fErr_zero _ _ _).1 (show (fErr (prE m.ver m.links (fstP (nmsP m))) 0 m.procs).1 = 0 from k1.1) i x hi
            rwa [Nat.zero_add] at this
          · have := (fErr_zero _ _ _).1 (show (fErr (lnE m.ver (fstP (nmsP m)) (fstP (nmsL m))) 0 m.links).1 = 0 from k2.1) i x hi
            rwa [Nat.zero_add] at this
          · exact (fErr_zero _ _ _).1 (show (fErr (fun _ e => evE (fstP (nmsP m)) e) 0 m.events).1 = 0 from h) i x hi
        · rw [if_pos k2] at h
          have k3 : (erL m).2 = 0 := by unfold erL fltP at h ⊢; rw [if_pos h]
          exact absurd ⟨h, k3⟩ k2
      · rw [if_pos k1] at h
        have k3 : (erP m).2 = 0 := by unfold erP fltP at h ⊢; rw [if_pos h]
        exact absurd ⟨h, k3⟩ k1
    · rw [if_pos (by simp; omega)] at h
      simp at h
  · rw [if_pos (by simp; omega)] at h
    simp at h
theorem nm_zero {ver : Int} {links : List LinkM} {f : ByteArray → Option Nat} {k : Nat} {p : ProcM} (h : prE ver links f k p = 0) : nmE f p.name k = 0 ∧ wgtB ver p.weight = true ∧ p.vars.length ≤ 64 ∧ p.steps.length ≤ 256 ∧ inE links p = 0 := by
  unfold prE at h
  by_cases h1 : nmE f p.name k = 0
  · rw [if_neg (by simpa using h1)] at h
    by_cases h2 : wgtB ver p.weight = true
    · rw [if_pos h2] at h
      by_cases h3 : p.vars.length ≤ 64 ∧ p.steps.length ≤ 256
      · rw [if_neg (by simp; omega)] at h
        exact ⟨h1, h2, h3.1, h3.2, h⟩
      · rw [if_pos (by simp; omega)] at h
        simp at h
    · rw [if_neg h2] at h
      simp at h
  · rw [if_pos (by simpa using h1)] at h
    exact absurd h h1
theorem pr_zero {ver : Int} {links : List LinkM} {f : ByteArray → Option Nat} {k : Nat} {p : ProcM} (h : nmE f p.name k = 0 ∧ wgtB ver p.weight = true ∧ p.vars.length ≤ 64 ∧ p.steps.length ≤ 256 ∧ inE links p = 0) : prE ver links f k p = 0 := by
  unfold prE
  obtain ⟨h1, h2, h3, h4, h5⟩ := h
  rw [if_neg (by simpa using h1), if_pos h2, if_neg (by simp; omega)]
  exact h5
theorem in_bare {links : List LinkM} {p : ProcM} (h : inE links p = 0) : inE [] { p with steps := [] } = 0 := by
  unfold inE at h ⊢
  split at h
  · rename_i h1
    rw [if_pos (by exact h1)]
    rfl
  · rename_i h1
    exact absurd h h1
theorem wgt_old {ver n : Int} (h : wgtB ver n = true) (hv : ver ≤ 3) : wgtB 1 n = true := by
  unfold wgtB at *
  simp at *
  omega
def bareM (m : ModelM) : ModelM := ⟨m.ver, m.procs.map (fun p => { p with steps := [] }), [], []⟩
theorem right_quiet {m : ModelM} (h : Right m) : mdE { m with events := [] } = (0, 0) :=
  right_zero ⟨h.ver, ⟨h.few.1, h.few.2.1, by simp⟩, h.procs, h.links, fun i x hi => by simp at hi⟩
theorem nms_bare (m : ModelM) : nmsP (bareM m) = nmsP m := by unfold bareM nmsP; simp
theorem right_bare {m : ModelM} (h : Right m) : mdE (bareM m) = (0, 0) := by
  refine right_zero ⟨h.ver, ⟨by unfold bareM; simpa using h.few.1, by simp [bareM], by simp [bareM]⟩, fun i x hi => ?_, fun i x hi => by simp [bareM] at hi, fun i x hi => by simp [bareM] at hi⟩
  rw [nms_bare]
  unfold bareM at hi ⊢
  dsimp only at hi ⊢
  rw [List.getElem?_map] at hi
  cases hp : m.procs[i]? with
  | none => rw [hp] at hi; cases hi
  | some p =>
    rw [hp] at hi
    simp at hi
    subst hi
    obtain ⟨h1, h2, h3, h4, h5⟩ := nm_zero (h.procs i p hp)
    exact pr_zero ⟨h1, h2, h3, by simp, in_bare h5⟩
theorem right_older {m : ModelM} (h : Right m) : mdE { m with ver := 1 } = (0, 0) := by
  refine right_zero ⟨⟨by show (1 : Int) ≤ 1; decide, by show (1 : Int) ≤ 3; decide⟩, h.few, fun i x hi => ?_, fun i x hi => ?_, h.events⟩
  · obtain ⟨h1, h2, h3, h4, h5⟩ := nm_zero (h.procs i x hi)
    exact pr_zero ⟨h1, wgt_old h2 h.ver.2, h3, h4, h5⟩
  · have := h.links i x hi
    show lnE 1 (fstP (nmsP m)) (fstP (nmsL m)) i x = 0
    unfold lnE at this ⊢
    split at this
    · exact absurd this ‹_›
    · rename_i h1
      rw [if_neg h1]
      split at this
      · simp at this
      · rename_i h2
        rw [if_neg h2]
        split at this
        · simp at this
        · rename_i h3
          rw [if_neg h3]
          split at this
          · rename_i h4
            rw [if_pos (wgt_old h4 h.ver.2)]
          · simp at this
/-- What was gathered, as rows. -/
theorem rows_gath {α : Type} {enc : α → List Value} {fit : α → Prop} {sz : Nat} (hsz : ∀ x, (enc x).length = sz) {W : World} {base : Nat} {e : TypeId} {v : Value} {L : List α} (h : Gath W base e sz v L.length (L.flatMap enc)) (hm : L.length ≤ maxLen) (hf : ∀ x ∈ L, fit x) : ∃ a c g, v = .slice a L.length c ∧ RowsAt enc fit sz W.heap.size W a g 0 L.length L := by
  rcases h with ⟨h1, _, ao, rfl⟩ | h
  · exact ⟨ao, 0, 0, by rw [h1], RowsAt.nil h1 (List.eq_nil_of_length_eq_zero h1)⟩
  · rcases h.2 with ⟨rfl, h1⟩ | ⟨g, cap, cur, rfl, hb, hg, hnc, hcm, hcs, htake⟩
    · exact ⟨none, 0, 0, by rw [h1], RowsAt.nil h1 (List.eq_nil_of_length_eq_zero h1)⟩
    · refine ⟨_, cap, g, rfl, .inr rfl, rfl, hm, .inr (heap_lt hg), fun i x hi j u hu => ?_, hf⟩
      have h2 := rows_flat hsz L i x hi j u hu
      have := h.cells (g := g) rfl _ _ h2
      rw [addr_add, Nat.zero_add] at this
      rw [Nat.zero_add]
      exact this
end Go.Proofs.Ytgnlehenbdcgmaa.Md
