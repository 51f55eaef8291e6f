/- Upgrade, plain: one up of a right model is right. -/
import Derived.Test.YtgnlehenbdcgmaaUo
import Derived.Test.YtgnlehenbdcgmaaMdY
set_option linter.unusedVariables false
set_option linter.unusedSectionVars false
set_option linter.unusedSimpArgs false
namespace Go.Proofs.Ytgnlehenbdcgmaa.Md
open Go.RowKit Go.Shelf

theorem tgt_map {f : LinkM → LinkM} (hf : ∀ l, sameL l (f l)) (L : List LinkM) (nm : ByteArray) (g : ByteArray → Option Nat) (s : StepM) : tgtE (L.map f) nm g s = tgtE L nm g s := by
  unfold tgtE
  have e : (L.map f).map (fun y : LinkM => y.name) = L.map (fun y : LinkM => y.name) := by
    rw [List.map_map]
    exact List.map_congr_left (fun l _ => (hf l).1)
  rw [e]
  split
  · rfl
  · split
    · rfl
    · rename_i i hi
      rw [List.getElem?_map]
      cases L[i]? with
      | none => rfl
      | some l => simp only [Option.map_some, (hf l).2.1]
theorem in_map {f : LinkM → LinkM} (hf : ∀ l, sameL l (f l)) (L : List LinkM) (p : ProcM) : inE (L.map f) p = inE L p := by
  unfold inE
  have : (fun (_ : Nat) s => stE (L.map f) p.name (fstP (vNames p)) s) = fun (_ : Nat) s => stE L p.name (fstP (vNames p)) s := by
    funext _ s
    unfold stE
    rw [tgt_map hf]
  rw [this]
theorem same_del (l : LinkM) : sameL l (delL l) := ⟨rfl, rfl, rfl⟩
theorem same_wgh (l : LinkM) : sameL l (wghL l) := ⟨rfl, rfl, rfl⟩
theorem nms_map {f : LinkM → LinkM} (hf : ∀ l, sameL l (f l)) (L : List LinkM) : (L.map f).map (fun y => y.name) = L.map (fun y => y.name) := by
  rw [List.map_map]
  exact List.map_congr_left (fun l _ => (hf l).1)
theorem wgt_2 (n : Int) : wgtB 2 n = wgtB 1 n := by
  unfold wgtB
  simp
theorem wgt_3 {n : Int} (h : wgtB 2 n = true) : wgtB 3 (orW n) = true := by
  unfold wgtB orW at *
  simp only [Bool.or_eq_true, Bool.and_eq_true, decide_eq_true_eq, beq_iff_eq] at h ⊢
  split <;> omega
theorem right_del {m : ModelM} (h : Right m) (hv : m.ver = 1) (h0 : (delE m.links).1 = 0) : Right { m with ver := 2, links := m.links.map delL } := by
  have hp : nmsP { m with ver := 2, links := m.links.map delL } = nmsP m := rfl
  have hl : nmsL { m with ver := 2, links := m.links.map delL } = nmsL m := nms_map same_del m.links
  have h3 := fun i l hi => (fErr_zero _ _ _).1 h0 i l hi
  refine ⟨⟨by show (1 : Int) ≤ 2; decide, by show (2 : Int) ≤ 3; decide⟩, ⟨h.few.1, by simpa using h.few.2.1, h.few.2.2⟩, fun i x hi => ?_, fun i x hi => ?_, h.events⟩
  · have h1 := h.procs i x hi
    rw [hp]
    rw [hv] at h1
    unfold prE at h1 ⊢
    dsimp only
    rw [in_map same_del, wgt_2]
    exact h1
  · dsimp only at hi
    rw [List.getElem?_map] at hi
    cases hl0 : m.links[i]? with
    | none => rw [hl0] at hi; cases hi
    | some l =>
      rw [hl0] at hi
      cases hi
      have h1 := h.links i l hl0
      have h4 := h3 i l hl0
      have h5 : ¬ 1099511627776 < l.delay * 1000 := fun e => by rw [if_pos e] at h4; cases h4
      rw [hp, hl]
      rw [hv] at h1
      unfold lnE at h1 ⊢
      by_cases g1 : nmE (fstP (nmsL m)) l.name i ≠ 0
      · rw [if_pos g1] at h1
        exact absurd h1 g1
      · rw [if_neg g1] at h1
        rw [if_neg (show ¬ nmE (fstP (nmsL m)) (delL l).name i ≠ 0 from g1)]
        by_cases g2 : (!(fstP (nmsP m) l.frm).isSome || !(fstP (nmsP m) l.to_).isSome) = true
        · rw [if_pos g2] at h1
          cases h1
        · rw [if_neg g2] at h1
          rw [if_neg (show ¬ (!(fstP (nmsP m) (delL l).frm).isSome || !(fstP (nmsP m) (delL l).to_).isSome) = true from g2)]
          by_cases g3 : (!(decide (1 ≤ l.delay) && decide (l.delay ≤ 1099511627776))) = true
          · rw [if_pos g3] at h1
            cases h1
          · rw [if_neg g3] at h1
            rw [if_neg (show ¬ (!(decide (1 ≤ (delL l).delay) && decide ((delL l).delay ≤ 1099511627776))) = true from by show ¬ (!(decide (1 ≤ l.delay * 1000) && decide (l.delay * 1000 ≤ 1099511627776))) = true; simp at g3 ⊢; omega)]
            by_cases g4 : wgtB 1 l.weight = true
            · rw [if_pos (show wgtB _ (delL l).weight = true from (wgt_2 l.weight).trans g4)]
            · rw [if_neg g4] at h1
              cases h1
theorem right_wgh {m : ModelM} (h : Right m) (hv : m.ver = 2) : Right (wghM m) := by
  have hp : nmsP (wghM m) = nmsP m := by unfold nmsP wghM; dsimp only; rw [List.map_map]; rfl
  have hl : nmsL (wghM m) = nmsL m := nms_map same_wgh m.links
  refine ⟨⟨by show (1 : Int) ≤ 3; decide, by show (3 : Int) ≤ 3; decide⟩, ⟨by simpa [wghM] using h.few.1, by simpa [wghM] using h.few.2.1, h.few.2.2⟩, fun i x hi => ?_, fun i x hi => ?_, fun i x hi => by rw [hp]; exact h.events i x hi⟩
  · have hi : (m.procs.map wghP)[i]? = some x := hi
    rw [List.getElem?_map] at hi
    cases hp0 : m.procs[i]? with
    | none => rw [hp0] at hi; cases hi
    | some p =>
      rw [hp0] at hi
      cases hi
      have h1 := h.procs i p hp0
      rw [hp]
      rw [hv] at h1
      unfold prE at h1 ⊢
      by_cases g1 : nmE (fstP (nmsP m)) p.name i ≠ 0
      · rw [if_pos g1] at h1
        exact absurd h1 g1
      · rw [if_neg g1] at h1
        rw [if_neg (show ¬ nmE (fstP (nmsP m)) (wghP p).name i ≠ 0 from g1)]
        by_cases g2 : wgtB 2 p.weight = true
        · rw [if_pos g2] at h1
          rw [if_pos (show wgtB (wghM m).ver (wghP p).weight = true from wgt_3 g2)]
          have e : inE (wghM m).links (wghP p) = inE m.links p := (in_map same_wgh m.links (wghP p)).trans rfl
          rw [e]
          exact h1
        · rw [if_neg g2] at h1
          cases h1
  · have hi : (m.links.map wghL)[i]? = some x := hi
    rw [List.getElem?_map] at hi
    cases hl0 : m.links[i]? with
    | none => rw [hl0] at hi; cases hi
    | some l =>
      rw [hl0] at hi
      cases hi
      have h1 := h.links i l hl0
      rw [hp, hl]
      rw [hv] at h1
      unfold lnE at h1 ⊢
      by_cases g1 : nmE (fstP (nmsL m)) l.name i ≠ 0
      · rw [if_pos g1] at h1
        exact absurd h1 g1
      · rw [if_neg g1] at h1
        rw [if_neg (show ¬ nmE (fstP (nmsL m)) (wghL l).name i ≠ 0 from g1)]
        by_cases g2 : (!(fstP (nmsP m) l.frm).isSome || !(fstP (nmsP m) l.to_).isSome) = true
        · rw [if_pos g2] at h1
          cases h1
        · rw [if_neg g2] at h1
          rw [if_neg (show ¬ (!(fstP (nmsP m) (wghL l).frm).isSome || !(fstP (nmsP m) (wghL l).to_).isSome) = true from g2)]
          by_cases g3 : (!(decide (1 ≤ l.delay) && decide (l.delay ≤ 1099511627776))) = true
          · rw [if_pos g3] at h1
            cases h1
          · rw [if_neg g3] at h1
            rw [if_neg (show ¬ (!(decide (1 ≤ (wghL l).delay) && decide ((wghL l).delay ≤ 1099511627776))) = true from g3)]
            by_cases g4 : wgtB 2 l.weight = true
            · rw [if_pos (show wgtB (wghM m).ver (wghL l).weight = true from wgt_3 g4)]
            · rw [if_neg g4] at h1
              cases h1
theorem right_up {m : ModelM} (h : Right m) (h0 : (upR m).2.1 = 0) : Right (upR m).1 ∧ (upR m).1.ver = m.ver + 1 ∧ (upR m).2 = (0, 0) := by
  unfold upR at h0 ⊢
  split at h0
  · rename_i h1
    rw [if_pos h1]
    unfold delR at h0 ⊢
    split at h0
    · rename_i h2
      rw [if_pos h2]
      exact ⟨right_del h h1 h2, by rw [h1]; rfl, rfl⟩
    · simp at h0
  · rename_i h1
    rw [if_neg h1]
    split at h0
    · rename_i h2
      rw [if_pos h2]
      exact ⟨right_wgh h h2, by rw [h2]; rfl, rfl⟩
    · simp at h0
end Go.Proofs.Ytgnlehenbdcgmaa.Md
