/- Plain: a right model with a process more. -/
import Derived.Test.YtgnlehenbdcgmaaMdY
import Derived.Test.YtgnlehenbdcgmaaMdK
set_option linter.unusedVariables false
set_option linter.unusedSectionVars false
set_option linter.unusedSimpArgs false
namespace Go.Proofs.Ytgnlehenbdcgmaa.Md
open Go.RowKit Go.Shelf

def freshN : ByteArray := ⟨#[102, 114, 101, 115, 104, 95, 111, 110, 101]⟩
theorem chk_fresh : Ic.chkE freshN = 0 := by kernel_rfl
def moreM (m : ModelM) (nm : ByteArray) : ModelM := { m with procs := m.procs ++ [⟨nm, 1, [], []⟩] }
theorem nms_more (m : ModelM) (nm : ByteArray) : nmsP (moreM m nm) = nmsP m ++ [nm] := by unfold nmsP moreM; simp
theorem fstP_old {l : List ByteArray} {x : ByteArray} {i : Nat} (y : ByteArray) (h : fstP l x = some i) : fstP (l ++ [y]) x = some i := by rw [fstP_snoc, h]
theorem fstP_mem {x : ByteArray} : ∀ {l : List ByteArray} {i : Nat}, l[i]? = some x → ∃ j, j ≤ i ∧ fstP l x = some j
  | [], i, h => by simp at h
  | y :: r, i, h => by
    unfold fstP
    by_cases e : y = x
    · exact ⟨0, Nat.zero_le _, by rw [if_pos e]⟩
    · cases i with
      | zero => exact absurd (by simpa using h) e
      | succ i =>
        obtain ⟨j, hj, h2⟩ := fstP_mem (l := r) (i := i) (by simpa using h)
        exact ⟨j + 1, by omega, by rw [if_neg e, h2]; rfl⟩
theorem nm_at {m : ModelM} {i : Nat} {p : ProcM} (hp : m.procs[i]? = some p) : (nmsP m)[i]? = some p.name := by unfold nmsP; rw [List.getElem?_map, hp]; rfl
theorem nm_first {m : ModelM} (h : Right m) {i : Nat} {p : ProcM} (hp : m.procs[i]? = some p) : fstP (nmsP m) p.name = some i := by
  obtain ⟨j, hj, h2⟩ := fstP_mem (nm_at hp)
  have h3 := (nm_zero (h.procs i p hp)).1
  unfold nmE at h3
  rw [h2] at h3
  split at h3
  · exact absurd h3 ‹_›
  · by_cases e : j < i
    · rw [if_pos (by simpa using e)] at h3
      cases h3
    · rw [h2, show j = i by omega]
theorem some_old {l : List ByteArray} {x : ByteArray} (y : ByteArray) (h : (fstP l x).isSome = true) : (fstP (l ++ [y]) x).isSome = true := by
  obtain ⟨i, hi⟩ := Option.isSome_iff_exists.1 h
  rw [fstP_old y hi]
  rfl
theorem pr_more {m : ModelM} (h : Right m) (nm : ByteArray) {i : Nat} {p : ProcM} (hp : m.procs[i]? = some p) : prE m.ver m.links (fstP (nmsP m ++ [nm])) i p = 0 := by
  obtain ⟨h1, h2, h3, h4, h5⟩ := nm_zero (h.procs i p hp)
  refine pr_zero ⟨?_, h2, h3, h4, h5⟩
  have hf := nm_first h hp
  unfold nmE at h1 ⊢
  rw [hf] at h1
  rw [fstP_old nm hf]
  exact h1
theorem wgt1 (ver : Int) : wgtB ver 1 = true := by unfold wgtB; simp
theorem more_fresh {m : ModelM} (h : Right m) {nm : ByteArray} (hn : fstP (nmsP m) nm = none) (hc : Ic.chkE nm = 0) (hs : m.procs.length + 1 ≤ 4096) : mdE (moreM m nm) = (0, 0) := by
  have hf : fstP (nmsP m ++ [nm]) nm = some m.procs.length := by
    rw [fstP_snoc, hn]
    dsimp only
    rw [if_pos rfl]
    unfold nmsP
    rw [List.length_map]
  refine right_zero ⟨h.ver, ⟨by unfold moreM; rw [List.length_append]; exact hs, h.few.2.1, h.few.2.2⟩, fun i p hp => ?_, fun i l hl => ?_, fun i e he => ?_⟩
  · rw [nms_more]
    show prE m.ver m.links (fstP (nmsP m ++ [nm])) i p = 0
    unfold moreM at hp
    dsimp only at hp
    by_cases hi : i < m.procs.length
    · rw [List.getElem?_append_left hi] at hp
      exact pr_more h nm hp
    · rw [List.getElem?_append_right (by omega)] at hp
      obtain ⟨h1, h2⟩ := List.getElem?_eq_some_iff.1 hp
      rw [List.length_singleton] at h1
      have hi2 : i = m.procs.length := by omega
      subst hi2
      simp at h2
      subst h2
      refine pr_zero ⟨?_, wgt1 _, by simp, by simp, rfl⟩
      unfold nmE
      dsimp only
      rw [hf, if_neg (by simpa using hc), if_neg (by simp)]
  · have := h.links i l hl
    rw [nms_more]
    show lnE m.ver (fstP (nmsP m ++ [nm])) (fstP (nmsL m)) i l = 0
    unfold lnE at this ⊢
    split at this
    · exact absurd this ‹_›
    · rename_i h1
      rw [if_neg h1]
      split at this
      · simp at this
      · rename_i h2
        rw [if_neg (by
          simp only [Bool.or_eq_true, Bool.not_eq_true', not_or, Bool.not_eq_false] at h2 ⊢
          exact ⟨some_old nm h2.1, some_old nm h2.2⟩)]
        exact this
  · have := h.events i e he
    rw [nms_more]
    unfold evE at this ⊢
    split at this
    · simp at this
    · rename_i h1
      rw [if_neg (by
        simp only [Bool.not_eq_true', Bool.not_eq_false] at h1 ⊢
        exact some_old nm h1)]
      exact this
theorem more_dup {m : ModelM} (h : Right m) {nm : ByteArray} {j : Nat} (hn : fstP (nmsP m) nm = some j) (hc : Ic.chkE nm = 0) (hs : m.procs.length + 1 ≤ 4096) : mdE (moreM m nm) = (5, ((m.procs.length + 1 : Nat) : Int)) := by
  have hj : j < m.procs.length := by
    have := fstP_lt hn
    unfold nmsP at this
    rwa [List.length_map] at this
  have g1 := h.ver
  have g2 := h.few
  have hpr : prE m.ver m.links (fstP (nmsP m ++ [nm])) m.procs.length ⟨nm, 1, [], []⟩ = 5 := by
    unfold prE
    dsimp only
    have : nmE (fstP (nmsP m ++ [nm])) nm m.procs.length = 5 := by
      unfold nmE
      rw [fstP_old nm hn, if_neg (by simpa using hc), if_pos (by simpa using hj)]
    rw [this, if_pos (by decide)]
  have e1 : erP (moreM m nm) = (5, ((m.procs.length + 1 : Nat) : Int)) := by
    unfold erP
    rw [nms_more]
    unfold moreM
    dsimp only
    rw [fErr_at _ _ 0 m.procs.length ⟨nm, 1, [], []⟩ (fun i p hi hp => by
      rw [List.getElem?_append_left hi] at hp
      rw [Nat.zero_add]
      exact pr_more h nm hp) (by rw [List.getElem?_append_right (Nat.le_refl _)]; simp) (by rw [Nat.zero_add, hpr]; decide), Nat.zero_add, hpr]
    unfold fltP
    rw [if_neg (show ¬ (5 : Int) = 0 by decide), Nat.zero_add]
  unfold mdE
  rw [e1]
  unfold moreM
  dsimp only
  rw [if_neg (by simp; omega), if_neg (by rw [List.length_append]; simp; omega)]
  rfl
theorem plc_neg {l : List ByteArray} {y : ByteArray} (h : fstP l y = none) : plcI l y = -1 := by unfold plcI; rw [h]
theorem plc_pos {l : List ByteArray} {y : ByteArray} {i : Nat} (h : fstP l y = some i) : plcI l y = (i : Int) := by unfold plcI; rw [h]
theorem name_ok {m : ModelM} (h : Right m) {i : Nat} {p : ProcM} (hp : m.procs[i]? = some p) : Ic.chkE p.name = 0 := by
  have h3 := (nm_zero (h.procs i p hp)).1
  unfold nmE at h3
  split at h3
  · exact h3
  · rename_i h1
    simpa using h1
end Go.Proofs.Ytgnlehenbdcgmaa.Md
