/- Plain: what was sorted rises; sorted again it stays; in whichever order it stood. No program in this text. Plain: a model laid down is laid down; it is right just if the model is; in whichever order its declarations stand it is the same. -/
import Derived.Test.YtjcmeacgfflfmaaGreatHj
import Derived.Test.YtjcmeacgfflfmaaGreatCna
import Derived.Test.YtjcmeacgfflfmaaGreatMdW
import Derived.Laws.BitsLemmas
import Derived.IntWalk
set_option linter.unusedVariables false
set_option linter.unusedSectionVars false
set_option linter.unusedSimpArgs false
namespace Go.Proofs.YtjcmeacgfflfmaaGreat.Hg
section
variable {X : Type} [Inhabited X]
def Asc (kf : Ord X) (row : List X) : Prop := row.Pairwise (fun a b => kf.lt b a = false)
variable {kf : Ord X}
theorem top_low {row : List X} (h : row.length ≠ 0) : ∀ y ∈ row, kf.lt y (top kf row) = false := by
  intro y hy
  have hf := first_is (kf := kf) (row := row) (by intro e; subst e; exact h rfl)
  obtain ⟨i, hi, rfl⟩ := List.mem_iff_getElem.1 hy
  have e : row[i] = row.getD i default := by rw [List.getD_eq_getElem?_getD, List.getElem?_eq_getElem hi]; rfl
  rw [e]
  unfold top
  by_cases c : i < first kf row
  · exact kf.asymm _ _ (hf.ahead i c)
  · exact hf.behind i (by omega) hi
theorem srt_asc : ∀ (n : Nat) (row : List X), row.length = n → Asc kf (srt kf row)
  | 0, row, h => by rw [nil_of h]; exact List.Pairwise.nil
  | n + 1, row, h => by
    rw [srt_succ row (by omega)]
    refine List.pairwise_cons.2 ⟨fun y hy => top_low (by omega) y ?_, srt_asc n _ (by rw [rest_length (by omega)]; omega)⟩
    have := srt_mem hy
    unfold rest at this
    exact List.mem_of_mem_eraseIdx this
theorem first_asc {a : X} {r : List X} (h : Asc kf (a :: r)) : first kf (a :: r) = 0 := by
  refine (first_is (by simp)).uniq ⟨by simp, fun i hi => by omega, fun i _ hi => ?_⟩
  cases i with
  | zero => exact kf.irr _
  | succ i =>
    have hi' : i < r.length := by simpa using hi
    have := (List.pairwise_cons.1 h).1 r[i] (List.getElem_mem hi')
    simpa [List.getD_eq_getElem?_getD, hi'] using this
theorem srt_self : ∀ (row : List X), Asc kf row → srt kf row = row
  | [], _ => rfl
  | a :: r, h => by
    have h0 := first_asc h
    rw [srt_succ _ (by simp)]
    unfold top rest
    rw [h0]
    show a :: srt kf r = a :: r
    rw [srt_self r (List.pairwise_cons.1 h).2]
theorem srt_idem (row : List X) : srt kf (srt kf row) = srt kf row := srt_self _ (srt_asc _ _ rfl)
theorem srt_of_perm {row row' : List X} (hp : row.Perm row') (hu : ∀ a b, a ∈ row → b ∈ row → kf.lt a b = false → kf.lt b a = false → a = b) : srt kf row = srt kf row' :=
  List.Perm.eq_of_pairwise (le := fun a b => kf.lt b a = false) (fun a b ha hb h1 h2 => hu a b (srt_mem ha) (hp.symm.subset (srt_mem hb)) h2 h1) (srt_asc _ _ rfl) (srt_asc _ _ rfl) ((srt_perm row).trans (hp.trans (srt_perm row').symm))
end
end Go.Proofs.YtjcmeacgfflfmaaGreat.Hg

namespace Go.Proofs.YtjcmeacgfflfmaaGreat.Hk
open Go.Proofs.YtjcmeacgfflfmaaGreat.Md

theorem canP_idem (p : ProcM) : canP (canP p) = canP p := by unfold canP; simp only [Hg.srt_idem]
theorem canP_def : canP default = default := rfl
theorem canM_idem (m : ModelM) : canM (canM m) = canM m := by
  unfold canM
  simp only [Hg.srt_idem]
  rw [Hg.srt_map (kx := ordPM) (ky := ordPM) (f := canP) canP_def (fun _ _ => rfl), Hg.srt_idem, List.map_map]
  congr 1
  refine List.map_congr_left fun p _ => ?_
  exact canP_idem p

/- Names, each once. -/
theorem fstP_has {x : ByteArray} : ∀ {l : List ByteArray}, x ∈ l → ∃ i, fstP l x = some i
  | y :: r, h => by
    by_cases c : y = x
    · exact ⟨0, by unfold fstP; rw [if_pos c]⟩
    · rcases List.mem_cons.1 h with e | e
      · exact absurd e.symm c
      · obtain ⟨i, hi⟩ := fstP_has e
        exact ⟨i + 1, by unfold fstP; rw [if_neg c, hi]; rfl⟩
theorem fstP_at {x : ByteArray} : ∀ {l : List ByteArray} {i : Nat}, fstP l x = some i → l[i]? = some x
  | y :: r, i, h => by
    unfold fstP at h
    by_cases c : y = x
    · rw [if_pos c] at h
      cases h
      rw [c]; rfl
    · rw [if_neg c] at h
      cases hr : fstP r x with
      | none => rw [hr] at h; cases h
      | some j => rw [hr] at h; cases h; have e := fstP_at hr; simpa using e
theorem fstP_le {x : ByteArray} : ∀ {l : List ByteArray} {i : Nat}, l[i]? = some x → ∃ j, j ≤ i ∧ fstP l x = some j
  | y :: r, i, h => by
    by_cases c : y = x
    · exact ⟨0, by omega, by unfold fstP; rw [if_pos c]⟩
    · cases i with
      | zero => simp at h; exact absurd h c
      | succ i =>
        obtain ⟨j, h1, h2⟩ := fstP_le (l := r) (i := i) (by simpa using h)
        exact ⟨j + 1, by omega, by unfold fstP; rw [if_neg c, h2]; rfl⟩
theorem fst_some (l : List ByteArray) (x : ByteArray) : (fstP l x).isSome = true ↔ x ∈ l := by
  constructor
  · intro h
    obtain ⟨i, hi⟩ := Option.isSome_iff_exists.1 h
    exact List.mem_of_getElem? (fstP_at hi)
  · intro h
    obtain ⟨i, hi⟩ := fstP_has h
    rw [hi]; rfl
theorem fst_perm {l l' : List ByteArray} (h : l.Perm l') (x : ByteArray) : (fstP l x).isSome = (fstP l' x).isSome := by
  rw [Bool.eq_iff_iff, fst_some, fst_some]
  exact h.mem_iff
theorem nodup_at {l : List ByteArray} (h : l.Nodup) {i j : Nat} {x : ByteArray} (hi : l[i]? = some x) (hj : l[j]? = some x) : i = j := by
  obtain ⟨a1, a2⟩ := List.getElem?_eq_some_iff.1 hi
  obtain ⟨b1, b2⟩ := List.getElem?_eq_some_iff.1 hj
  rcases Nat.lt_trichotomy i j with c | c | c
  · exact absurd (a2.trans b2.symm) (List.pairwise_iff_getElem.1 h i j a1 b1 c)
  · exact c
  · exact absurd (b2.trans a2.symm) (List.pairwise_iff_getElem.1 h j i b1 a1 c)
theorem nodup_first {l : List ByteArray} (h : l.Nodup) {i : Nat} {x : ByteArray} (hi : l[i]? = some x) : fstP l x = some i := by
  obtain ⟨j, h1, h2⟩ := fstP_le hi
  rw [h2, nodup_at h hi (fstP_at h2)]
theorem nodup_of {l : List ByteArray} (h : ∀ i x, l[i]? = some x → ¬ (fstP l x).getD 0 < i) : l.Nodup := by
  refine List.pairwise_iff_getElem.2 fun i j hi hj c e => ?_
  obtain ⟨k, h1, h2⟩ := fstP_le (l := l) (i := i) (List.getElem?_eq_getElem hi)
  rw [e] at h2
  refine h j _ (List.getElem?_eq_getElem hj) ?_
  rw [h2]
  show k < j
  omega
theorem same_of {X : Type} {f : X → ByteArray} {L : List X} (h : (L.map f).Nodup) {a b : X} (ha : a ∈ L) (hb : b ∈ L) (e : f a = f b) : a = b := by
  obtain ⟨i, hi⟩ := List.mem_iff_getElem?.1 ha
  obtain ⟨j, hj⟩ := List.mem_iff_getElem?.1 hb
  have := nodup_at h (i := i) (j := j) (x := f a) (by rw [List.getElem?_map, hi]; rfl) (by rw [List.getElem?_map, hj, e]; rfl)
  subst this
  rw [hi] at hj
  exact Option.some.inj hj
theorem nm_parts {f : ByteArray → Option Nat} {x : ByteArray} {k : Nat} : nmE f x k = 0 ↔ Ic.chkE x = 0 ∧ ¬ (f x).getD 0 < k := by
  unfold nmE
  by_cases h1 : Ic.chkE x = 0
  · rw [if_neg (by simpa using h1)]
    by_cases h2 : (f x).getD 0 < k
    · rw [if_pos h2]; exact ⟨fun e => absurd e (by decide), fun e => absurd h2 e.2⟩
    · rw [if_neg h2]; exact ⟨fun _ => ⟨h1, h2⟩, fun _ => rfl⟩
  · rw [if_pos h1]; exact ⟨fun e => absurd e h1, fun e => absurd e.1 h1⟩
theorem nm_nodup {l : List ByteArray} (h : l.Nodup) {i : Nat} {x : ByteArray} (hi : l[i]? = some x) (hc : Ic.chkE x = 0) : nmE (fstP l) x i = 0 := by
  rw [nm_parts, nodup_first h hi]
  exact ⟨hc, by show ¬ i < i; omega⟩

/- What a step asks hangs on which names there are alone. -/
theorem arg_same {f f' : ByteArray → Option Nat} (h : ∀ y, (f y).isSome = (f' y).isSome) (s : StepM) : argE f s = argE f' s := by
  unfold argE thereE
  rw [h]
theorem tgt_zero {links : List LinkM} (hn : (links.map (·.name)).Nodup) (nm : ByteArray) (f : ByteArray → Option Nat) (s : StepM) (hk : (s.kind != 4) = false) : tgtE links nm f s = 0 ↔ ∃ l ∈ links, l.name = s.name ∧ (l.frm.toList == nm.toList) = true := by
  unfold tgtE
  rw [if_neg (by rw [hk]; decide)]
  cases hf : fstP (links.map (·.name)) s.name with
  | none =>
    refine ⟨fun e => absurd (show (4 : Int) = 0 from e) (by decide), fun ⟨l, hl, e, _⟩ => ?_⟩
    obtain ⟨i, hi⟩ := fstP_has (x := s.name) (l := links.map (·.name)) (List.mem_map.2 ⟨l, hl, e⟩)
    rw [hf] at hi; cases hi
  | some i =>
    have h1 := fstP_at hf
    rw [List.getElem?_map] at h1
    show (match links[i]? with
      | some l => if l.frm.toList == nm.toList then (0 : Int) else 47
      | none => 0) = 0 ↔ _
    cases hl : links[i]? with
    | none => rw [hl] at h1; cases h1
    | some l =>
      rw [hl] at h1
      have h2 : l.name = s.name := by simpa using h1
      have hm := List.mem_of_getElem? hl
      show (if (l.frm.toList == nm.toList) = true then (0 : Int) else 47) = 0 ↔ _
      constructor
      · intro e
        by_cases c : (l.frm.toList == nm.toList) = true
        · exact ⟨l, hm, h2, c⟩
        · rw [if_neg c] at e; exact absurd e (by decide)
      · rintro ⟨l', hl', e, c⟩
        obtain rfl := same_of hn hm hl' (h2.trans e.symm)
        rw [if_pos c]
theorem st_zero {links links' : List LinkM} (hn : (links.map (·.name)).Nodup) (hp : links.Perm links') {f f' : ByteArray → Option Nat} (h : ∀ y, (f y).isSome = (f' y).isSome) (nm : ByteArray) {s : StepM} (hs : stE links nm f s = 0) : stE links' nm f' s = 0 := by
  have hn' : (links'.map (·.name)).Nodup := (hp.map _).nodup_iff.1 hn
  have ht : tgtE links nm f s = 0 → tgtE links' nm f' s = 0 := by
    intro e
    cases hk : (s.kind != 4) with
    | true =>
      unfold tgtE thereE at *
      rw [if_pos hk] at *
      rw [← h]
      exact e
    | false =>
      rw [tgt_zero hn' _ _ _ hk]
      obtain ⟨l, h1, h2⟩ := (tgt_zero hn _ _ _ hk).1 e
      exact ⟨l, hp.subset h1, h2⟩
  unfold stE at *
  split at hs
  · exact absurd hs (by decide)
  · rename_i h0
    rw [if_neg h0]
    by_cases c : tgtE links nm f s = 0
    · rw [if_pos c] at hs
      rw [if_pos (ht c), ← arg_same h]
      exact hs
    · rw [if_neg c] at hs
      exact absurd hs c
theorem steps_zero {links links' : List LinkM} (hn : (links.map (·.name)).Nodup) (hp : links.Perm links') {f f' : ByteArray → Option Nat} (h : ∀ y, (f y).isSome = (f' y).isSome) (nm : ByteArray) {L : List StepM} (hs : (fErr (fun _ s => stE links nm f s) 0 L).1 = 0) : (fErr (fun _ s => stE links' nm f' s) 0 L).1 = 0 :=
  (fErr_zero _ _ _).2 fun i x hi => st_zero hn hp h nm ((fErr_zero _ _ _).1 hs i x hi)
theorem var_parts {f : ByteArray → Option Nat} {k : Nat} {v : VarM} : varE f k v = 0 ↔ (v.name.toList == [118, 97, 108, 117, 101]) = false ∧ nmE f v.name k = 0 ∧ numB v.init = true := by
  unfold varE
  cases h1 : (v.name.toList == [118, 97, 108, 117, 101]) with
  | true => rw [if_pos rfl]; exact ⟨fun e => absurd e (by decide), fun e => absurd e.1 (by decide)⟩
  | false =>
    rw [if_neg (by decide)]
    by_cases h2 : nmE f v.name k = 0
    · rw [if_neg (by simpa using h2)]
      cases h3 : numB v.init with
      | true => exact ⟨fun _ => ⟨rfl, h2, rfl⟩, fun _ => rfl⟩
      | false => exact ⟨fun e => absurd e (by decide), fun e => absurd e.2.2 (by decide)⟩
    · rw [if_pos h2]; exact ⟨fun e => absurd e h2, fun e => absurd e.2.1 h2⟩
theorem vars_nodup {p : ProcM} (h : (fErr (varE (fstP (vNames p))) 0 p.vars).1 = 0) : (vNames p).Nodup := by
  refine nodup_of fun i x hi => ?_
  unfold vNames at hi
  rw [List.getElem?_map] at hi
  cases hv : p.vars[i]? with
  | none => rw [hv] at hi; cases hi
  | some v =>
    rw [hv] at hi
    obtain rfl : v.name = x := by simpa using hi
    have := (fErr_zero _ _ _).1 h i v hv
    rw [Nat.zero_add] at this
    exact (nm_parts.1 (var_parts.1 this).2.1).2
theorem vars_perm {p q : ProcM} (hp : p.vars.Perm q.vars) (h : (fErr (varE (fstP (vNames p))) 0 p.vars).1 = 0) : (fErr (varE (fstP (vNames q))) 0 q.vars).1 = 0 := by
  have hd := vars_nodup h
  have hd' : (vNames q).Nodup := (hp.map _).nodup_iff.1 hd
  refine (fErr_zero _ _ _).2 fun i v hi => ?_
  rw [Nat.zero_add]
  obtain ⟨j, hj⟩ := List.mem_iff_getElem?.1 (hp.symm.subset (List.mem_of_getElem? hi))
  have h1 := (fErr_zero _ _ _).1 h j v hj
  rw [Nat.zero_add] at h1
  obtain ⟨a, b, c⟩ := var_parts.1 h1
  exact var_parts.2 ⟨a, nm_nodup hd' (by unfold vNames; rw [List.getElem?_map, hi]; rfl) (nm_parts.1 b).1, c⟩
theorem in_parts {links : List LinkM} {p : ProcM} : inE links p = 0 ↔ (fErr (varE (fstP (vNames p))) 0 p.vars).1 = 0 ∧ (fErr (fun _ s => stE links p.name (fstP (vNames p)) s) 0 p.steps).1 = 0 := by
  unfold inE
  by_cases h : (fErr (varE (fstP (vNames p))) 0 p.vars).1 = 0
  · rw [if_pos h]; exact ⟨fun e => ⟨h, e⟩, fun e => e.2⟩
  · rw [if_neg h]; exact ⟨fun e => absurd e h, fun e => absurd e.1 h⟩
theorem in_perm {links links' : List LinkM} (hn : (links.map (·.name)).Nodup) (hl : links.Perm links') {p q : ProcM} (h1 : p.name = q.name) (h2 : p.vars.Perm q.vars) (h3 : p.steps = q.steps) (h : inE links p = 0) : inE links' q = 0 := by
  obtain ⟨a, b⟩ := in_parts.1 h
  refine in_parts.2 ⟨vars_perm h2 a, ?_⟩
  rw [← h1, ← h3]
  exact steps_zero hn hl (fun y => fst_perm (h2.map _) y) _ b
theorem ln_parts {ver : Int} {pf lf : ByteArray → Option Nat} {k : Nat} {l : LinkM} : lnE ver pf lf k l = 0 ↔ nmE lf l.name k = 0 ∧ ((!(pf l.frm).isSome || !(pf l.to_).isSome) = false) ∧ ((!(decide (1 ≤ l.delay) && decide (l.delay ≤ 1099511627776))) = false) ∧ wgtB ver l.weight = true := by
  unfold lnE
  by_cases h1 : nmE lf l.name k = 0
  · rw [if_neg (by simpa using h1)]
    cases h2 : (!(pf l.frm).isSome || !(pf l.to_).isSome) with
    | true => rw [if_pos rfl]; exact ⟨fun e => absurd e (by decide), fun e => absurd e.2.1 (by decide)⟩
    | false =>
      rw [if_neg (by decide)]
      cases h3 : (!(decide (1 ≤ l.delay) && decide (l.delay ≤ 1099511627776))) with
      | true => rw [if_pos rfl]; exact ⟨fun e => absurd e (by decide), fun e => absurd e.2.2.1 (by decide)⟩
      | false =>
        rw [if_neg (by decide)]
        cases h4 : wgtB ver l.weight with
        | true => exact ⟨fun _ => ⟨h1, rfl, rfl, rfl⟩, fun _ => rfl⟩
        | false => exact ⟨fun e => absurd e (by decide), fun e => absurd e.2.2.2 (by decide)⟩
  · rw [if_pos h1]; exact ⟨fun e => absurd e h1, fun e => absurd e.1 h1⟩
theorem procs_nodup {m : ModelM} (h : Right m) : (nmsP m).Nodup := by
  refine nodup_of fun i x hi => ?_
  unfold nmsP at hi
  rw [List.getElem?_map] at hi
  cases hv : m.procs[i]? with
  | none => rw [hv] at hi; cases hi
  | some v =>
    rw [hv] at hi
    obtain rfl : v.name = x := by simpa using hi
    exact (nm_parts.1 (nm_zero (h.procs i v hv)).1).2
theorem links_nodup {m : ModelM} (h : Right m) : (nmsL m).Nodup := by
  refine nodup_of fun i x hi => ?_
  unfold nmsL at hi
  rw [List.getElem?_map] at hi
  cases hv : m.links[i]? with
  | none => rw [hv] at hi; cases hi
  | some v =>
    rw [hv] at hi
    obtain rfl : v.name = x := by simpa using hi
    exact (nm_parts.1 (ln_parts.1 (h.links i v hv)).1).2
/-- One process of another's name, weight, steps, and variables in another order. -/
structure Alike (p q : ProcM) : Prop where
  name : p.name = q.name
  weight : p.weight = q.weight
  vars : p.vars.Perm q.vars
  steps : p.steps = q.steps
theorem Alike.symm {p q : ProcM} (h : Alike p q) : Alike q p := ⟨h.name.symm, h.weight.symm, h.vars.symm, h.steps.symm⟩
theorem alike_can (p : ProcM) : Alike p (canP p) := ⟨rfl, rfl, (Hg.srt_perm _).symm, rfl⟩
/-- A right model, in another order. -/
theorem right_perm {m m' : ModelM} (h : Right m) (hv : m.ver = m'.ver) (hp : (nmsP m).Perm (nmsP m')) (hq : ∀ q ∈ m'.procs, ∃ p ∈ m.procs, Alike p q) (hl : m.links.Perm m'.links) (he : m.events.Perm m'.events) : Right m' := by
  have n1 := procs_nodup h
  have n1' := hp.nodup_iff.1 n1
  have n2 : (m.links.map (·.name)).Nodup := links_nodup h
  have n2' : (nmsL m').Nodup := (hl.map _).nodup_iff.1 n2
  refine ⟨hv ▸ h.ver, ?_, fun i x hi => ?_, fun i x hi => ?_, fun i x hi => ?_⟩
  · have := h.few
    have e := hp.length_eq
    unfold nmsP at e
    rw [List.length_map, List.length_map] at e
    rw [← e, ← hl.length_eq, ← he.length_eq]
    exact this
  · obtain ⟨p, h1, h2⟩ := hq x (List.mem_of_getElem? hi)
    obtain ⟨j, hj⟩ := List.mem_iff_getElem?.1 h1
    obtain ⟨a, b, c, d, e⟩ := nm_zero (h.procs j p hj)
    refine pr_zero ⟨nm_nodup n1' (by unfold nmsP; rw [List.getElem?_map, hi]; rfl) (by rw [← h2.name]; exact (nm_parts.1 a).1), ?_, ?_, ?_, in_perm n2 hl h2.name h2.vars h2.steps e⟩
    · rw [← hv, ← h2.weight]; exact b
    · rw [← h2.vars.length_eq]; exact c
    · rw [← h2.steps]; exact d
  · obtain ⟨j, hj⟩ := List.mem_iff_getElem?.1 (hl.symm.subset (List.mem_of_getElem? hi))
    obtain ⟨a, b, c, d⟩ := ln_parts.1 (h.links j x hj)
    refine ln_parts.2 ⟨nm_nodup n2' (by unfold nmsL; rw [List.getElem?_map, hi]; rfl) (nm_parts.1 a).1, ?_, c, ?_⟩
    · rw [← fst_perm hp, ← fst_perm hp]; exact b
    · rw [← hv]; exact d
  · obtain ⟨j, hj⟩ := List.mem_iff_getElem?.1 (he.symm.subset (List.mem_of_getElem? hi))
    have := h.events j x hj
    unfold evE at *
    rw [← fst_perm hp]
    exact this
theorem can_names (m : ModelM) : (nmsP (canM m)).Perm (nmsP m) := by
  unfold nmsP canM
  rw [List.map_map]
  exact (Hg.srt_perm _).map _
theorem right_can {m : ModelM} (h : Right m) : Right (canM m) := by
  refine right_perm h rfl (can_names m).symm (fun q hq => ?_) (Hg.srt_perm _).symm (Hg.srt_perm _).symm
  obtain ⟨p, h1, rfl⟩ := List.mem_map.1 hq
  exact ⟨p, Hg.srt_mem h1, alike_can p⟩
theorem can_right {m : ModelM} (h : Right (canM m)) : Right m := by
  refine right_perm h rfl (can_names m) (fun q hq => ?_) (Hg.srt_perm _) (Hg.srt_perm _)
  exact ⟨canP q, List.mem_map.2 ⟨q, (Hg.srt_perm (kf := ordPM) m.procs).symm.subset hq, rfl⟩, (alike_can q).symm⟩
theorem can_zero (m : ModelM) : (mdE m).1 = 0 ↔ (mdE (canM m)).1 = 0 := by
  constructor
  · intro h; rw [right_zero (right_can (right_of h))]
  · intro h; rw [right_zero (can_right (right_of h))]
theorem bl_name {x y : ByteArray} (h : Op.bytesLess x.toList y.toList = false) (k : Op.bytesLess y.toList x.toList = false) : x = y := bl_eq h k
theorem ev_eq {a b : EventM} (h : evLt a b = false) (k : evLt b a = false) : a = b := by
  unfold evLt at *
  by_cases h1 : a.at_ = b.at_
  · rw [if_pos h1] at h
    rw [if_pos h1.symm] at k
    by_cases h2 : a.to_ = b.to_
    · rw [if_pos h2] at h
      rw [if_pos h2.symm] at k
      simp at h k
      obtain ⟨a1, a2, a3⟩ := a
      obtain ⟨b1, b2, b3⟩ := b
      dsimp only at h1 h2 h k
      subst h1 h2
      rw [show a3 = b3 by omega]
    · rw [if_neg h2] at h
      rw [if_neg (fun e => h2 e.symm)] at k
      exact absurd (bl_eq h k) h2
  · rw [if_neg h1] at h
    rw [if_neg (fun e => h1 e.symm)] at k
    simp at h k
    omega
/-- A right model, in whichever order its declarations stand, is laid down as the same. -/
theorem can_perm {m m' : ModelM} (h : Right m) (hv : m'.ver = m.ver) (hp : m.procs.Perm m'.procs) (hl : m.links.Perm m'.links) (he : m.events.Perm m'.events) : canM m' = canM m := by
  have n1 : (m.procs.map (fun y => y.name)).Nodup := procs_nodup h
  have n2 : (m.links.map (fun y => y.name)).Nodup := links_nodup h
  unfold canM
  rw [hv, Hg.srt_of_perm (kf := ordPM) hp (fun a b ha hb h1 h2 => same_of n1 ha hb (bl_eq h1 h2)),
    Hg.srt_of_perm (kf := HeL.ord) hl (fun a b ha hb h1 h2 => same_of n2 ha hb (bl_eq h1 h2)),
    Hg.srt_of_perm (kf := HeE.ord) he (fun a b ha hb h1 h2 => ev_eq h1 h2)]
/-- Names that were sorted, each once, rise. -/
theorem asc_names {X : Type} [Inhabited X] {f : X → ByteArray} {kf : Hg.Ord X} (hk : ∀ a b, kf.lt a b = Op.bytesLess (f a).toList (f b).toList) {L : List X} (hn : (L.map f).Nodup) (ha : Hg.Asc kf L) : (L.map f).Pairwise (fun x y => Op.bytesLess x.toList y.toList = true) := by
  refine List.pairwise_iff_getElem.2 fun i j hi hj c => ?_
  have h1 := List.pairwise_iff_getElem.1 hn i j hi hj c
  rw [List.length_map] at hi hj
  have h2 := List.pairwise_iff_getElem.1 ha i j hi hj c
  rw [List.getElem_map, List.getElem_map] at h1 ⊢
  rw [hk] at h2
  cases h3 : Op.bytesLess (f L[i]).toList (f L[j]).toList with
  | true => rfl
  | false => exact absurd (bl_eq h3 h2) h1
end Go.Proofs.YtjcmeacgfflfmaaGreat.Hk
namespace Go.Proofs.YtjcmeacgfflfmaaGreat.Hk
open Go.RowKit Go.Shelf Go.Proofs.YtjcmeacgfflfmaaGreat.Md

theorem ofInt_wrap (n : Int) : BitVec.ofInt 64 (IntKind.i64.wrap n) = BitVec.ofInt 64 n := by
  apply BitVec.eq_of_toInt_eq
  rw [BitVec.toInt_ofInt, BitVec.toInt_ofInt, IntKind.wrap_i64]
  simp only [Int.bmod_def]
  split <;> split <;> omega
theorem xor_ne {a t : Int} (ht : (Lit.int .i64 t).wf = true) (h0 : t ≠ 0) : bits .xor .i64 a t ≠ a := by
  intro e
  have h1 : bits .xor .i64 a t = IntKind.i64.wrap ((BitVec.ofInt 64 a ^^^ BitVec.ofInt 64 t).toNat : Nat) := rfl
  rw [h1] at e
  have h2 := congrArg (BitVec.ofInt 64) e
  rw [ofInt_wrap, BitVec.ofInt_natCast, BitVec.ofNat_toNat, BitVec.setWidth_eq] at h2
  have h3 : BitVec.ofInt 64 t = 0#64 := by
    have := congrArg (BitVec.ofInt 64 a ^^^ ·) h2
    simpa [← BitVec.xor_assoc] using this
  have h4 := congrArg BitVec.toInt h3
  rw [BitVec.toInt_ofInt] at h4
  have h5 := bounds_i64 ht
  simp only [Int.bmod_def, BitVec.toInt_zero] at h4
  split at h4 <;> omega
/-- Two models as they are handed in, and their boxes. -/
structure S2 (x n : ModelV) (w w1 : World) : Prop where
  low : Below w.heap.size w w1
  xat : ModelAt w1.heap.size w1 x
  nat : ModelAt w1.heap.size w1 n
  xbox : w1.heap[w.heap.size]? = some (.cells #[.int .i64 x.ver, .slice x.pa x.procs.length x.pc, .slice x.la x.links.length x.lc, .slice x.ea x.events.length x.ec] 26 (0, 0))
  nbox : w1.heap[w.heap.size + 1]? = some (.cells #[.int .i64 n.ver, .slice n.pa n.procs.length n.pc, .slice n.la n.links.length n.lc, .slice n.ea n.events.length n.ec] 26 (0, 0))
theorem S2.mk' {x n : ModelV} {w : World} (h : ModelAt w.heap.size w x) (k : ModelAt w.heap.size w n) : S2 x n w ((w.alloc (.cells #[.int .i64 x.ver, .slice x.pa x.procs.length x.pc, .slice x.la x.links.length x.lc, .slice x.ea x.events.length x.ec] 26)).alloc (.cells #[.int .i64 n.ver, .slice n.pa n.procs.length n.pc, .slice n.la n.links.length n.lc, .slice n.ea n.events.length n.ec] 26)) := by
  have hb : Below w.heap.size w ((w.alloc (.cells #[.int .i64 x.ver, .slice x.pa x.procs.length x.pc, .slice x.la x.links.length x.lc, .slice x.ea x.events.length x.ec] 26)).alloc (.cells #[.int .i64 n.ver, .slice n.pa n.procs.length n.pc, .slice n.la n.links.length n.lc, .slice n.ea n.events.length n.ec] 26)) := ((Below.refl _ w).alloc (Nat.le_refl _) _).alloc (by simp) _
  exact ⟨hb, h.on hb, k.on hb, heap_alloc (heap_new _ rfl) _, heap_new _ (by simp)⟩
theorem S2.xb {x n : ModelV} {w w1 W : World} (h : S2 x n w w1) (hb : Below w1.heap.size w1 W) : W.heap[w.heap.size]? = some (.cells #[.int .i64 x.ver, .slice x.pa x.procs.length x.pc, .slice x.la x.links.length x.lc, .slice x.ea x.events.length x.ec] 26 (0, 0)) := heap_below h.xbox hb (heap_lt h.xbox)
theorem S2.nb {x n : ModelV} {w w1 W : World} (h : S2 x n w w1) (hb : Below w1.heap.size w1 W) : W.heap[w.heap.size + 1]? = some (.cells #[.int .i64 n.ver, .slice n.pa n.procs.length n.pc, .slice n.la n.links.length n.lc, .slice n.ea n.events.length n.ec] 26 (0, 0)) := heap_below h.nbox hb (heap_lt h.nbox)
theorem S2.xa {x n : ModelV} {w w1 W : World} (h : S2 x n w w1) (hb : Below w1.heap.size w1 W) : ModelAt W.heap.size W x := (h.xat.kept hb (Nat.le_refl _)).mono hb.size
theorem S2.na {x n : ModelV} {w w1 W : World} (h : S2 x n w w1) (hb : Below w1.heap.size w1 W) : ModelAt W.heap.size W n := (h.nat.kept hb (Nat.le_refl _)).mono hb.size
theorem S2.fin {x n : ModelV} {w w1 W : World} (h : S2 x n w w1) (hb : Below w1.heap.size w1 W) : Below w.heap.size w W := h.low.trans (hb.mono h.low.size)
theorem further {w1 W W' : World} (h : Below w1.heap.size w1 W) (hb : Below W.heap.size W W') : Below w1.heap.size w1 W' := h.trans (hb.mono h.size)
theorem few_sized {m : ModelM} (h : fewB m = true) : Sized m := by
  unfold fewB at h
  simp only [Bool.and_eq_true, decide_eq_true_eq, List.all_eq_true] at h
  obtain ⟨⟨⟨⟨h1, h2⟩, h3⟩, h4⟩, _⟩ := h
  exact ⟨by omega, by omega, by omega, fun p hp => by
    have := h4 p hp
    unfold fewP at this
    simp only [Bool.and_eq_true, decide_eq_true_eq] at this
    omega⟩
/-- A model as it is handed in, and its box. -/
structure S1 (x : ModelV) (w w1 : World) : Prop where
  low : Below w.heap.size w w1
  xat : ModelAt w1.heap.size w1 x
  xbox : w1.heap[w.heap.size]? = some (.cells #[.int .i64 x.ver, .slice x.pa x.procs.length x.pc, .slice x.la x.links.length x.lc, .slice x.ea x.events.length x.ec] 26 (0, 0))
theorem S1.mk' {x : ModelV} {w : World} (h : ModelAt w.heap.size w x) : S1 x w (w.alloc (.cells #[.int .i64 x.ver, .slice x.pa x.procs.length x.pc, .slice x.la x.links.length x.lc, .slice x.ea x.events.length x.ec] 26)) :=
  ⟨below_one w _, h.on (below_one w _), heap_new _ rfl⟩
theorem S1.xb {x : ModelV} {w w1 W : World} (h : S1 x w w1) (hb : Below w1.heap.size w1 W) : W.heap[w.heap.size]? = some (.cells #[.int .i64 x.ver, .slice x.pa x.procs.length x.pc, .slice x.la x.links.length x.lc, .slice x.ea x.events.length x.ec] 26 (0, 0)) := heap_below h.xbox hb (heap_lt h.xbox)
theorem S1.xa {x : ModelV} {w w1 W : World} (h : S1 x w w1) (hb : Below w1.heap.size w1 W) : ModelAt W.heap.size W x := (h.xat.kept hb (Nat.le_refl _)).mono hb.size
theorem S1.fin {x : ModelV} {w w1 W : World} (h : S1 x w w1) (hb : Below w1.heap.size w1 W) : Below w.heap.size w W := h.low.trans (hb.mono h.low.size)
end Go.Proofs.YtjcmeacgfflfmaaGreat.Hk
