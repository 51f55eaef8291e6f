/- Plain: the tokens themselves; words with a blank behind each. -/
import Derived.Test.YtdobpgakmonnbaaDoorToA
set_option linter.unusedVariables false
set_option linter.unusedSectionVars false
set_option linter.unusedSimpArgs false
namespace Go.Proofs.YtdobpgakmonnbaaDoor.Tok

/-- A token as the program hands it out. -/
structure TokW where
  kind : Nat
  at_ : Nat
  text : List UInt8
  n : Int
def toksF : Nat → Nat → List UInt8 → Except (Int × Nat) (List TokW)
  | 0, _, _ => .ok []
  | f + 1, a, s => match firstV (skipB false s) with
    | .error e => .error (e, a + (s.length - (skipB false s).length))
    | .ok t => if t.kind = 0 then .ok [⟨t.kind, a + (s.length - (skipB false s).length), (skipB false s).take t.len, t.n⟩]
      else match toksF f (a + (s.length - (skipB false s).length) + t.len) ((skipB false s).drop t.len) with
        | .error x => .error x
        | .ok L => .ok (⟨t.kind, a + (s.length - (skipB false s).length), (skipB false s).take t.len, t.n⟩ :: L)
theorem toksF_succ (f a : Nat) (s : List UInt8) : toksF (f + 1) a s = match firstV (skipB false s) with
    | .error e => .error (e, a + (s.length - (skipB false s).length))
    | .ok t => if t.kind = 0 then .ok [⟨t.kind, a + (s.length - (skipB false s).length), (skipB false s).take t.len, t.n⟩]
      else match toksF f (a + (s.length - (skipB false s).length) + t.len) ((skipB false s).drop t.len) with
        | .error x => .error x
        | .ok L => .ok (⟨t.kind, a + (s.length - (skipB false s).length), (skipB false s).take t.len, t.n⟩ :: L) := rfl
theorem toks_cnt : ∀ f a s, s.length < f → cntF f s = match toksF f a s with | .error _ => none | .ok L => some L.length
  | 0, _, s, h => absurd h (Nat.not_lt_zero _)
  | f + 1, a, s, h => by
    rw [cntF_succ, toksF_succ]
    cases hf : firstV (skipB false s) with
    | error e => rfl
    | ok t =>
      simp only
      by_cases k0 : t.kind = 0
      · rw [if_pos k0, if_pos k0]; rfl
      · rw [if_neg k0, if_neg k0]
        have hs : skipB false s ≠ [] := fun e => by
          rw [e] at hf
          cases hf
          exact k0 rfl
        obtain ⟨_, k1, k2⟩ := first_len hf hs
        have hl := skipB_le false s
        rw [toks_cnt f (a + (s.length - (skipB false s).length) + t.len) _ (by rw [List.length_drop]; omega)]
        cases toksF f (a + (s.length - (skipB false s).length) + t.len) ((skipB false s).drop t.len) with
        | error x => rfl
        | ok L => rfl
theorem toks_fuel : ∀ f g a s, s.length < f → s.length < g → toksF f a s = toksF g a s
  | 0, _, _, s, h, _ => absurd h (Nat.not_lt_zero _)
  | f + 1, 0, _, s, _, h => absurd h (Nat.not_lt_zero _)
  | f + 1, g + 1, a, s, h1, h2 => by
    rw [toksF_succ, toksF_succ]
    cases hf : firstV (skipB false s) with
    | error e => rfl
    | ok t =>
      simp only
      by_cases k0 : t.kind = 0
      · rw [if_pos k0, if_pos k0]
      · rw [if_neg k0, if_neg k0]
        have hs : skipB false s ≠ [] := fun e => by
          rw [e] at hf
          cases hf
          exact k0 rfl
        obtain ⟨_, k1, k2⟩ := first_len hf hs
        have hl := skipB_le false s
        rw [toks_fuel f g _ _ (by rw [List.length_drop]; omega) (by rw [List.length_drop]; omega)]
/-- A blank ahead. -/
theorem toks_blank (f a : Nat) (s : List UInt8) : toksF (f + 1) a (32 :: s) = toksF (f + 1) (a + 1) s := by
  have e : skipB false (32 :: s) = skipB false s := by simp [skipB, blk]
  have hl := skipB_le false s
  rw [toksF_succ, toksF_succ, e, List.length_cons, show a + (s.length + 1 - (skipB false s).length) = a + 1 + (s.length - (skipB false s).length) by omega]
/-- Words, each with a blank behind. -/
def wordsB : List (List UInt8) → List UInt8
  | [] => []
  | w :: r => w ++ 32 :: wordsB r
/-- A word: a letter, and then letters and digits. -/
def isWord (w : List UInt8) : Prop := ∃ c r, w = c :: r ∧ ltr c = true ∧ ∀ x ∈ w, wrd x = true
theorem runL_all {p : UInt8 → Bool} : ∀ {w : List UInt8}, (∀ x ∈ w, p x = true) → runL p w = w.length
  | [], _ => rfl
  | c :: r, h => by
    unfold runL
    rw [if_pos (h c (List.mem_cons_self ..)), runL_all (fun x hx => h x (List.mem_cons_of_mem _ hx))]
    rfl
theorem ltr_not {c : UInt8} (h : ltr c = true) : blk c = false ∧ c.toNat ≠ 35 := by
  unfold ltr at h
  simp at h
  unfold blk
  simp
  omega
theorem word_first {w : List UInt8} (h : isWord w) (t : List UInt8) : skipB false (w ++ 32 :: t) = w ++ 32 :: t ∧ firstV (w ++ 32 :: t) = .ok ⟨1, w.length, 0⟩ := by
  obtain ⟨c, r, rfl, hc, ha⟩ := h
  obtain ⟨h1, h2⟩ := ltr_not hc
  constructor
  · show skipB false (c :: (r ++ 32 :: t)) = c :: (r ++ 32 :: t)
    simp [skipB, h1, h2]
  · show firstV (c :: (r ++ 32 :: t)) = _
    rw [firstV_cons, if_pos hc]
    have : runL wrd (c :: (r ++ 32 :: t)) = runL wrd (c :: r) := runL_join (p := wrd) (by decide) t (c :: r)
    rw [this, runL_all ha]
theorem toks_words : ∀ (ws : List (List UInt8)) f a, (wordsB ws).length < f → (∀ w ∈ ws, isWord w) →
    ∃ L, toksF f a (wordsB ws) = .ok L ∧ L.length = ws.length + 1 ∧ ∀ i, (h : i < ws.length) → ∃ t, L[i]? = some t ∧ t.kind = 1 ∧ t.text = ws[i]
  | _, 0, _, h, _ => absurd h (Nat.not_lt_zero _)
  | [], f + 1, a, _, _ => ⟨_, rfl, rfl, fun i h => absurd h (Nat.not_lt_zero _)⟩
  | w :: r, f + 1, a, hf, hw => by
    obtain ⟨h1, h2⟩ := word_first (hw w (List.mem_cons_self ..)) (wordsB r)
    have hl : (wordsB (w :: r)).length = w.length + ((wordsB r).length + 1) := by simp [wordsB]
    have hwl : 1 ≤ w.length := by
      obtain ⟨c, q, rfl, _⟩ := hw w (List.mem_cons_self ..)
      simp
    obtain ⟨f', rfl⟩ : ∃ f', f = f' + 1 := ⟨f - 1, by omega⟩
    obtain ⟨L, e1, e2, e3⟩ := toks_words r (f' + 1) (a + w.length + 1) (by omega) (fun x hx => hw x (List.mem_cons_of_mem _ hx))
    have hd : (w ++ 32 :: wordsB r).drop w.length = 32 :: wordsB r := by simp
    have ht : (w ++ 32 :: wordsB r).take w.length = w := by simp
    have key : toksF (f' + 1 + 1) a (wordsB (w :: r)) = .ok (⟨1, a, w, 0⟩ :: L) := by
      show toksF (f' + 1 + 1) a (w ++ 32 :: wordsB r) = _
      rw [toksF_succ, h1, h2]
      simp only
      rw [if_neg (by decide), hd, ht, Nat.sub_self, show a + 0 = a from rfl, toks_blank, e1]
    refine ⟨_, key, by simp [e2], fun i hi => ?_⟩
    cases i with
    | zero => exact ⟨_, rfl, rfl, rfl⟩
    | succ i =>
      obtain ⟨t, k1, k2, k3⟩ := e3 i (by simpa using hi)
      exact ⟨t, by simpa using k1, k2, by simpa using k3⟩
end Go.Proofs.YtdobpgakmonnbaaDoor.Tok
