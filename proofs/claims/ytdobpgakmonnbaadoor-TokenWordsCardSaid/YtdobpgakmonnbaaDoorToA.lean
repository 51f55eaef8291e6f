/- Plain: a text's tokens, byte by byte. -/
import Derived.Test.YtdobpgakmonnbaaDoorLib
set_option linter.unusedVariables false
set_option linter.unusedSectionVars false
set_option linter.unusedSimpArgs false
namespace Go.Proofs.YtdobpgakmonnbaaDoor.Tok

def ltr (c : UInt8) : Bool := (decide (97 ≤ c.toNat) && decide (c.toNat ≤ 122)) || decide (c.toNat = 95)
def dgt (c : UInt8) : Bool := decide (48 ≤ c.toNat) && decide (c.toNat ≤ 57)
def wrd (c : UInt8) : Bool := ltr c || dgt c
def sgn (c : UInt8) : Bool := decide (c.toNat = 123) || decide (c.toNat = 125) || decide (c.toNat = 61) || decide (c.toNat = 59)
def blk (c : UInt8) : Bool := decide (c.toNat = 32) || decide (c.toNat = 9) || decide (c.toNat = 13) || decide (c.toNat = 10)
/-- How many bytes, from the first one on, are so. -/
def runL (p : UInt8 → Bool) : List UInt8 → Nat
  | [] => 0
  | c :: r => if p c then runL p r + 1 else 0
theorem runL_le (p : UInt8 → Bool) : ∀ s, runL p s ≤ s.length
  | [] => Nat.le_refl _
  | c :: r => by
    have := runL_le p r
    unfold runL
    split <;> simp <;> omega
theorem runL_join {p : UInt8 → Bool} {c : UInt8} (h : p c = false) (t : List UInt8) : ∀ s, runL p (s ++ c :: t) = runL p s
  | [] => by simp [runL, h]
  | d :: r => by
    have := runL_join h t r
    simp only [List.cons_append, runL, this]
/-- Behind the blanks and remarks. -/
def skipB : Bool → List UInt8 → List UInt8
  | _, [] => []
  | true, c :: r => if c.toNat = 10 then skipB false r else skipB true r
  | false, c :: r => if blk c then skipB false r else if c.toNat = 35 then skipB true r else c :: r
theorem skipB_le : ∀ m s, (skipB m s).length ≤ s.length
  | _, [] => by simp [skipB]
  | true, c :: r => by
    have h1 := skipB_le true r
    have h2 := skipB_le false r
    unfold skipB
    split <;> simp <;> omega
  | false, c :: r => by
    have h1 := skipB_le true r
    have h2 := skipB_le false r
    unfold skipB
    split
    · simp; omega
    · split <;> simp <;> omega
theorem skip_join (b : List UInt8) : ∀ m a, skipB m (a ++ 10 :: b) = if skipB m a = [] then skipB false b else skipB m a ++ 10 :: b
  | true, [] => by simp [skipB]
  | false, [] => by simp [skipB, blk]
  | true, c :: r => by
    have h1 := skip_join b true r
    have h2 := skip_join b false r
    simp only [List.cons_append, skipB]
    by_cases e : c.toNat = 10
    · simp only [e, if_true]; exact h2
    · simp only [e, if_false]; exact h1
  | false, c :: r => by
    have h1 := skip_join b true r
    have h2 := skip_join b false r
    simp only [List.cons_append, skipB]
    by_cases e : blk c = true
    · simp only [e, if_true]; exact h2
    · by_cases e2 : c.toNat = 35
      · simp only [e, e2, if_true]; exact h1
      · simp [e, e2]
/-- A token: its kind, how long it is, its number. -/
structure TokV where
  kind : Nat
  len : Nat
  n : Int
/-- The number that digits say. -/
def dv (s : List UInt8) : Nat := s.foldl (fun a c => 10 * a + (c.toNat - 48)) 0
def minusL (s : List UInt8) : Nat := if s.head? = some 45 then 1 else 0
/-- Does a letter stand at k? -/
def nextL (d : List UInt8) (k : Nat) : Bool := match d[k]? with | some c => ltr c | none => false
theorem next_join {d : List UInt8} {k : Nat} (b : List UInt8) (h : k ≤ d.length) : nextL (d ++ 10 :: b) k = nextL d k := by
  unfold nextL
  by_cases e : k < d.length
  · rw [List.getElem?_append_left e]
  · have e2 : k = d.length := by omega
    subst e2
    rw [List.getElem?_append_right (Nat.le_refl _), Nat.sub_self, List.getElem?_eq_none (Nat.le_refl _)]
    rfl
def numV (s : List UInt8) : Except Int TokV :=
  let d := s.drop (minusL s)
  let k := runL dgt d
  if k = 0 ∨ (d.head? = some 48 ∧ 1 < minusL s + k) ∨ nextL d k = true then .error 21
  else if 1099511627776 < dv (d.take k) then .error 23
  else .ok ⟨2, minusL s + k, if minusL s = 1 then - (dv (d.take k) : Int) else (dv (d.take k) : Int)⟩
/-- The token that a text without blanks ahead begins with. -/
def firstV : List UInt8 → Except Int TokV
  | [] => .ok ⟨0, 0, 0⟩
  | c :: r => if ltr c then .ok ⟨1, runL wrd (c :: r), 0⟩ else if sgn c then .ok ⟨3, 1, 0⟩ else numV (c :: r)
theorem firstV_cons (c : UInt8) (r : List UInt8) : firstV (c :: r) = if ltr c then .ok ⟨1, runL wrd (c :: r), 0⟩ else if sgn c then .ok ⟨3, 1, 0⟩ else numV (c :: r) := rfl
theorem num_join {s : List UInt8} (b : List UInt8) (h : s ≠ []) : numV (s ++ 10 :: b) = numV s := by
  have hm : minusL (s ++ 10 :: b) = minusL s := by
    cases s with
    | nil => exact absurd rfl h
    | cons c r => rfl
  have hle : minusL s ≤ s.length := by
    cases s with
    | nil => exact absurd rfl h
    | cons c r => unfold minusL; split <;> simp
  have hd : (s ++ 10 :: b).drop (minusL s) = s.drop (minusL s) ++ 10 :: b := by
    rw [List.drop_append]
    rw [show minusL s - s.length = 0 by omega]
    rfl
  have hk : runL dgt (s.drop (minusL s) ++ 10 :: b) = runL dgt (s.drop (minusL s)) := runL_join (by decide) b _
  have hkl := runL_le dgt (s.drop (minusL s))
  unfold numV
  simp only [hm, hd, hk]
  generalize minusL s = m at *
  generalize s.drop m = d at *
  generalize runL dgt d = k at *
  have ht : (d ++ 10 :: b).take k = d.take k := by
    rw [List.take_append, show k - d.length = 0 by omega]
    simp
  rw [ht]
  by_cases h0 : k = 0
  · simp [h0]
  · have hh : (d ++ 10 :: b).head? = d.head? := by
      cases d with
      | nil => simp at hkl; omega
      | cons c r => rfl
    rw [hh, next_join b hkl]
theorem first_join {s : List UInt8} (b : List UInt8) (h : s ≠ []) : firstV (s ++ 10 :: b) = firstV s := by
  cases s with
  | nil => exact absurd rfl h
  | cons c r =>
    show firstV (c :: (r ++ 10 :: b)) = firstV (c :: r)
    rw [firstV_cons, firstV_cons]
    have h1 : runL wrd (c :: (r ++ 10 :: b)) = runL wrd (c :: r) := runL_join (p := wrd) (by decide) b (c :: r)
    have h2 : numV (c :: (r ++ 10 :: b)) = numV (c :: r) := num_join (s := c :: r) b h
    rw [h1, h2]
theorem first_len {s : List UInt8} {t : TokV} (h : firstV s = .ok t) (hs : s ≠ []) : t.kind ≠ 0 ∧ 1 ≤ t.len ∧ t.len ≤ s.length := by
  cases s with
  | nil => exact absurd rfl hs
  | cons c r =>
    rw [firstV_cons] at h
    by_cases hc : ltr c = true
    · rw [if_pos hc] at h
      cases h
      have := runL_le wrd (c :: r)
      refine ⟨by simp, ?_, this⟩
      show 1 ≤ runL wrd (c :: r)
      unfold runL
      rw [if_pos (by unfold wrd; rw [hc]; rfl)]
      omega
    · rw [if_neg hc] at h
      by_cases h2 : sgn c = true
      · rw [if_pos h2] at h
        cases h
        exact ⟨by simp, Nat.le_refl _, by simp⟩
      · rw [if_neg h2] at h
        unfold numV at h
        simp only at h
        split at h
        · cases h
        · rename_i hn
          split at h
          · cases h
          · cases h
            have hk := runL_le dgt ((c :: r).drop (minusL (c :: r)))
            have hm : minusL (c :: r) ≤ 1 := by unfold minusL; split <;> omega
            rw [List.length_drop] at hk
            have h0 : ¬ runL dgt ((c :: r).drop (minusL (c :: r))) = 0 := fun e => hn (.inl e)
            have hl : (c :: r).length = r.length + 1 := rfl
            refine ⟨by simp, ?_, ?_⟩
            · show 1 ≤ minusL (c :: r) + runL dgt ((c :: r).drop (minusL (c :: r)))
              omega
            · show minusL (c :: r) + runL dgt ((c :: r).drop (minusL (c :: r))) ≤ (c :: r).length
              omega
/-- How many tokens, the end too; none, if one is wrong. -/
def cntF : Nat → List UInt8 → Option Nat
  | 0, _ => none
  | f + 1, s => match firstV (skipB false s) with
    | .error _ => none
    | .ok t => if t.kind = 0 then some 1 else (cntF f ((skipB false s).drop t.len)).map (· + 1)
theorem cntF_succ (f : Nat) (s : List UInt8) : cntF (f + 1) s = match firstV (skipB false s) with
    | .error _ => none
    | .ok t => if t.kind = 0 then some 1 else (cntF f ((skipB false s).drop t.len)).map (· + 1) := rfl
theorem cnt_pos : ∀ f s x, cntF f s = some x → 1 ≤ x
  | 0, s, x, h => by cases h
  | f + 1, s, x, h => by
    rw [cntF_succ] at h
    cases hf : firstV (skipB false s) with
    | error e => rw [hf] at h; cases h
    | ok t =>
      rw [hf] at h
      simp only at h
      split at h
      · cases h; exact Nat.le_refl _
      · obtain ⟨y, _, rfl⟩ := Option.map_eq_some_iff.1 h
        omega
theorem cnt_fuel : ∀ f g s, s.length < f → s.length < g → cntF f s = cntF g s
  | 0, _, s, h, _ => absurd h (Nat.not_lt_zero _)
  | f + 1, 0, s, _, h => absurd h (Nat.not_lt_zero _)
  | f + 1, g + 1, s, h1, h2 => by
    unfold cntF
    cases hf : firstV (skipB false s) with
    | error e => rfl
    | ok t =>
      simp only
      by_cases hs : skipB false s = []
      · rw [hs] at hf
        cases hf
        rfl
      · obtain ⟨k0, k1, k2⟩ := first_len hf hs
        have hl := skipB_le false s
        rw [if_neg k0, if_neg k0, cnt_fuel f g _ (by rw [List.length_drop]; omega) (by rw [List.length_drop]; omega)]
theorem cnt_end {f : Nat} {s : List UInt8} (h : skipB false s = []) (hf : 0 < f) : cntF f s = some 1 := by
  cases f with
  | zero => omega
  | succ f => simp [cntF, h, firstV]
/-- Two texts with a line's end between. -/
theorem cnt_join (b : List UInt8) : ∀ f a, a.length < f → ∀ g h, (a ++ 10 :: b).length < g → b.length < h →
    cntF g (a ++ 10 :: b) = match cntF f a with | none => none | some x => (cntF h b).map (fun y => x + y - 1)
  | 0, a, hf, _, _, _, _ => absurd hf (Nat.not_lt_zero _)
  | f + 1, a, hf, 0, h, hg, hh => absurd hg (Nat.not_lt_zero _)
  | f + 1, a, hf, g + 1, h, hg, hh => by
    have hsk := skip_join b false a
    have hl := skipB_le false a
    rw [List.length_append, List.length_cons] at hg
    by_cases hs : skipB false a = []
    · rw [if_pos hs] at hsk
      rw [cnt_end hs (Nat.succ_pos _)]
      have e : cntF (g + 1) (a ++ 10 :: b) = cntF (g + 1) b := by
        unfold cntF
        rw [hsk]
      rw [e, cnt_fuel (g + 1) h b (by omega) hh]
      simp only
      cases cntF h b with
      | none => rfl
      | some y => simp
    · rw [if_neg hs] at hsk
      rw [cntF_succ, cntF_succ, hsk, first_join b hs]
      cases ht : firstV (skipB false a) with
      | error e => rfl
      | ok t =>
        obtain ⟨k0, k1, k2⟩ := first_len ht hs
        simp only
        rw [if_neg k0, if_neg k0]
        have hd : (skipB false a ++ 10 :: b).drop t.len = (skipB false a).drop t.len ++ 10 :: b := by
          rw [List.drop_append, show t.len - (skipB false a).length = 0 by omega]
          rfl
        rw [hd, cnt_join b f ((skipB false a).drop t.len) (by rw [List.length_drop]; omega) g h (by rw [List.length_append, List.length_drop, List.length_cons]; omega) hh]
        cases hx : cntF f ((skipB false a).drop t.len) with
        | none => rfl
        | some x =>
          have hx1 := cnt_pos _ _ _ hx
          simp only [Option.map_some]
          cases cntF h b with
          | none => rfl
          | some y =>
            simp only [Option.map_some]
            congr 1
            omega
end Go.Proofs.YtdobpgakmonnbaaDoor.Tok
