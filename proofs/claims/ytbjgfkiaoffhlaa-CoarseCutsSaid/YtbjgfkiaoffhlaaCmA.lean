/- Levels of a graph, what is in each, what shrinks; the document's own description of them. -/
import Derived.Test.YtbjgfkiaoffhlaaYq
import Derived.Test.YtbjgfkiaoffhlaaGtm
import Derived.Test.YtbjgfkiaoffhlaaZb
set_option linter.unusedVariables false
set_option linter.unusedSectionVars false
namespace Go.Proofs.Ytbjgfkiaoffhlaa
open Go.RowKit Rk

/-- Which one each of the first k is in, and how many there are. -/
def stepC (ms : List Int) (s : List Int × Nat) (i : Nat) : List Int × Nat := if ms.getD i 0 < (i : Int) then (s.1 ++ [s.1.getD (ms.getD i 0).toNat 0], s.2) else (s.1 ++ [(s.2 : Int)], s.2 + 1)
def inS (ms : List Int) : Nat → List Int × Nat
  | 0 => ([], 0)
  | k + 1 => stepC ms (inS ms k) k
def inL (ms : List Int) : List Int := (inS ms ms.length).1
def onesN (ms : List Int) : Nat := (inS ms ms.length).2
theorem inS_length (ms : List Int) : ∀ k, (inS ms k).1.length = k
  | 0 => rfl
  | k + 1 => by
    have := inS_length ms k
    unfold inS stepC
    split <;> simp [this]
theorem inL_length (ms : List Int) : (inL ms).length = ms.length := inS_length ms _
theorem getD_left (l : List Int) (x : Int) {i : Nat} (h : i < l.length) : (l ++ [x]).getD i 0 = l.getD i 0 := by
  rw [List.getD_eq_getElem?_getD, List.getD_eq_getElem?_getD, List.getElem?_append_left h]
theorem getD_last (l : List Int) (x : Int) {k : Nat} (h : l.length = k) : (l ++ [x]).getD k 0 = x := by
  subst h
  rw [List.getD_eq_getElem?_getD, List.getElem?_append_right (Nat.le_refl _)]
  simp
theorem getD_out (l : List Int) {k : Nat} (h : l.length ≤ k) : l.getD k 0 = 0 := by
  rw [List.getD_eq_getElem?_getD, List.getElem?_eq_none h]; rfl
theorem inS_old (ms : List Int) {k i : Nat} (h : i < k) : (inS ms (k + 1)).1.getD i 0 = (inS ms k).1.getD i 0 := by
  have hl := inS_length ms k
  by_cases h1 : ms.getD k 0 < (k : Int)
  · rw [show inS ms (k + 1) = ((inS ms k).1 ++ [(inS ms k).1.getD (ms.getD k 0).toNat 0], (inS ms k).2) from if_pos h1]
    exact getD_left _ _ (by omega)
  · rw [show inS ms (k + 1) = ((inS ms k).1 ++ [((inS ms k).2 : Int)], (inS ms k).2 + 1) from if_neg h1]
    exact getD_left _ _ (by omega)
theorem inS_lt (ms : List Int) {k : Nat} (h : ms.getD k 0 < (k : Int)) : (inS ms (k + 1)).1.getD k 0 = (inS ms k).1.getD (ms.getD k 0).toNat 0 ∧ (inS ms (k + 1)).2 = (inS ms k).2 := by
  have hl := inS_length ms k
  have e : inS ms (k + 1) = ((inS ms k).1 ++ [(inS ms k).1.getD (ms.getD k 0).toNat 0], (inS ms k).2) := if_pos h
  rw [e]
  exact ⟨getD_last _ _ hl, rfl⟩
theorem inS_ge (ms : List Int) {k : Nat} (h : ¬ ms.getD k 0 < (k : Int)) : (inS ms (k + 1)).1.getD k 0 = ((inS ms k).2 : Int) ∧ (inS ms (k + 1)).2 = (inS ms k).2 + 1 := by
  have hl := inS_length ms k
  have e : inS ms (k + 1) = ((inS ms k).1 ++ [((inS ms k).2 : Int)], (inS ms k).2 + 1) := if_neg h
  rw [e]
  exact ⟨getD_last _ _ hl, rfl⟩
theorem inS_ones (ms : List Int) : ∀ k, (inS ms k).2 = aloneN ms k + (pairsL ms k).length
  | 0 => rfl
  | k + 1 => by
    have ih := inS_ones ms k
    have e1 : aloneN ms (k + 1) = aloneN ms k + if ms.getD k 0 = (k : Int) then 1 else 0 := rfl
    have e2 : pairsL ms (k + 1) = pairsL ms k ++ if (k : Int) < ms.getD k 0 then [((k : Int), ms.getD k 0)] else [] := rfl
    rw [e1, e2, List.length_append]
    by_cases h : ms.getD k 0 < (k : Int)
    · rw [(inS_lt ms h).2, if_neg (by omega), if_neg (by omega), ih]; simp
    · rw [(inS_ge ms h).2]
      by_cases h2 : ms.getD k 0 = (k : Int)
      · rw [if_pos h2, if_neg (by omega), ih]; simp; omega
      · rw [if_neg h2, if_pos (by omega), ih]; simp; omega
theorem ones_left {ms : List Int} (h : mateR ms = true) : onesN ms = leftN ms := by
  have h1 := pairs_half h
  unfold onesN leftN
  rw [if_pos h, inS_ones]
  omega
theorem inS_bd {ms : List Int} (h : mateR ms = true) : ∀ k, k ≤ ms.length → ∀ i, i < k → ∃ o : Nat, (inS ms k).1.getD i 0 = (o : Int) ∧ o < (inS ms k).2
  | 0, _, i, hi => absurd hi (Nat.not_lt_zero _)
  | k + 1, hk, i, hi => by
    have ih := inS_bd h k (by omega)
    have hm := (mateR_iff.1 h k (by omega)).1
    by_cases e : i = k
    · subst e
      by_cases h1 : ms.getD i 0 < (i : Int)
      · obtain ⟨o, h2, h3⟩ := ih (ms.getD i 0).toNat (by omega)
        exact ⟨o, by rw [(inS_lt ms h1).1, h2], by rw [(inS_lt ms h1).2]; exact h3⟩
      · exact ⟨_, (inS_ge ms h1).1, by rw [(inS_ge ms h1).2]; exact Nat.lt_succ_self _⟩
    · obtain ⟨o, h2, h3⟩ := ih i (by omega)
      refine ⟨o, by rw [inS_old ms (by omega), h2], ?_⟩
      by_cases h1 : ms.getD k 0 < (k : Int)
      · rw [(inS_lt ms h1).2]; exact h3
      · rw [(inS_ge ms h1).2]; omega
theorem in_bd {ms : List Int} (h : mateR ms = true) {i : Nat} (hi : i < ms.length) : ∃ o : Nat, (inL ms).getD i 0 = (o : Int) ∧ o < onesN ms := inS_bd h _ (Nat.le_refl _) i hi
theorem ones_le {ms : List Int} : onesN ms ≤ ms.length := by
  have : ∀ k, (inS ms k).2 ≤ k := fun k => by
    induction k with
    | zero => exact Nat.le_refl _
    | succ k ih =>
      by_cases h1 : ms.getD k 0 < (k : Int)
      · rw [(inS_lt ms h1).2]; omega
      · rw [(inS_ge ms h1).2]; omega
  exact this _
theorem inF_step (ms : List Int) {k : Nat} (v : Int) (hv : (inS ms (k + 1)).1.getD k 0 = v) : (fun i => (inS ms (k + 1)).1.getD i 0) = upd (fun i => (inS ms k).1.getD i 0) k v := by
  funext i
  unfold upd
  by_cases e : i = k
  · rw [if_pos e, e, hv]
  · rw [if_neg e]
    by_cases h : i < k
    · exact inS_old ms h
    · have h1 := inS_length ms (k + 1)
      have h2 := inS_length ms k
      exact (getD_out _ (by omega)).trans (getD_out _ (by omega)).symm

/-- A pair's two joined as what they are in. -/
def shS (m : Nat) (is : List Int) (e : Edg) (F : Nat → Nat → Int) : Option (Nat → Nat → Int) :=
  if is.getD e.1.toNat 0 = is.getD e.2.1.toNat 0 then some F else if joinE m F (is.getD e.1.toNat 0) (is.getD e.2.1.toNat 0) e.2.2 = 0 then some (joinF m F (is.getD e.1.toNat 0) (is.getD e.2.1.toNat 0) e.2.2) else none
def shJ (m : Nat) (is : List Int) : List Edg → (Nat → Nat → Int) → Option (Nat → Nat → Int)
  | [], F => some F
  | e :: t, F => (shS m is e F).bind (shJ m is t)
theorem shJ_append (m : Nat) (is : List Int) : ∀ (l t : List Edg) (F : Nat → Nat → Int), shJ m is (l ++ t) F = (shJ m is l F).bind (shJ m is t)
  | [], t, F => rfl
  | e :: l, t, F => by
    show (shS m is e F).bind (shJ m is (l ++ t)) = ((shS m is e F).bind (shJ m is l)).bind (shJ m is t)
    cases shS m is e F with
    | none => rfl
    | some F' => exact shJ_append m is l t F'
theorem shJ_snoc (m : Nat) (is : List Int) (l : List Edg) (e : Edg) (F F' : Nat → Nat → Int) (h : shJ m is l F = some F') : shJ m is (l ++ [e]) F = shS m is e F' := by
  rw [shJ_append, h]
  show (shS m is e F').bind (shJ m is []) = _
  cases shS m is e F' <;> rfl
theorem shJ_none (m : Nat) (is : List Int) {l D : List Edg} (hp : l <+: D) {F : Nat → Nat → Int} (h : shJ m is l F = none) : shJ m is D F = none := by
  obtain ⟨t, rfl⟩ := hp
  rw [shJ_append, h]; rfl
def wsS (ws ms : List Int) : List Int := matesL (onesN ms) (wtsT ws (inL ms) ws.length)
theorem wsS_length (ws ms : List Int) : (wsS ws ms).length = onesN ms := matesL_length _ _
def shrO (ws : List Int) (F : Nat → Nat → Int) (ms : List Int) : Option (Nat → Nat → Int) := shJ (onesN ms) (inL ms) (edgesD ws.length F) noTab
/-- What Shrink tells. -/
def shrE (ws : List Int) (F : Nat → Nat → Int) (ms : List Int) : Int := if ms.length ≠ ws.length ∨ mateR ms = false then 1 else if newE (wsS ws ms) ≠ 0 ∨ shrO ws F ms = none then 23 else 0
def shrF (ws : List Int) (F : Nat → Nat → Int) (ms : List Int) : Nat → Nat → Int := (shrO ws F ms).getD noTab
theorem newE_cases {zs : List Int} (h : zs.length ≤ 4096) : newE zs = 0 ∨ newE zs = 23 := by
  unfold newE
  rw [if_neg (by omega)]
  split
  · exact .inl rfl
  · exact .inr rfl
theorem joinE_cases (n : Nat) (F : Nat → Nat → Int) {a b : Nat} (x : Int) (ha : a < n) (hb : b < n) (hab : a ≠ b) : joinE n F (a : Int) (b : Int) x = 0 ∨ joinE n F (a : Int) (b : Int) x = 23 := by
  unfold joinE
  rw [if_neg (by rw [hasN_nat ha, hasN_nat hb]; simp; omega)]
  split
  · exact .inr rfl
  · exact .inl rfl
/-- A graph of pairs, and what each thing of the one ahead is in. -/
structure LvD where
  ws : List Int
  F : Nat → Nat → Int
  ins : List Int
/-- A graph shrunk by its pairs. -/
def nextD (least : Int) (ws : List Int) (F : Nat → Nat → Int) : Option LvD :=
  if (ws.length : Int) ≤ least then none else
  if shrE ws F (heavyF ws.length F) ≠ 0 ∨ onesN (heavyF ws.length F) = ws.length then none else
  some ⟨wsS ws (heavyF ws.length F), shrF ws F (heavyF ws.length F), inL (heavyF ws.length F)⟩
def levD (least : Int) : Nat → List Int → (Nat → Nat → Int) → List LvD
  | 0, _, _ => []
  | k + 1, ws, F => match nextD least ws F with
    | none => []
    | some d => d :: levD least k d.ws d.F
/-- What lies behind so many levels. -/
def atD (least : Int) : Nat → List Int → (Nat → Nat → Int) → List Int × (Nat → Nat → Int)
  | 0, ws, F => (ws, F)
  | k + 1, ws, F => match nextD least ws F with
    | none => (ws, F)
    | some d => atD least k d.ws d.F
theorem next_less {least : Int} {ws : List Int} {F : Nat → Nat → Int} {d : LvD} (h : nextD least ws F = some d) : d.ws.length < ws.length := by
  unfold nextD at h
  split at h
  · cases h
  · split at h
    · cases h
    · rename_i h1 h2
      cases h
      have h3 := ones_le (ms := heavyF ws.length F)
      rw [heavy_length] at h3
      show (wsS _ _).length < _
      rw [wsS_length]
      have : onesN (heavyF ws.length F) ≠ ws.length := fun e => h2 (.inr e)
      omega
theorem levD_fuel (least : Int) : ∀ (k : Nat) (ws : List Int) (F : Nat → Nat → Int), ws.length ≤ k → levD least (k + 1) ws F = levD least (ws.length + 1) ws F
  | 0, ws, F, h => by rw [show ws.length = 0 by omega]
  | k + 1, ws, F, h => by
    by_cases e : ws.length = k + 1
    · rw [e]
    · have ih := levD_fuel least k ws F (by omega)
      rw [← ih]
      show (match nextD least ws F with | none => [] | some d => d :: levD least (k + 1) d.ws d.F) = (match nextD least ws F with | none => [] | some d => d :: levD least k d.ws d.F)
      cases hn : nextD least ws F with
      | none => rfl
      | some d =>
        have hl := next_less hn
        have := levD_fuel least k d.ws d.F (by omega)
        dsimp only
        rw [this]
        cases k with
        | zero => omega
        | succ k => rw [levD_fuel least k d.ws d.F (by omega)]
def levelsD (least : Int) (ws : List Int) (F : Nat → Nat → Int) : List LvD := levD least (ws.length + 1) ws F
theorem levelsD_none {least : Int} {ws : List Int} {F : Nat → Nat → Int} (h : nextD least ws F = none) : levelsD least ws F = [] := by
  show (match nextD least ws F with | none => [] | some d => d :: levD least ws.length d.ws d.F) = []
  rw [h]
theorem levelsD_some {least : Int} {ws : List Int} {F : Nat → Nat → Int} {d : LvD} (h : nextD least ws F = some d) : levelsD least ws F = d :: levelsD least d.ws d.F := by
  have hl := next_less h
  show (match nextD least ws F with | none => [] | some d => d :: levD least ws.length d.ws d.F) = _
  rw [h]
  dsimp only
  congr 1
  obtain ⟨k, hk⟩ : ∃ k, ws.length = k + 1 := ⟨ws.length - 1, by omega⟩
  rw [hk, levD_fuel least k d.ws d.F (by omega)]
  rfl
theorem levelsD_le (least : Int) : ∀ (n : Nat) (ws : List Int) (F : Nat → Nat → Int), ws.length ≤ n → (levelsD least ws F).length ≤ n
  | 0, ws, F, h => by
    cases hn : nextD least ws F with
    | none => rw [levelsD_none hn]; exact Nat.le_refl _
    | some d => have := next_less hn; omega
  | n + 1, ws, F, h => by
    cases hn : nextD least ws F with
    | none => rw [levelsD_none hn]; exact Nat.zero_le _
    | some d =>
      have h1 := next_less hn
      have h2 := levelsD_le least n d.ws d.F (by omega)
      rw [levelsD_some hn]
      simpa using h2
end Go.Proofs.Ytbjgfkiaoffhlaa

namespace Go.Proofs.Ytbjgfkiaoffhlaa
open Go.RowKit Rk

def idL (n : Nat) : List Int := matesL n (fun i => (i : Int))
theorem idL_at {n i : Nat} (h : i < n) : (idL n).getD i 0 = (i : Int) := matesL_getD _ h
theorem idL_length (n : Nat) : (idL n).length = n := matesL_length _ _
/-- The table of the pairs that have come. -/
def tbT (F : Nat → Nat → Int) (k j : Nat) : Nat → Nat → Int := fun a b => if min a b < k ∨ (min a b = k ∧ max a b < j) then F a b else 0
theorem tbT_row {n : Nat} {F : Nat → Nat → Int} (ht : Tab n F) (k : Nat) : tbT F k n = tbT F (k + 1) 0 := by
  funext a b
  unfold tbT
  by_cases h : min a b < k + 1
  · rw [if_pos (c := min a b < k + 1 ∨ _) (.inl h)]
    by_cases h2 : min a b < k ∨ min a b = k ∧ max a b < n
    · rw [if_pos h2]
    · rw [if_neg h2]
      have hm : n ≤ max a b := by omega
      by_cases e : n ≤ b
      · exact (ht.out a b e).symm
      · rw [ht.sym]; exact (ht.out b a (by omega)).symm
  · rw [if_neg (by omega), if_neg (by omega)]
theorem tbT_skip {n : Nat} {F : Nat → Nat → Int} (ht : Tab n F) {k j : Nat} (h : ¬ (k < j ∧ 0 < F k j)) : tbT F k (j + 1) = tbT F k j := by
  funext a b
  unfold tbT
  by_cases h1 : min a b = k ∧ max a b = j
  · rw [if_pos (.inr ⟨h1.1, by omega⟩), if_neg (by omega)]
    have hz : F k j = 0 := by
      have := ht.lo k j
      by_cases e : k < j
      · have : ¬ 0 < F k j := fun h2 => h ⟨e, h2⟩
        omega
      · have : k = j := by omega
        rw [this]; exact ht.diag j
    by_cases e : a ≤ b
    · rw [show a = k by omega, show b = j by omega]; exact hz
    · rw [ht.sym, show a = j by omega, show b = k by omega]; exact hz
  · by_cases h2 : min a b < k ∨ min a b = k ∧ max a b < j
    · rw [if_pos h2, if_pos (by omega)]
    · rw [if_neg h2, if_neg (by omega)]
theorem tbT_join {n : Nat} {F : Nat → Nat → Int} (ht : Tab n F) {k j : Nat} (h : k < j) (hj : j < n) (hp : 0 < F k j) :
    joinE n (tbT F k j) (k : Int) (j : Int) (F k j) = 0 ∧ joinF n (tbT F k j) (k : Int) (j : Int) (F k j) = tbT F k (j + 1) := by
  have hz : tbT F k j k j = 0 := if_neg (by omega)
  have hm : may (F k j) = true := may_mk (by omega) (ht.hi k j)
  have hE : joinE n (tbT F k j) (k : Int) (j : Int) (F k j) = 0 := by
    unfold joinE
    rw [if_neg (by rw [hasN_nat (by omega), hasN_nat hj]; simp; omega), btw_nat n _ (by omega) hj, hz, if_neg (by rw [hm]; simp [hm])]
  refine ⟨hE, ?_⟩
  unfold joinF
  rw [if_pos hE, btw_nat n _ (by omega) hj, hz, Int.toNat_natCast, Int.toNat_natCast]
  funext a b
  unfold joinT
  by_cases h1 : (a = k ∧ b = j) ∨ (a = j ∧ b = k)
  · rw [if_pos h1]
    unfold tbT
    rw [if_pos (by omega)]
    rcases h1 with ⟨e1, e2⟩ | ⟨e1, e2⟩
    · rw [e1, e2]; omega
    · rw [e1, e2, ht.sym]; omega
  · rw [if_neg h1]
    unfold tbT
    by_cases h2 : min a b < k ∨ min a b = k ∧ max a b < j
    · rw [if_pos h2, if_pos (by omega)]
    · rw [if_neg h2, if_neg (by omega)]
theorem same_row {n : Nat} {F : Nat → Nat → Int} (ht : Tab n F) {k : Nat} (hk : k < n) : ∀ j, j ≤ n → shJ n (idL n) ((rowOf j (above ((k : Int) + 1) (F k))).map (tag k)) (tbT F k 0) = some (tbT F k j)
  | 0, _ => rfl
  | j + 1, hj => by
    have ih := same_row ht hk j (by omega)
    rw [rowOf_succ, List.map_append]
    have ha : above ((k : Int) + 1) (F k) j = if k < j then F k j else 0 := by
      unfold above
      by_cases e : k < j
      · rw [if_neg (by omega), if_pos e]
      · rw [if_pos (by omega), if_neg e]
    rw [ha]
    by_cases h : k < j ∧ 0 < F k j
    · rw [if_pos h.1, if_pos h.2]
      have e : List.map (tag k) [((j : Int), F k j)] = [((k : Int), (j : Int), F k j)] := rfl
      rw [e, shJ_snoc n (idL n) _ _ _ _ ih]
      unfold shS
      simp only [Int.toNat_natCast, idL_at hk, idL_at (show j < n by omega)]
      obtain ⟨h1, h2⟩ := tbT_join ht h.1 (by omega) h.2
      rw [if_neg (by omega), if_pos h1, h2]
    · have : ¬ 0 < (if k < j then F k j else 0) := by
        by_cases e : k < j
        · rw [if_pos e]; exact fun h2 => h ⟨e, h2⟩
        · rw [if_neg e]; omega
      rw [if_neg this, tbT_skip ht h, List.map_nil, List.append_nil]
      exact ih
theorem same_upTo {n : Nat} {F : Nat → Nat → Int} (ht : Tab n F) : ∀ k, k ≤ n → shJ n (idL n) (upTo n F k) noTab = some (tbT F k 0)
  | 0, _ => by
    have : tbT F 0 0 = noTab := by
      funext a b
      exact if_neg (by omega)
    rw [this]; rfl
  | k + 1, hk => by
    rw [upTo, shJ_append, same_upTo ht k (by omega), ← tbT_row ht]
    exact same_row ht (by omega) n (Nat.le_refl _)
theorem same_all {n : Nat} {F : Nat → Nat → Int} (ht : Tab n F) : shJ n (idL n) (edgesD n F) noTab = some F := by
  have h : tbT F n 0 = F := by
    funext a b
    unfold tbT
    by_cases e : min a b < n
    · rw [if_pos (.inl e)]
    · rw [if_neg (by omega)]; exact (ht.out a b (by omega)).symm
  have := same_upTo ht n (Nat.le_refl _)
  rw [h] at this
  exact this
/-- All pairs joined, whatever is told. -/
def jf (n : Nat) (l : List Edg) (G : Nat → Nat → Int) : Nat → Nat → Int := l.foldl (fun G e => joinF n G e.1 e.2.1 e.2.2) G
theorem jf_snoc (n : Nat) (l : List Edg) (e : Edg) (G : Nat → Nat → Int) : jf n (l ++ [e]) G = joinF n (jf n l G) e.1 e.2.1 e.2.2 := by simp [jf]
theorem jf_of (n : Nat) : ∀ (l : List Edg) (G G' : Nat → Nat → Int), (∀ x ∈ l, ∃ a b : Nat, a < n ∧ b < n ∧ a ≠ b ∧ x.1 = (a : Int) ∧ x.2.1 = (b : Int)) → shJ n (idL n) l G = some G' → jf n l G = G'
  | [], G, G', _, h => by injection h
  | e :: t, G, G', hm, h => by
    obtain ⟨a, b, ha, hb, hab, e1, e2⟩ := hm e (List.mem_cons_self ..)
    have hs : shS n (idL n) e G = if joinE n G e.1 e.2.1 e.2.2 = 0 then some (joinF n G e.1 e.2.1 e.2.2) else none := by
      unfold shS
      rw [e1, e2]
      simp only [Int.toNat_natCast, idL_at ha, idL_at hb]
      rw [if_neg (by omega)]
    have h' : (shS n (idL n) e G).bind (shJ n (idL n) t) = some G' := h
    rw [hs] at h'
    by_cases hj : joinE n G e.1 e.2.1 e.2.2 = 0
    · rw [if_pos hj] at h'
      exact jf_of n t _ G' (fun x hx => hm x (List.mem_cons_of_mem _ hx)) h'
    · rw [if_neg hj] at h'; cases h'
theorem edges_mem {n : Nat} {F : Nat → Nat → Int} {x : Edg} (h : x ∈ edgesD n F) : ∃ a b : Nat, a < b ∧ b < n ∧ x = ((a : Int), (b : Int), F a b) ∧ 0 < F a b := by
  have : ∀ k, x ∈ upTo n F k → k ≤ n → ∃ a b : Nat, a < b ∧ b < n ∧ x = ((a : Int), (b : Int), F a b) ∧ 0 < F a b := fun k => by
    induction k with
    | zero => intro h; simp [upTo] at h
    | succ k ih =>
      intro h hk
      rw [upTo, List.mem_append] at h
      rcases h with h | h
      · exact ih h (by omega)
      · obtain ⟨p, hp, rfl⟩ := List.mem_map.1 h
        obtain ⟨b, h1, h2, rfl⟩ := mem_rowOf.1 hp
        unfold above at h2
        by_cases e : (b : Int) < (k : Int) + 1
        · rw [if_pos e] at h2; omega
        · rw [if_neg e] at h2
          refine ⟨k, b, by omega, h1, ?_, h2⟩
          show ((k : Int), (b : Int), above ((k : Int) + 1) (F k) b) = _
          unfold above
          rw [if_neg e]
  exact this _ h (Nat.le_refl _)
theorem jf_all {n : Nat} {F : Nat → Nat → Int} (ht : Tab n F) : jf n (edgesD n F) noTab = F :=
  jf_of n _ _ _ (fun x hx => by
    obtain ⟨a, b, h1, h2, rfl, _⟩ := edges_mem hx
    exact ⟨a, b, by omega, h2, by omega, rfl, rfl⟩) (same_all ht)
end Go.Proofs.Ytbjgfkiaoffhlaa

namespace Go.Proofs.Ytbjgfkiaoffhlaa
open Go.RowKit Rk

theorem ext_getD {l m : List Int} (h : l.length = m.length) (hg : ∀ i, i < l.length → l.getD i 0 = m.getD i 0) : l = m := by
  apply List.ext_getElem h
  intro i h1 h2
  have := hg i h1
  rw [List.getD_eq_getElem?_getD, List.getD_eq_getElem?_getD, List.getElem?_eq_getElem h1, List.getElem?_eq_getElem h2] at this
  exact this
theorem id_right (n : Nat) : mateR (idL n) = true := by
  rw [mateR_iff]
  intro i hi
  rw [idL_length] at hi ⊢
  rw [idL_at hi, Int.toNat_natCast, idL_at hi]
  omega
theorem id_inS (n : Nat) : ∀ k, k ≤ n → (inS (idL n) k).2 = k ∧ ∀ i, i < k → (inS (idL n) k).1.getD i 0 = (i : Int)
  | 0, _ => ⟨rfl, fun i hi => absurd hi (Nat.not_lt_zero _)⟩
  | k + 1, hk => by
    obtain ⟨h1, h2⟩ := id_inS n k (by omega)
    obtain ⟨h3, h4⟩ := inS_ge (idL n) (k := k) (by rw [idL_at (show k < n by omega)]; omega)
    rw [h1] at h3 h4
    refine ⟨h4, fun i hi => ?_⟩
    by_cases e : i = k
    · subst e; exact h3
    · rw [inS_old _ (by omega)]; exact h2 i (by omega)
theorem id_in (n : Nat) : inL (idL n) = idL n := by
  refine ext_getD (by rw [inL_length]) (fun i hi => ?_)
  rw [inL_length, idL_length] at hi
  rw [idL_at hi]
  have := (id_inS n n (Nat.le_refl _)).2 i hi
  unfold inL
  rw [idL_length]
  exact this
theorem id_ones (n : Nat) : onesN (idL n) = n := by
  unfold onesN
  rw [idL_length]
  exact (id_inS n n (Nat.le_refl _)).1
theorem id_wts (ws : List Int) (n : Nat) : ∀ j, j ≤ n → ∀ o, wtsT ws (idL n) j o = if o < j then ws.getD o 0 else 0
  | 0, _, o => by simp [wtsT]
  | j + 1, hj, o => by
    have ih := id_wts ws n j (by omega)
    simp only [wtsT, upd, idL_at (show j < n by omega), Int.toNat_natCast]
    by_cases e : o = j
    · rw [if_pos e, ih, if_neg (by omega), if_pos (by omega), e]; omega
    · rw [if_neg e, ih]
      by_cases h : o < j
      · rw [if_pos h, if_pos (by omega)]
      · rw [if_neg h, if_neg (by omega)]
theorem matesL_ws (ws : List Int) : matesL ws.length (fun i => ws.getD i 0) = ws :=
  ext_getD (matesL_length _ _) (fun i hi => by rw [matesL_length] at hi; exact matesL_getD _ hi)
theorem matesL_congr {n : Nat} {f g : Nat → Int} (h : ∀ i, i < n → f i = g i) : matesL n f = matesL n g :=
  List.map_congr_left (fun i hi => h i (List.mem_range.1 hi))
theorem id_wsS (ws : List Int) : wsS ws (idL ws.length) = ws := by
  unfold wsS
  rw [id_ones, id_in]
  refine Eq.trans (matesL_congr (fun o ho => ?_)) (matesL_ws ws)
  rw [id_wts ws ws.length ws.length (Nat.le_refl _), if_pos ho]
theorem newE_ok' {ws : List Int} (hl : ws.length ≤ 4096) (hw : ∀ x ∈ ws, 1 ≤ x ∧ x ≤ 1099511627776) : newE ws = 0 := by
  unfold newE
  rw [if_neg (by omega), if_pos (List.all_eq_true.2 (fun x hx => may_mk (hw x hx).1 (hw x hx).2))]
/-- A graph whose things are all alone is shrunk to itself. -/
theorem id_shr {ws : List Int} {F : Nat → Nat → Int} (ht : Tab ws.length F) (hl : ws.length ≤ 4096) (hw : ∀ x ∈ ws, 1 ≤ x ∧ x ≤ 1099511627776) : shrE ws F (idL ws.length) = 0 ∧ shrF ws F (idL ws.length) = F := by
  have hO : shrO ws F (idL ws.length) = some F := by
    unfold shrO
    rw [id_ones, id_in]
    exact same_all ht
  unfold shrE shrF
  rw [hO, if_neg (by rw [id_right, idL_length]; simp), if_neg (by rw [id_wsS, newE_ok' hl hw]; simp)]
  exact ⟨rfl, rfl⟩
/-- What a graph is. -/
structure GdG (ws : List Int) (F : Nat → Nat → Int) : Prop where
  tab : Tab ws.length F
  small : ws.length ≤ 4096
  wts : ∀ x ∈ ws, 1 ≤ x ∧ x ≤ 1099511627776
theorem tab_joinF {n : Nat} {F : Nat → Nat → Int} (ht : Tab n F) {a b x : Int} (h : joinE n F a b x = 0) : Tab n (joinF n F a b x) := by
  unfold joinF
  rw [if_pos h]
  unfold joinE at h
  split at h
  · omega
  · rename_i h1
    split at h
    · omega
    · rename_i h2
      have ha : hasN n a = true := by cases e : hasN n a with | true => rfl | false => exact absurd (.inl e) h1
      have hb : hasN n b = true := by cases e : hasN n b with | true => rfl | false => exact absurd (.inr (.inl e)) h1
      have hab : a ≠ b := fun e => h1 (.inr (.inr e))
      obtain ⟨i, rfl, hi⟩ := hasN_t ha
      obtain ⟨j, rfl, hj⟩ := hasN_t hb
      have hm : may (btw n F (i : Int) (j : Int) + x) = true := by cases e : may (btw n F (i : Int) (j : Int) + x) with | true => rfl | false => exact absurd (.inr e) h2
      have := may_t hm
      rw [Int.toNat_natCast, Int.toNat_natCast]
      exact ht.join hi hj (by omega) (by omega) (by omega)
theorem shJ_tab (m : Nat) (is : List Int) : ∀ (l : List Edg) (F F' : Nat → Nat → Int), Tab m F → shJ m is l F = some F' → Tab m F'
  | [], F, F', ht, h => by injection h with h; rw [← h]; exact ht
  | e :: t, F, F', ht, h => by
    have h' : (shS m is e F).bind (shJ m is t) = some F' := h
    cases hs : shS m is e F with
    | none => rw [hs] at h'; cases h'
    | some F1 =>
      rw [hs] at h'
      refine shJ_tab m is t F1 F' ?_ h'
      unfold shS at hs
      split at hs
      · injection hs with hs; rw [← hs]; exact ht
      · split at hs
        · rename_i hj
          injection hs with hs
          rw [← hs]
          exact tab_joinF ht hj
        · cases hs
theorem shr_parts {ws : List Int} {F : Nat → Nat → Int} {ms : List Int} (h : shrE ws F ms = 0) : ms.length = ws.length ∧ mateR ms = true ∧ newE (wsS ws ms) = 0 ∧ shJ (onesN ms) (inL ms) (edgesD ws.length F) noTab = some (shrF ws F ms) := by
  unfold shrE at h
  split at h
  · omega
  · rename_i h1
    split at h
    · omega
    · rename_i h2
      refine ⟨Classical.byContradiction fun e => h1 (.inl e), ?_, Classical.byContradiction fun e => h2 (.inl e), ?_⟩
      · cases e : mateR ms with | true => rfl | false => exact absurd (.inr e) h1
      · cases e : shrO ws F ms with
        | none => exact absurd (.inr e) h2
        | some F' =>
          unfold shrF
          rw [e]
          exact e
theorem newE_all {zs : List Int} (h : newE zs = 0) : zs.length ≤ 4096 ∧ ∀ x ∈ zs, 1 ≤ x ∧ x ≤ 1099511627776 := by
  unfold newE at h
  split at h
  · omega
  · split at h
    · rename_i h1 h2
      exact ⟨by omega, fun x hx => may_t (List.all_eq_true.1 h2 x hx)⟩
    · omega
theorem shr_good {ws : List Int} {F : Nat → Nat → Int} {ms : List Int} (h : shrE ws F ms = 0) : GdG (wsS ws ms) (shrF ws F ms) := by
  obtain ⟨_, _, h3, h4⟩ := shr_parts h
  obtain ⟨h5, h6⟩ := newE_all h3
  exact ⟨by rw [wsS_length]; exact shJ_tab _ _ _ _ _ (Tab.none _) h4, h5, h6⟩
theorem sumTo_upd (f : Nat → Int) (p : Nat) (v : Int) : ∀ m, sumTo m (upd f p v) = sumTo m f + if p < m then v - f p else 0
  | 0 => by simp [sumTo]
  | m + 1 => by
    rw [sumTo, sumTo, sumTo_upd f p v m]
    unfold upd
    by_cases e : m = p
    · subst e
      rw [if_pos rfl, if_neg (by omega), if_pos (by omega)]; omega
    · rw [if_neg e]
      by_cases h : p < m
      · rw [if_pos h, if_pos (by omega)]; omega
      · rw [if_neg h, if_neg (by omega)]; omega
theorem sum_matesL (f : Nat → Int) : ∀ m, (matesL m f).sum = sumTo m f
  | 0 => rfl
  | m + 1 => by
    have : matesL (m + 1) f = matesL m f ++ [f m] := by simp [matesL, List.range_succ]
    rw [this, List.sum_append, sum_matesL f m, sumTo]
    simp
theorem sum_wts {ws is : List Int} {m : Nat} : ∀ j, (∀ i, i < j → ∃ o : Nat, is.getD i 0 = (o : Int) ∧ o < m) → sumTo m (wtsT ws is j) = sumTo j (fun i => ws.getD i 0)
  | 0, _ => by
    have : ∀ k, sumTo k (fun _ : Nat => (0 : Int)) = 0 := fun k => by induction k with | zero => rfl | succ k ih => rw [sumTo, ih]; rfl
    exact this m
  | j + 1, h => by
    obtain ⟨o, ho, hm⟩ := h j (Nat.lt_succ_self _)
    have ih := sum_wts (ws := ws) (is := is) (m := m) j (fun i hi => h i (by omega))
    have e : wtsT ws is (j + 1) = upd (wtsT ws is j) o (wtsT ws is j o + ws.getD j 0) := by
      show upd _ _ _ = _
      rw [ho, Int.toNat_natCast]
    rw [e, sumTo_upd, if_pos hm, ih, sumTo]
    omega
theorem shr_sum {ws ms : List Int} (hl : ms.length = ws.length) (hr : mateR ms = true) : (wsS ws ms).sum = ws.sum := by
  unfold wsS
  rw [sum_matesL, sum_wts ws.length (fun i hi => in_bd hr (by omega)), ← sum_matesL, matesL_ws]
/-- What a next level is. -/
theorem next_facts {least : Int} {ws : List Int} {F : Nat → Nat → Int} (hg : GdG ws F) {d : LvD} (h : nextD least ws F = some d) : GdG d.ws d.F ∧ d.ws.length < ws.length ∧ ws.length ≤ 2 * d.ws.length ∧ d.ws.sum = ws.sum ∧ d.ins.length = ws.length := by
  have hlt := next_less h
  unfold nextD at h
  split at h
  · cases h
  · split at h
    · cases h
    · rename_i h1 h2
      cases h
      have hE : shrE ws F (heavyF ws.length F) = 0 := Classical.byContradiction fun e => h2 (.inl e)
      have hr := heavy_right hg.tab
      have hl := left_heavy hg.tab
      refine ⟨shr_good hE, hlt, ?_, shr_sum (heavy_length _ _) hr, by show (inL _).length = _; rw [inL_length, heavy_length]⟩
      show ws.length ≤ 2 * (wsS _ _).length
      rw [wsS_length, ones_left hr]
      exact hl.2.1
/-- How many things the graph ahead of a level has. -/
def lenAt (n : Nat) (D : List LvD) : Nat → Nat
  | 0 => n
  | i + 1 => match D[i]? with
    | some d => d.ws.length
    | none => 0
theorem lev_at {least : Int} : ∀ (n : Nat) (ws : List Int) (F : Nat → Nat → Int), ws.length ≤ n → GdG ws F → ∀ (i : Nat) (d : LvD), (levelsD least ws F)[i]? = some d →
    GdG d.ws d.F ∧ d.ws.length < lenAt ws.length (levelsD least ws F) i ∧ lenAt ws.length (levelsD least ws F) i ≤ 2 * d.ws.length ∧ d.ws.sum = ws.sum ∧ d.ins.length = lenAt ws.length (levelsD least ws F) i
  | 0, ws, F, hn, hg, i, d, h => by
    cases hx : nextD least ws F with
    | none => rw [levelsD_none hx] at h; simp at h
    | some e => have := next_less hx; omega
  | n + 1, ws, F, hn, hg, i, d, h => by
    cases hx : nextD least ws F with
    | none => rw [levelsD_none hx] at h; simp at h
    | some e =>
      obtain ⟨g1, g2, g3, g4, g5⟩ := next_facts hg hx
      rw [levelsD_some hx] at h ⊢
      cases i with
      | zero =>
        simp at h
        subst h
        exact ⟨g1, g2, g3, g4, g5⟩
      | succ i =>
        have h' : (levelsD least e.ws e.F)[i]? = some d := by simpa using h
        obtain ⟨k1, k2, k3, k4, k5⟩ := lev_at n e.ws e.F (by omega) g1 i d h'
        have hL : lenAt ws.length (e :: levelsD least e.ws e.F) (i + 1) = lenAt e.ws.length (levelsD least e.ws e.F) i := by
          cases i with
          | zero => rfl
          | succ i => simp [lenAt]
        rw [hL]
        exact ⟨k1, k2, k3, by rw [k4, g4], k5⟩
end Go.Proofs.Ytbjgfkiaoffhlaa
