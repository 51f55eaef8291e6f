/- Plain: heaps as lists, by whatever strict weak order: what goes up, what comes out first, one behind the other. No program in this text. -/
import Derived.Lib.Hide
set_option linter.unusedVariables false
set_option linter.unusedSectionVars false
namespace Go.Proofs.YtjcmeacgfflfmaaGreat.Hg

/-- The place over another one. -/
def over (k : Nat) : Nat := (k - 1) / 2
theorem over_lt {k : Nat} (h : 0 < k) : over k < k := by unfold over; omega
theorem over_kid {c k : Nat} (h : 0 < c) (e : over c = k) : c = 2 * k + 1 ∨ c = 2 * k + 2 := by unfold over at e; omega

/-- A strict weak order. -/
structure Ord (X : Type) where
  lt : X → X → Bool
  asymm : ∀ a b, lt a b = true → lt b a = false
  trans : ∀ a b c, lt a b = false → lt b c = false → lt a c = false
theorem Ord.irr {X : Type} (kf : Ord X) (a : X) : kf.lt a a = false := by
  cases h : kf.lt a a with
  | false => rfl
  | true => rw [kf.asymm a a h] at h; cases h
/-- Below, and not above. -/
theorem Ord.lt_le {X : Type} (kf : Ord X) {a b c : X} (h : kf.lt a b = true) (k : kf.lt c b = false) : kf.lt a c = true := by
  cases h2 : kf.lt a c with
  | true => rfl
  | false => rw [kf.trans a c b h2 k] at h; cases h
theorem Ord.le_lt {X : Type} (kf : Ord X) {a b c : X} (h : kf.lt b a = false) (k : kf.lt b c = true) : kf.lt a c = true := by
  cases h2 : kf.lt a c with
  | true => rfl
  | false => rw [kf.trans b a c h h2] at k; cases k
section
variable {X : Type} (kf : Ord X)

/-- Does a come out ahead of b? -/
def ahead (a b : X × Int) : Bool := if a.2 < b.2 then !kf.lt b.1 a.1 else kf.lt a.1 b.1
variable {kf}
theorem ahead_iff {a b : X × Int} : ahead kf a b = true ↔ kf.lt a.1 b.1 = true ∨ (kf.lt b.1 a.1 = false ∧ a.2 < b.2) := by
  have h1 := kf.asymm a.1 b.1
  unfold ahead
  split
  · cases h2 : kf.lt b.1 a.1 <;> cases h3 : kf.lt a.1 b.1 <;> simp_all
  · cases h3 : kf.lt a.1 b.1 <;> simp_all
theorem ahead_not {a b : X × Int} : ahead kf a b = false ↔ kf.lt b.1 a.1 = true ∨ (kf.lt a.1 b.1 = false ∧ b.2 ≤ a.2) := by
  have h1 := kf.asymm b.1 a.1
  unfold ahead
  split
  · rename_i h
    cases h2 : kf.lt b.1 a.1 <;> cases h3 : kf.lt a.1 b.1 <;> simp_all <;> omega
  · rename_i h
    cases h2 : kf.lt b.1 a.1 <;> cases h3 : kf.lt a.1 b.1 <;> simp_all <;> omega
/-- Not ahead, in a row. -/
theorem nb_trans {a b c : X × Int} (h : ahead kf c b = false) (k : ahead kf b a = false) : ahead kf c a = false := by
  rw [ahead_not] at *
  rcases h with h | ⟨h, h'⟩
  · rcases k with k | ⟨k, _⟩
    · exact .inl (kf.lt_le k (kf.asymm _ _ h))
    · exact .inl (kf.le_lt k h)
  · rcases k with k | ⟨k, k'⟩
    · exact .inl (kf.lt_le k h)
    · exact .inr ⟨kf.trans _ _ _ h k, by omega⟩
theorem nb_of {a b : X × Int} (h : ahead kf a b = true) : ahead kf b a = false := by
  rw [ahead_not]
  rw [ahead_iff] at h
  exact h.imp id (fun h => ⟨h.1, by omega⟩)
theorem nb_refl (a : X × Int) : ahead kf a a = false := by rw [ahead_not]; exact .inr ⟨kf.irr _, Int.le_refl _⟩
variable [Inhabited X]
variable (kf)

/-- What stands at a place. -/
def g (L : List (X × Int)) (i : Nat) : X × Int := L.getD i default
variable {kf}
theorem g_set (L : List (X × Int)) (i : Nat) (a : X × Int) (j : Nat) (h : i < L.length) : g (L.set i a) j = if i = j then a else g L j := by
  unfold g
  simp only [List.getD_eq_getElem?_getD, List.getElem?_set]
  split
  · simp [*] at *
  · rfl
theorem g_set_eq (L : List (X × Int)) (i : Nat) (a : X × Int) (h : i < L.length) : g (L.set i a) i = a := by rw [g_set _ _ _ _ h, if_pos rfl]
theorem g_set_ne (L : List (X × Int)) {i j : Nat} (a : X × Int) (h : i ≠ j) : g (L.set i a) j = g L j := by
  unfold g
  simp only [List.getD_eq_getElem?_getD, List.getElem?_set, if_neg h]
theorem g_append_left (L : List (X × Int)) (e : X × Int) {i : Nat} (h : i < L.length) : g (L ++ [e]) i = g L i := by
  unfold g; simp [List.getElem?_append_left h]
theorem g_append_at (L : List (X × Int)) (e : X × Int) : g (L ++ [e]) L.length = e := by unfold g; simp
theorem g_get {L : List (X × Int)} {i : Nat} (h : i < L.length) : g L i = L[i] := by unfold g; simp [h]
theorem g_mem {L : List (X × Int)} {i : Nat} (h : i < L.length) : g L i ∈ L := by rw [g_get h]; exact List.getElem_mem h
variable (kf)

/-- None comes out ahead of the one over it. -/
def Heap (L : List (X × Int)) : Prop := ∀ c, 0 < c → c < L.length → ahead kf (g L c) (g L (over c)) = false
variable {kf}
theorem Heap.least {L : List (X × Int)} (h : Heap kf L) : ∀ k, k < L.length → ahead kf (g L k) (g L 0) = false := by
  intro k
  induction k using Nat.strongRecOn with
  | _ k ih =>
    intro hk
    by_cases h0 : k = 0
    · subst h0; exact nb_refl _
    · have := over_lt (k := k) (by omega)
      exact nb_trans (h k (by omega) hk) (ih _ this (by omega))
theorem swap_perm {L : List (X × Int)} {i j : Nat} (hi : i < L.length) (hj : j < L.length) : ((L.set i (g L j)).set j (g L i)).Perm L := by
  rw [g_get hi, g_get hj]; exact List.set_set_perm hi hj

/- What goes up. -/
variable (kf)
/-- From place k on up to a, e comes out ahead of each that stands over. -/
inductive Up (L : List (X × Int)) (e : X × Int) : Nat → Nat → Prop
  | refl (k : Nat) : Up L e k k
  | step {k a : Nat} (h : 0 < k) (ha : ahead kf e (g L (over k)) = true) (r : Up L e (over k) a) : Up L e k a
variable {kf}
theorem Up.le {L : List (X × Int)} {e : X × Int} {k a : Nat} (h : Up kf L e k a) : a ≤ k := by
  induction h with
  | refl k => exact Nat.le_refl _
  | step h _ _ ih => have := over_lt h; omega
theorem Up.snoc {L : List (X × Int)} {e : X × Int} {k a : Nat} (h : Up kf L e k a) (h0 : 0 < a) (ha : ahead kf e (g L (over a)) = true) : Up kf L e k (over a) := by
  induction h with
  | refl k => exact .step h0 ha (.refl _)
  | step h ha' _ ih => exact .step h ha' (ih h0 ha)
theorem Up.tail {L : List (X × Int)} {e : X × Int} {k a : Nat} (h : Up kf L e k a) (hne : a < k) : 0 < k ∧ ahead kf e (g L (over k)) = true ∧ Up kf L e (over k) a := by
  cases h with
  | refl => omega
  | step h ha r => exact ⟨h, ha, r⟩
variable (kf)
structure PushInv (L : List (X × Int)) (e : X × Int) (a : Nat) (M : List (X × Int)) (b : Nat) : Prop where
  length : M.length = L.length + 1
  le : b ≤ L.length
  up : Up kf L e b a
  agree : ∀ k, k < b → g M k = g L k
  edges : ∀ c, 0 < c → c < M.length → c ≠ b → ahead kf (g (M.set b e) c) (g (M.set b e) (over c)) = false
  kids : ∀ c, 0 < c → c < M.length → over c = b → 0 < b → ahead kf (g M c) (g L (over b)) = false
  perm : (M.set b e).Perm (L ++ [e])
variable {kf}
theorem PushInv.start {L : List (X × Int)} {e : X × Int} {a : Nat} (h : Heap kf L) (hu : Up kf L e L.length a) : PushInv kf L e a (L ++ [e]) L.length := by
  have hs : (L ++ [e]).set L.length e = L ++ [e] := by simp
  refine ⟨by simp, Nat.le_refl _, hu, fun k hk => g_append_left _ _ hk, fun c h0 hc hne => ?_, fun c h0 hc ho hb => ?_, ?_⟩
  · rw [hs]
    simp at hc
    have := over_lt h0
    rw [g_append_left _ _ (by omega), g_append_left _ _ (by omega)]
    exact h c h0 (by omega)
  · have := over_lt h0
    simp at hc
    omega
  · rw [hs]
theorem PushInv.next {L : List (X × Int)} {e : X × Int} {a : Nat} {M : List (X × Int)} {b : Nat} (hL : Heap kf L) (h : PushInv kf L e a M b) (hb : a < b) : PushInv kf L e a (M.set b (g M (over b))) (over b) := by
  obtain ⟨h0, ha, hr⟩ := h.up.tail hb
  have ho := over_lt h0
  have hle := h.le
  have hlen := h.length
  have hbM : b < M.length := by omega
  have hoM : over b < M.length := by omega
  have hgo : g M (over b) = g L (over b) := h.agree _ ho
  have hl2 : (M.set b (g M (over b))).length = M.length := by simp
  refine ⟨by rw [hl2]; exact hlen, by omega, hr, fun k hk => ?_, fun c c0 hc hne => ?_, fun c c0 hc hoc hb0 => ?_, ?_⟩
  · rw [g_set_ne _ _ (by omega)]; exact h.agree k (by omega)
  · rw [hl2] at hc
    have hco := over_lt c0
    rw [g_set _ _ _ c (by rw [hl2]; exact hoM), g_set _ _ _ (over c) (by rw [hl2]; exact hoM), if_neg (fun e => hne e.symm), g_set _ _ _ c hbM, g_set _ _ _ (over c) hbM]
    by_cases e1 : b = c
    · subst e1
      rw [if_pos rfl, if_pos rfl, hgo]
      exact nb_of ha
    · rw [if_neg e1]
      have he := h.edges c c0 hc (fun e => e1 e.symm)
      rw [g_set _ _ _ c hbM, if_neg e1, g_set _ _ _ (over c) hbM] at he
      by_cases e2 : over b = over c
      · rw [if_pos e2]
        rw [if_neg (by omega), ← e2, hgo] at he
        exact nb_trans he (nb_of ha)
      · rw [if_neg e2]
        by_cases e3 : b = over c
        · rw [if_pos e3, hgo]
          exact h.kids c c0 hc e3.symm h0
        · rw [if_neg e3]
          rw [if_neg e3] at he
          exact he
  · rw [hl2] at hc
    have hho := hL (over b) hb0 (by omega)
    by_cases e1 : b = c
    · subst e1
      rw [g_set_eq _ _ _ hbM, hgo]
      exact hho
    · rw [g_set_ne _ _ e1]
      have he := h.edges c c0 hc (fun e => e1 e.symm)
      rw [g_set _ _ _ c hbM, if_neg e1, g_set _ _ _ (over c) hbM, if_neg (by omega), hoc, hgo] at he
      exact nb_trans he hho
  · have hC : over b < (M.set b e).length := by simpa using hoM
    have hB : b < (M.set b e).length := by simpa using hbM
    have := swap_perm hB hC
    rw [g_set_eq _ _ _ hbM, g_set_ne _ _ (by omega), List.set_set] at this
    exact this.trans h.perm
theorem PushInv.last {L : List (X × Int)} {e : X × Int} {a : Nat} {M : List (X × Int)} {b : Nat} (h : PushInv kf L e a M b) (hb : ¬ a < b) (hs : a = 0 ∨ ahead kf e (g L (over a)) = false) : b = a ∧ Heap kf (M.set a e) ∧ (M.set a e).Perm (L ++ [e]) := by
  have hle := h.up.le
  obtain rfl : b = a := by omega
  have hbM : b < M.length := by have := h.le; have := h.length; omega
  refine ⟨rfl, fun c c0 hc => ?_, h.perm⟩
  by_cases e1 : c = b
  · subst e1
    have := over_lt c0
    rw [g_set_eq _ _ _ hbM, g_set_ne _ _ (by omega), h.agree _ this]
    exact hs.resolve_left (by omega)
  · exact h.edges c c0 (by simpa using hc) e1

/- What comes out. -/
variable (kf)
/-- From the top down to a place, each the least of those under the one over it. -/
inductive Least (L : List (X × Int)) : Nat → Prop
  | top : Least L 0
  | down {c : Nat} (h : 0 < c) (hc : c < L.length) (hm : ∀ s, 0 < s → s < L.length → over s = over c → ahead kf (g L s) (g L c) = false) (r : Least L (over c)) : Least L c
variable {kf}
theorem Least.inv {L : List (X × Int)} {c : Nat} (h : Least kf L c) (h0 : 0 < c) : c < L.length ∧ (∀ s, 0 < s → s < L.length → over s = over c → ahead kf (g L s) (g L c) = false) ∧ Least kf L (over c) := by
  cases h with
  | top => omega
  | down h hc hm r => exact ⟨hc, hm, r⟩
variable (kf)
/-- The place for e. -/
structure RoomOk (L : List (X × Int)) (e : X × Int) (r : Nat) : Prop where
  lt : r < L.length ∨ r = 0
  least : Least kf L r
  ahead : r = 0 ∨ ahead kf (g L r) e = true
  kids : ∀ c, 0 < c → c < L.length → over c = r → Hg.ahead kf (g L c) e = false
structure RotInv (L : List (X × Int)) (e : X × Int) (M : List (X × Int)) (x : X × Int) (a : Nat) : Prop where
  length : M.length = L.length
  lt : a < L.length ∨ a = 0
  heap : Heap kf (M.set a x)
  agree : ∀ k, (k ≤ a ∨ (0 < a ∧ 0 < k ∧ over k = over a)) → g M k = g L k
  least : Least kf L a
  behind : a = 0 ∨ ahead kf x (g L a) = false
  perm : (x :: M).Perm (e :: L)
variable {kf}
theorem RotInv.start {L : List (X × Int)} {e : X × Int} {r : Nat} (hL : Heap kf L) (h : RoomOk kf L e r) : RotInv kf L e L e r := by
  refine ⟨rfl, h.lt, fun c c0 hc => ?_, fun _ _ => rfl, h.least, h.ahead.imp id nb_of, List.Perm.refl _⟩
  have hc' : c < L.length := by simpa using hc
  have hr : r < L.length := by rcases h.lt with g | g <;> omega
  have ho := over_lt c0
  rw [g_set _ _ _ c hr, g_set _ _ _ (over c) hr]
  by_cases e1 : r = c
  · subst e1
    rw [if_pos rfl, if_neg (by omega)]
    exact nb_trans (nb_of (h.ahead.resolve_left (by omega))) (hL r c0 hc')
  · rw [if_neg e1]
    by_cases e2 : r = over c
    · rw [if_pos e2]
      exact h.kids c c0 hc' e2.symm
    · rw [if_neg e2]
      exact hL c c0 hc'
theorem RotInv.next {L : List (X × Int)} {e : X × Int} {M : List (X × Int)} {x : X × Int} {a : Nat} (hL : Heap kf L) (h : RotInv kf L e M x a) (h0 : 0 < a) : RotInv kf L e (M.set a x) (g M a) (over a) := by
  obtain ⟨hc, hm, hr⟩ := h.least.inv h0
  have ho := over_lt h0
  have hlen := h.length
  have haM : a < M.length := by omega
  have hga : g M a = g L a := h.agree a (.inl (Nat.le_refl _))
  have hx := h.behind.resolve_left (by omega)
  refine ⟨by simpa using hlen, by omega, fun c c0 hc' => ?_, fun k hk => ?_, hr, .inr (by rw [hga]; exact hL a h0 hc), ?_⟩
  · have hc2 : c < M.length := by simpa using hc'
    have hl : (M.set a x).length = M.length := by simp
    have hoc := over_lt c0
    have hh := h.heap c c0 (by rw [hl]; exact hc2)
    have hgo : g (M.set a x) (over a) = g L (over a) := by rw [g_set_ne _ _ (by omega)]; exact h.agree _ (.inl (by omega))
    rw [g_set _ _ _ c (by rw [hl]; omega), g_set _ _ _ (over c) (by rw [hl]; omega)]
    by_cases e1 : over a = c
    · rw [if_pos e1, if_neg (by omega)]
      rw [← e1, hgo] at hh
      rw [hga]
      rw [← e1]
      exact nb_trans (hL a h0 hc) hh
    · rw [if_neg e1]
      by_cases e2 : over a = over c
      · rw [if_pos e2, hga]
        by_cases e3 : a = c
        · subst e3
          rw [g_set_eq _ _ _ haM]
          exact hx
        · rw [g_set_ne _ _ e3, h.agree c (.inr ⟨h0, c0, e2.symm⟩)]
          exact hm c c0 (by omega) e2.symm
      · rw [if_neg e2]
        exact hh
  · have hne : a ≠ k := by
      intro e1
      subst e1
      rcases hk with hk | ⟨h1, h2, h3⟩
      · omega
      · have := over_lt h1; omega
    rw [g_set_ne _ _ hne]
    refine h.agree k ?_
    rcases hk with hk | ⟨h1, h2, h3⟩
    · exact .inl (by omega)
    · have : over k < a := by have := over_lt h1; omega
      exact .inl (by unfold over at *; omega)
  · have h1 : (g M a :: M.set a x).Perm (x :: M) := by
      have hsw : ((x :: M).set 0 (g M a)).set (a + 1) x = g M a :: M.set a x := by simp
      have := List.set_set_perm (as := x :: M) (i := 0) (j := a + 1) (by simp) (by simp; exact haM)
      rw [List.getElem_cons_succ, List.getElem_cons_zero, ← g_get haM, hsw] at this
      exact this
    exact h1.trans h.perm
theorem RotInv.last {L : List (X × Int)} {e : X × Int} {M : List (X × Int)} {x : X × Int} (h : RotInv kf L e M x 0) : Heap kf (M.set 0 x) ∧ (g (L ++ [e]) 0 :: M.set 0 x).Perm (L ++ [e]) := by
  refine ⟨h.heap, ?_⟩
  have hp := h.perm
  have hlen := h.length
  have ha := h.agree 0 (.inl (Nat.le_refl _))
  match M, hlen with
  | [], hlen =>
    have : L = [] := List.length_eq_zero_iff.1 hlen.symm
    subst this
    simp [g]
  | m :: M', hlen =>
    have h0 : 0 < L.length := by rw [← hlen]; simp
    rw [g_append_left _ _ h0, ← ha]
    have : g (m :: M') 0 = m := rfl
    rw [this]
    exact ((List.Perm.swap _ _ _).trans hp).trans (List.perm_append_singleton _ _).symm

/- The first of the least. -/
variable (kf)
def firstGo (row : List X) : Nat → Nat
  | 0 => 0
  | i + 1 => if kf.lt (row.getD (i + 1) default) (row.getD (firstGo row i) default) then i + 1 else firstGo row i
/-- The place of the least one that stands first. -/
def first (row : List X) : Nat := firstGo kf row (row.length - 1)
structure IsFirst (row : List X) (j : Nat) : Prop where
  lt : j < row.length
  ahead : ∀ i, i < j → kf.lt (row.getD j default) (row.getD i default) = true
  behind : ∀ i, j ≤ i → i < row.length → kf.lt (row.getD i default) (row.getD j default) = false
variable {kf}
theorem firstGo_le (row : List X) : ∀ i, firstGo kf row i ≤ i
  | 0 => Nat.le_refl _
  | i + 1 => by unfold firstGo; have := firstGo_le row i; split <;> omega
theorem firstGo_is (row : List X) : ∀ i, (∀ k, k < firstGo kf row i → kf.lt (row.getD (firstGo kf row i) default) (row.getD k default) = true) ∧ ∀ k, firstGo kf row i ≤ k → k ≤ i → kf.lt (row.getD k default) (row.getD (firstGo kf row i) default) = false
  | 0 => ⟨fun k hk => by simp [firstGo] at hk, fun k _ hk => by
      have : k = 0 := by omega
      subst this
      exact kf.irr _⟩
  | i + 1 => by
      have ih := firstGo_is row i
      have hle := firstGo_le (kf := kf) row i
      unfold firstGo
      split
      · rename_i hlt
        refine ⟨fun k hk => ?_, fun k h1 h2 => ?_⟩
        · by_cases h : k < firstGo kf row i
          · exact kf.lt_le (ih.1 k h |> fun h3 => hlt) (kf.asymm _ _ (ih.1 k h))
          · exact kf.lt_le hlt (ih.2 k (by omega) (by omega))
        · have : k = i + 1 := by omega
          subst this; exact kf.irr _
      · rename_i hge
        refine ⟨ih.1, fun k h1 h2 => ?_⟩
        by_cases h : k = i + 1
        · subst h; simpa using hge
        · exact ih.2 k h1 (by omega)
theorem first_is {row : List X} (h : row ≠ []) : IsFirst kf row (first kf row) := by
  have hl : 0 < row.length := List.length_pos_iff.2 h
  have h1 := firstGo_is (kf := kf) row (row.length - 1)
  have h2 := firstGo_le (kf := kf) row (row.length - 1)
  exact ⟨by unfold first; omega, h1.1, fun i a b => h1.2 i a (by omega)⟩
theorem IsFirst.uniq {row : List X} {i j : Nat} (h : IsFirst kf row i) (k : IsFirst kf row j) : i = j := by
  have h1 := h.lt
  have h2 := k.lt
  rcases Nat.lt_trichotomy i j with c | c | c
  · have h3 := k.ahead i c; have h4 := h.behind j (by omega) h2; rw [h3] at h4; cases h4
  · exact c
  · have h3 := h.ahead j c; have h4 := k.behind i (by omega) h1; rw [h3] at h4; cases h4

variable (kf)
/-- A list that is a heap of a row, which stands as it was put in. -/
def Holds (W : List (X × Int)) (row : List X) (puts : Int) : Prop :=
  Heap kf W ∧ ∃ es : List (X × Int), W.Perm es ∧ es.map (·.1) = row ∧ es.Pairwise (fun a b => a.2 < b.2) ∧ ∀ e ∈ es, e.2 < puts
variable {kf}
theorem Holds.length {W : List (X × Int)} {row : List X} {puts : Int} (h : Holds kf W row puts) : W.length = row.length := by
  obtain ⟨_, es, hp, hm, _⟩ := h
  rw [hp.length_eq, ← hm, List.length_map]
theorem Holds.nil (puts : Int) : Holds kf [] [] puts :=
  ⟨fun c _ hc => by simp at hc, [], List.Perm.refl _, rfl, .nil, fun _ h => by simp at h⟩
theorem Holds.push {W : List (X × Int)} {row : List X} {puts : Int} (h : Holds kf W row puts) (x : X) {W' : List (X × Int)} (hh : Heap kf W') (hp : W'.Perm (W ++ [(x, puts)])) : Holds kf W' (row ++ [x]) (puts + 1) := by
  obtain ⟨_, es, h1, h2, h3, h4⟩ := h
  refine ⟨hh, es ++ [(x, puts)], hp.trans (h1.append_right _), by simp [h2], ?_, fun e he => ?_⟩
  · rw [List.pairwise_append]
    exact ⟨h3, List.pairwise_singleton _ _, fun a ha b hb => by simp at hb; subst hb; exact h4 a ha⟩
  · rw [List.mem_append] at he
    rcases he with he | he
    · have := h4 e he; omega
    · simp at he; subst he; show puts < puts + 1; omega
theorem pair_at {es : List (X × Int)} (h : es.Pairwise (fun a b => a.2 < b.2)) {i j : Nat} (hi : i < j) (hj : j < es.length) : (g es i).2 < (g es j).2 := by
  rw [g_get (by omega), g_get hj]
  exact List.pairwise_iff_getElem.1 h i j (by omega) hj hi
theorem map_at {es : List (X × Int)} {row : List X} (h : es.map (·.1) = row) {i : Nat} (hi : i < es.length) : row.getD i default = (g es i).1 := by
  subst h; rw [g_get hi]; simp [hi]
theorem Holds.top {W : List (X × Int)} {row : List X} {puts : Int} (h : Holds kf W row puts) (hne : row ≠ []) : (g W 0).1 = row.getD (first kf row) default := by
  obtain ⟨hh, es, hp, hm, hs, _⟩ := h
  have hl : es.length = row.length := by rw [← hm, List.length_map]
  have hr : 0 < row.length := List.length_pos_iff.2 hne
  have hw : W.length = es.length := hp.length_eq
  have hmem : g W 0 ∈ es := hp.mem_iff.1 (g_mem (by omega))
  obtain ⟨j, hj, hje⟩ := List.getElem_of_mem hmem
  have hall : ∀ i, i < es.length → ahead kf (g es i) (g W 0) = false := by
    intro i hi
    have : g es i ∈ W := hp.mem_iff.2 (g_mem hi)
    obtain ⟨k, hk, hke⟩ := List.getElem_of_mem this
    rw [← hke, ← g_get hk]
    exact hh.least k hk
  have hgj : g W 0 = g es j := by rw [g_get hj, hje]
  have hF : IsFirst kf row j := by
    refine ⟨by omega, fun i hi => ?_, fun i h1 h2 => ?_⟩
    · rw [map_at hm (i := j) hj, map_at hm (i := i) (by omega)]
      have a1 := hall i (by omega)
      rw [hgj, ahead_not] at a1
      have := pair_at hs hi hj
      exact a1.resolve_right (fun e => by omega)
    · rw [map_at hm (i := j) hj, map_at hm (i := i) (by omega)]
      have a1 := hall i (by omega)
      rw [hgj, ahead_not] at a1
      rcases a1 with a1 | a1
      · exact kf.asymm _ _ a1
      · exact a1.1
  rw [(first_is hne).uniq hF, hgj, map_at hm hj]
theorem getD_set_erase {es : List (X × Int)} {j : Nat} (hj : j < es.length) : (es[j] :: es.eraseIdx j).Perm es := by
  rw [List.eraseIdx_eq_take_drop_succ]
  have h1 : es.take j ++ es[j] :: es.drop (j + 1) = es := by rw [List.getElem_cons_drop, List.take_append_drop]
  have h2 : (es.take j ++ es[j] :: es.drop (j + 1)).Perm (es[j] :: (es.take j ++ es.drop (j + 1))) := List.perm_middle
  rw [h1] at h2
  exact h2.symm
theorem Holds.pop {W : List (X × Int)} {row : List X} {puts : Int} (h : Holds kf W row puts) (hne : row ≠ []) {F : List (X × Int)} (hF : Heap kf F) (hp' : (g W 0 :: F).Perm W) : Holds kf F (row.eraseIdx (first kf row)) puts := by
  obtain ⟨hh, es, hp, hm, hs, hb⟩ := h
  have hl : es.length = row.length := by rw [← hm, List.length_map]
  have hr : 0 < row.length := List.length_pos_iff.2 hne
  have hw : W.length = es.length := hp.length_eq
  have hmem : g W 0 ∈ es := hp.mem_iff.1 (g_mem (by omega))
  obtain ⟨j, hj, hje⟩ := List.getElem_of_mem hmem
  have hall : ∀ i, i < es.length → ahead kf (g es i) (g W 0) = false := by
    intro i hi
    have : g es i ∈ W := hp.mem_iff.2 (g_mem hi)
    obtain ⟨k, hk, hke⟩ := List.getElem_of_mem this
    rw [← hke, ← g_get hk]
    exact hh.least k hk
  have hgj : g W 0 = g es j := by rw [g_get hj, hje]
  have hFj : IsFirst kf row j := by
    refine ⟨by omega, fun i hi => ?_, fun i h1 h2 => ?_⟩
    · rw [map_at hm (i := j) hj, map_at hm (i := i) (by omega)]
      have a1 := hall i (by omega)
      rw [hgj, ahead_not] at a1
      have := pair_at hs hi hj
      exact a1.resolve_right (fun e => by omega)
    · rw [map_at hm (i := j) hj, map_at hm (i := i) (by omega)]
      have a1 := hall i (by omega)
      rw [hgj, ahead_not] at a1
      rcases a1 with a1 | a1
      · exact kf.asymm _ _ a1
      · exact a1.1
  rw [(first_is hne).uniq hFj]
  refine ⟨hF, es.eraseIdx j, ?_, by rw [← hm, List.eraseIdx_eq_take_drop_succ, List.eraseIdx_eq_take_drop_succ, List.map_append, List.map_take, List.map_drop], hs.sublist (List.eraseIdx_sublist _ _), fun e he => hb e (List.mem_of_mem_eraseIdx he)⟩
  have h1 := (hp'.trans hp).trans (getD_set_erase hj).symm
  rw [hje] at h1
  exact h1.cons_inv

/- A row in order. -/
variable (kf)
/-- What comes out of a row, one behind the other: so many. -/
def outs : Nat → List X → List X
  | 0, _ => []
  | n + 1, row => if row.length = 0 then [] else row.getD (first kf row) default :: outs n (row.eraseIdx (first kf row))
/-- What is left. -/
def left : Nat → List X → List X
  | 0, row => row
  | n + 1, row => if row.length = 0 then [] else left n (row.eraseIdx (first kf row))
def srt (row : List X) : List X := outs kf row.length row
end
section
variable {X : Type} [Inhabited X] (kf : Ord X)
/-- The one that comes out. -/
def top (row : List X) : X := row.getD (first kf row) default
/-- The row without it. -/
def rest (row : List X) : List X := row.eraseIdx (first kf row)
variable {kf}
theorem first_lt {row : List X} (h : row.length ≠ 0) : first kf row < row.length := (first_is (by intro e; subst e; exact h rfl)).lt
theorem rest_length {row : List X} (h : row.length ≠ 0) : (rest kf row).length = row.length - 1 := by
  unfold rest; rw [List.length_eraseIdx, if_pos (first_lt h)]
theorem rest_length' (row : List X) : (rest kf row).length = row.length - 1 := by
  by_cases h : row.length = 0
  · have : row = [] := List.length_eq_zero_iff.1 h
    subst this; rfl
  · exact rest_length h
theorem outs_zero (row : List X) : outs kf 0 row = [] := rfl
theorem outs_succ (k : Nat) (row : List X) (h : row.length ≠ 0) : outs kf (k + 1) row = top kf row :: outs kf k (rest kf row) := by
  rw [outs, if_neg h]; rfl
theorem left_zero (row : List X) : left kf 0 row = row := rfl
theorem left_succ (k : Nat) (row : List X) (h : row.length ≠ 0) : left kf (k + 1) row = left kf k (rest kf row) := by
  rw [left, if_neg h]; rfl
theorem outs_nil (k : Nat) : outs kf k ([] : List X) = [] := by cases k <;> simp [outs]
theorem left_nil (k : Nat) : left kf k ([] : List X) = [] := by cases k <;> simp [left]
theorem nil_of {row : List X} (h : row.length = 0) : row = [] := List.length_eq_zero_iff.1 h
theorem left_length : ∀ (k : Nat) (row : List X), (left kf k row).length = row.length - k
  | 0, row => rfl
  | k + 1, row => by
    by_cases h : row.length = 0
    · rw [nil_of h, left_nil]; simp
    · rw [left_succ k row h, left_length k, rest_length h]; omega
theorem outs_length : ∀ (k : Nat) (row : List X), (outs kf k row).length = min k row.length
  | 0, row => by simp [outs]
  | k + 1, row => by
    by_cases h : row.length = 0
    · rw [nil_of h, outs_nil]; simp
    · rw [outs_succ k row h, List.length_cons, outs_length k, rest_length h]; omega
/-- One more. -/
theorem outs_snoc : ∀ (k : Nat) (row : List X), k < row.length → outs kf (k + 1) row = outs kf k row ++ [top kf (left kf k row)]
  | 0, row, h => by rw [outs_succ 0 row (by omega)]; rfl
  | k + 1, row, h => by
    have hr := rest_length (kf := kf) (row := row) (by omega)
    rw [outs_succ (k + 1) row (by omega), outs_snoc k _ (by omega), outs_succ k row (by omega), left_succ k row (by omega)]
    rfl
theorem left_snoc : ∀ (k : Nat) (row : List X), k < row.length → left kf (k + 1) row = rest kf (left kf k row)
  | 0, row, h => by rw [left_succ 0 row (by omega)]; rfl
  | k + 1, row, h => by
    have hr := rest_length (kf := kf) (row := row) (by omega)
    rw [left_succ (k + 1) row (by omega), left_snoc k _ (by omega), left_succ k row (by omega)]
theorem outs_all : ∀ (k : Nat) (row : List X), row.length ≤ k → outs kf k row = srt kf row
  | k, row, h => by
    have key : ∀ (n k : Nat) (row : List X), row.length = n → n ≤ k → outs kf k row = outs kf n row := by
      intro n
      induction n with
      | zero => intro k row hl _; rw [nil_of hl, outs_nil, outs_nil]
      | succ n ih =>
        intro k row hl hk
        obtain ⟨k, rfl⟩ : ∃ j, k = j + 1 := ⟨k - 1, by omega⟩
        rw [outs_succ k row (by omega), outs_succ n row (by omega), ih k _ (by rw [rest_length (by omega)]; omega) (by omega)]
    exact key _ k row rfl h
theorem outs_take : ∀ (k m : Nat) (row : List X), k ≤ m → (outs kf m row).take k = outs kf k row
  | 0, m, row, _ => by simp [outs]
  | k + 1, m, row, h => by
    obtain ⟨m, rfl⟩ : ∃ j, m = j + 1 := ⟨m - 1, by omega⟩
    by_cases h0 : row.length = 0
    · rw [nil_of h0, outs_nil, outs_nil]; rfl
    · rw [outs_succ m row h0, outs_succ k row h0, List.take_succ_cons, outs_take k m _ (by omega)]
theorem srt_take (k : Nat) (row : List X) : (srt kf row).take k = outs kf k row := by
  by_cases h : k ≤ row.length
  · exact outs_take k _ row h
  · rw [outs_all k row (by omega), List.take_of_length_le]
    unfold srt; rw [outs_length]; omega
theorem srt_length (row : List X) : (srt kf row).length = row.length := by unfold srt; rw [outs_length]; omega
theorem srt_succ (row : List X) (h : row.length ≠ 0) : srt kf row = top kf row :: srt kf (rest kf row) := by
  obtain ⟨n, hn⟩ : ∃ n, row.length = n + 1 := ⟨row.length - 1, by omega⟩
  have hr := rest_length (kf := kf) h
  unfold srt
  rw [hn, outs_succ n row h, show (rest kf row).length = n by omega]
/-- In two parts. -/
theorem outs_left : ∀ (k : Nat) (row : List X), outs kf k row ++ srt kf (left kf k row) = srt kf row
  | 0, row => rfl
  | k + 1, row => by
    by_cases h : row.length = 0
    · rw [nil_of h, outs_nil, left_nil]; rfl
    · rw [outs_succ k row h, left_succ k row h, srt_succ row h, List.cons_append, outs_left k]
end
end Go.Proofs.YtjcmeacgfflfmaaGreat.Hg
