/- Plain: mates, pairs, and what is known of the ones that things go with. -/
import Derived.Test.YtbjgfkiaoffhlaaZs
set_option linter.unusedVariables false
set_option linter.unusedSectionVars false
namespace Go.Proofs.Ytbjgfkiaoffhlaa
open Go.RowKit Rk

/-- One step of the search: the best yet, and what there is with it. -/
def hvS (ms : List Int) (s : Int × Int) (x : Int × Int) : Int × Int := if ms.getD x.1.toNat 0 = x.1 ∧ s.2 < x.2 then x else s
def hvR (ms : List Int) (i : Nat) (l : List (Int × Int)) : Int × Int := l.foldl (hvS ms) ((i : Int), 0)
theorem hvR_snoc (ms : List Int) (i : Nat) (l : List (Int × Int)) (x : Int × Int) : hvR ms i (l ++ [x]) = hvS ms (hvR ms i l) x := by simp [hvR]
/-- The one that a thing goes with. -/
def hvF (ms : List Int) (n : Nat) (F : Nat → Nat → Int) (i : Nat) : Int := (hvR ms i (rowOf n (F i))).1
theorem hvS_spec (ms : List Int) : ∀ (l : List (Int × Int)) (s : Int × Int) (P : Int × Int → Prop), (∀ x ∈ l, 0 < x.2 ∧ P x) → 0 ≤ s.2 →
    ((l.foldl (hvS ms) s = s) ∨ (P (l.foldl (hvS ms) s) ∧ ms.getD (l.foldl (hvS ms) s).1.toNat 0 = (l.foldl (hvS ms) s).1)) ∧ s.2 ≤ (l.foldl (hvS ms) s).2 ∧ ∀ x ∈ l, ms.getD x.1.toNat 0 = x.1 → x.2 ≤ (l.foldl (hvS ms) s).2
  | [], s, P, _, _ => ⟨.inl rfl, Int.le_refl _, fun x hx => by cases hx⟩
  | y :: l, s, P, h, h0 => by
    have hy := h y (List.mem_cons_self ..)
    rw [List.foldl_cons]
    by_cases hc : ms.getD y.1.toNat 0 = y.1 ∧ s.2 < y.2
    · have e : hvS ms s y = y := if_pos hc
      rw [e]
      obtain ⟨h1, h2, h3⟩ := hvS_spec ms l y P (fun x hx => h x (List.mem_cons_of_mem _ hx)) (by omega)
      refine ⟨.inr ?_, by omega, fun x hx hm => ?_⟩
      · rcases h1 with h1 | h1
        · rw [h1]; exact ⟨hy.2, hc.1⟩
        · exact h1
      · rcases List.mem_cons.1 hx with rfl | hx
        · exact h2
        · exact h3 x hx hm
    · have e : hvS ms s y = s := if_neg hc
      rw [e]
      obtain ⟨h1, h2, h3⟩ := hvS_spec ms l s P (fun x hx => h x (List.mem_cons_of_mem _ hx)) h0
      refine ⟨h1, h2, fun x hx hm => ?_⟩
      rcases List.mem_cons.1 hx with rfl | hx
      · have : ¬ s.2 < x.2 := fun h4 => hc ⟨hm, h4⟩
        omega
      · exact h3 x hx hm
/-- Mates as a list. -/
def matesL (n : Nat) (mf : Nat → Int) : List Int := (List.range n).map mf
theorem matesL_getD {n : Nat} (mf : Nat → Int) {i : Nat} (h : i < n) : (matesL n mf).getD i 0 = mf i := by simp [matesL, List.getD, h]
theorem matesL_length (n : Nat) (mf : Nat → Int) : (matesL n mf).length = n := by simp [matesL]
theorem hvF_facts {n : Nat} {F : Nat → Nat → Int} (ht : Tab n F) {mf : Nat → Int} {i : Nat} (hi : i < n) :
    ∃ b : Nat, hvF (matesL n mf) n F i = (b : Int) ∧ b < n ∧ ((b = i ∧ ∀ c, c < n → mf c = (c : Int) → F i c = 0) ∨ (b ≠ i ∧ mf b = (b : Int) ∧ 0 < F i b ∧ ∀ c, c < n → mf c = (c : Int) → F i c ≤ F i b)) := by
  obtain ⟨h1, h2, h3⟩ := hvS_spec (matesL n mf) (rowOf n (F i)) ((i : Int), 0) (fun x => ∃ b : Nat, b < n ∧ 0 < F i b ∧ x = ((b : Int), F i b)) (fun x hx => by
    obtain ⟨b, h1, h2, rfl⟩ := mem_rowOf.1 hx
    exact ⟨h2, b, h1, h2, rfl⟩) (Int.le_refl _)
  have hall : ∀ c, c < n → mf c = (c : Int) → F i c ≤ (hvR (matesL n mf) i (rowOf n (F i))).2 := fun c hc hm => by
    by_cases h0 : 0 < F i c
    · have := h3 ((c : Int), F i c) (mem_rowOf.2 ⟨c, hc, h0, rfl⟩) (by simp only [Int.toNat_natCast]; rw [matesL_getD mf hc, hm])
      exact this
    · have : 0 ≤ (hvR (matesL n mf) i (rowOf n (F i))).2 := h2
      omega
  rcases h1 with h1 | ⟨⟨b, hb1, hb2, hb3⟩, hb4⟩
  · have h1 : hvR (matesL n mf) i (rowOf n (F i)) = ((i : Int), 0) := h1
    refine ⟨i, by unfold hvF; rw [h1], hi, .inl ⟨rfl, fun c hc hm => ?_⟩⟩
    have h4 := hall c hc hm
    rw [h1] at h4
    have h5 := ht.lo i c
    have h4 : F i c ≤ 0 := h4
    omega
  · have hb3 : hvR (matesL n mf) i (rowOf n (F i)) = ((b : Int), F i b) := hb3
    have hb4 : (matesL n mf).getD (hvR (matesL n mf) i (rowOf n (F i))).1.toNat 0 = (hvR (matesL n mf) i (rowOf n (F i))).1 := hb4
    rw [hb3] at hb4 hall
    simp only [Int.toNat_natCast] at hb4
    rw [matesL_getD mf hb1] at hb4
    refine ⟨b, by unfold hvF; rw [hb3], hb1, .inr ⟨fun e => ?_, hb4, hb2, hall⟩⟩
    subst e
    rw [ht.diag] at hb2
    omega
/-- Mates, thing by thing. -/
def hyAt (n : Nat) (F : Nat → Nat → Int) : Nat → Nat → Int
  | 0 => fun i => (i : Int)
  | k + 1 => if hyAt n F k k = (k : Int) then upd (upd (hyAt n F k) k (hvF (matesL n (hyAt n F k)) n F k)) (hvF (matesL n (hyAt n F k)) n F k).toNat (k : Int) else hyAt n F k
def heavyF (n : Nat) (F : Nat → Nat → Int) : List Int := matesL n (hyAt n F n)
/-- What holds while things are paired. -/
structure HyOk (n : Nat) (F : Nat → Nat → Int) (k : Nat) (mf : Nat → Int) : Prop where
  inv : ∀ i, i < n → ∃ b : Nat, mf i = (b : Int) ∧ b < n ∧ mf b = (i : Int)
  some : ∀ i, i < n → ∀ b : Nat, mf i = (b : Int) → b ≠ i → 0 < F i b
  alone : ∀ i, i < k → i < n → mf i = (i : Int) → ∀ c, c < n → mf c = (c : Int) → F i c = 0
theorem hy_step {n : Nat} {F : Nat → Nat → Int} {k : Nat} (h : hyAt n F k k = (k : Int)) : hyAt n F (k + 1) = upd (upd (hyAt n F k) k (hvF (matesL n (hyAt n F k)) n F k)) (hvF (matesL n (hyAt n F k)) n F k).toNat (k : Int) := by
  simp only [hyAt]; exact if_pos h
theorem hy_stay {n : Nat} {F : Nat → Nat → Int} {k : Nat} (h : ¬ hyAt n F k k = (k : Int)) : hyAt n F (k + 1) = hyAt n F k := by
  simp only [hyAt]; exact if_neg h
theorem hy_ok {n : Nat} {F : Nat → Nat → Int} (ht : Tab n F) : ∀ k, k ≤ n → HyOk n F k (hyAt n F k)
  | 0, _ => ⟨fun i hi => ⟨i, rfl, hi, rfl⟩, fun i hi b hb hne => absurd (by have hb : (i : Int) = (b : Int) := hb; omega) hne, fun i hi => absurd hi (Nat.not_lt_zero _)⟩
  | k + 1, hk => by
    have ih := hy_ok ht k (by omega)
    by_cases hm : hyAt n F k k = (k : Int)
    · rw [hy_step hm]
      obtain ⟨b, hb, hbn, hc⟩ := hvF_facts ht (mf := hyAt n F k) (i := k) (by omega)
      rw [hb, Int.toNat_natCast]
      generalize hyAt n F k = mf at *
      rcases hc with ⟨rfl, hc⟩ | ⟨hne, hfree, hpos, hmax⟩
      · have e : upd (upd mf b (b : Int)) b (b : Int) = mf := by
          funext c
          unfold upd
          by_cases e : c = b
          · rw [if_pos e, e, hm]
          · rw [if_neg e, if_neg e]
        rw [e]
        refine ⟨ih.inv, ih.some, fun i hi hin hmi c hcn hmc => ?_⟩
        by_cases e : i = b
        · subst e; exact hc c hcn hmc
        · exact ih.alone i (by omega) hin hmi c hcn hmc
      · have hu : ∀ c, upd (upd mf k (b : Int)) b (k : Int) c = if c = b then (k : Int) else if c = k then (b : Int) else mf c := fun c => rfl
        have hfix : ∀ c, c < n → c ≠ b → c ≠ k → mf c ≠ (b : Int) ∧ mf c ≠ (k : Int) := fun c hcn h1 h2 => by
          obtain ⟨d, hd1, hd2, hd3⟩ := ih.inv c hcn
          refine ⟨fun e => h1 ?_, fun e => h2 ?_⟩
          · rw [hd1] at e
            have : d = b := by omega
            subst this
            rw [hfree] at hd3; omega
          · rw [hd1] at e
            have : d = k := by omega
            subst this
            rw [hm] at hd3; omega
        refine ⟨fun i hi => ?_, fun i hi d hd hne2 => ?_, fun i hi hin hmi c hcn hmc => ?_⟩
        · by_cases e1 : i = b
          · subst e1
            exact ⟨k, by rw [hu, if_pos rfl], by omega, by rw [hu, if_neg (fun e => hne e.symm), if_pos rfl]⟩
          · by_cases e2 : i = k
            · subst e2
              exact ⟨b, by rw [hu, if_neg e1, if_pos rfl], hbn, by rw [hu, if_pos rfl]⟩
            · obtain ⟨d, hd1, hd2, hd3⟩ := ih.inv i hi
              have hx := hfix i hi e1 e2
              exact ⟨d, by rw [hu, if_neg e1, if_neg e2, hd1], hd2, by
                rw [hu, if_neg (fun e => hx.1 (by rw [hd1, e])), if_neg (fun e => hx.2 (by rw [hd1, e])), hd3]⟩
        · rw [hu] at hd
          by_cases e1 : i = b
          · rw [if_pos e1] at hd
            have : d = k := by omega
            subst this
            rw [e1, ht.sym]; exact hpos
          · rw [if_neg e1] at hd
            by_cases e2 : i = k
            · rw [if_pos e2] at hd
              have : d = b := by omega
              subst this
              rw [e2]; exact hpos
            · rw [if_neg e2] at hd
              exact ih.some i hi d hd hne2
        · have key : ∀ d : Nat, upd (upd mf k (b : Int)) b (k : Int) d = (d : Int) → d ≠ b ∧ d ≠ k ∧ mf d = (d : Int) := fun d hd => by
            rw [hu] at hd
            by_cases e1 : d = b
            · rw [if_pos e1] at hd; omega
            · rw [if_neg e1] at hd
              by_cases e2 : d = k
              · rw [if_pos e2] at hd; omega
              · rw [if_neg e2] at hd
                exact ⟨e1, e2, hd⟩
          obtain ⟨i1, i2, i3⟩ := key i hmi
          obtain ⟨c1, c2, c3⟩ := key c hmc
          exact ih.alone i (by omega) hin i3 c hcn c3
    · rw [hy_stay hm]
      refine ⟨ih.inv, ih.some, fun i hi hin hmi c hcn hmc => ?_⟩
      by_cases e : i = k
      · subst e; exact absurd hmi hm
      · exact ih.alone i (by omega) hin hmi c hcn hmc
/-- Who goes with another goes with it ever after. -/
theorem hy_keep {n : Nat} {F : Nat → Nat → Int} (ht : Tab n F) {i : Nat} (hi : i < n) {v : Int} : ∀ (j k : Nat), k + j ≤ n → hyAt n F k i = v → v ≠ (i : Int) → hyAt n F (k + j) i = v
  | 0, k, _, h, _ => h
  | j + 1, k, hk, h, hv => by
    have ih := hy_keep ht hi j k (by omega) h hv
    show hyAt n F ((k + j) + 1) i = v
    by_cases hm : hyAt n F (k + j) (k + j) = ((k + j : Nat) : Int)
    · rw [hy_step hm]
      obtain ⟨b, hb, hbn, hc⟩ := hvF_facts ht (mf := hyAt n F (k + j)) (i := k + j) (by omega)
      rw [hb, Int.toNat_natCast]
      have h1 : i ≠ k + j := fun e => hv (by have := hm; rw [show hyAt n F (k + j) (k + j) = hyAt n F (k + j) i by rw [e], ih] at this; omega)
      have h2 : i ≠ b := fun e => by
        rcases hc with ⟨rfl, _⟩ | ⟨_, hf, _⟩
        · exact h1 e
        · exact hv (by have := hf; rw [show hyAt n F (k + j) b = hyAt n F (k + j) i by rw [e], ih] at this; omega)
      unfold upd
      rw [if_neg h2, if_neg h1, ih]
    · rw [hy_stay hm, ih]
/-- While nothing is between things and others, all are alone. -/
theorem hy_id {n : Nat} {F : Nat → Nat → Int} (ht : Tab n F) : ∀ k, k ≤ n → (∀ j, j < k → ∀ c, c < n → F j c = 0) → hyAt n F k = fun i : Nat => (i : Int)
  | 0, _, _ => rfl
  | k + 1, hk, h => by
    have ih := hy_id ht k (by omega) (fun j hj => h j (by omega))
    have hm : hyAt n F k k = (k : Int) := by rw [ih]
    rw [hy_step hm]
    obtain ⟨b, hb, hbn, hc⟩ := hvF_facts ht (mf := hyAt n F k) (i := k) (by omega)
    rw [hb, Int.toNat_natCast]
    rcases hc with ⟨rfl, _⟩ | ⟨_, _, hp, _⟩
    · rw [ih]
      funext c
      unfold upd
      by_cases e : c = b
      · rw [if_pos e, e]
      · rw [if_neg e, if_neg e]
    · rw [h k (Nat.lt_succ_self k) b hbn] at hp; omega
/-- The first thing that something is between it and others goes with one with which it has most. -/
theorem hy_first {n : Nat} {F : Nat → Nat → Int} (ht : Tab n F) {i : Nat} (hi : i < n) (h : ∀ j, j < i → ∀ c, c < n → F j c = 0) {c0 : Nat} (hc0 : c0 < n) (hp : 0 < F i c0) :
    ∃ b : Nat, hyAt n F n i = (b : Int) ∧ b < n ∧ b ≠ i ∧ 0 < F i b ∧ ∀ c, c < n → F i c ≤ F i b := by
  have hid := hy_id ht i (by omega) h
  have hm : hyAt n F i i = (i : Int) := by rw [hid]
  obtain ⟨b, hb, hbn, hc⟩ := hvF_facts ht (mf := hyAt n F i) hi
  rcases hc with ⟨_, hc⟩ | ⟨hne, _, hpos, hmax⟩
  · have := hc c0 hc0 (by rw [hid]); omega
  · refine ⟨b, ?_, hbn, hne, hpos, fun c hcn => hmax c hcn (by rw [hid])⟩
    have h1 : hyAt n F (i + 1) i = (b : Int) := by
      rw [hy_step hm, hb, Int.toNat_natCast]
      unfold upd
      rw [if_neg (fun e => hne e.symm), if_pos rfl]
    have := hy_keep ht hi (n - (i + 1)) (i + 1) (by omega) h1 (by omega)
    rwa [show i + 1 + (n - (i + 1)) = n by omega] at this
/-- Has each one's mate it? -/
def mateOk (ms : List Int) (i : Nat) : Bool := decide (0 ≤ ms.getD i 0 ∧ ms.getD i 0 < (ms.length : Int) ∧ ms.getD (ms.getD i 0).toNat 0 = (i : Int))
def mateR (ms : List Int) : Bool := (List.range ms.length).all (mateOk ms)
theorem mateR_iff {ms : List Int} : mateR ms = true ↔ ∀ i, i < ms.length → 0 ≤ ms.getD i 0 ∧ ms.getD i 0 < (ms.length : Int) ∧ ms.getD (ms.getD i 0).toNat 0 = (i : Int) := by
  unfold mateR
  rw [List.all_eq_true]
  exact ⟨fun h i hi => of_decide_eq_true (h i (List.mem_range.2 hi)), fun h i hi => decide_eq_true (h i (List.mem_range.1 hi))⟩
/-- The pairs among the first j, the lesser one first. -/
def pairsL (ms : List Int) : Nat → List (Int × Int)
  | 0 => []
  | j + 1 => pairsL ms j ++ if (j : Int) < ms.getD j 0 then [((j : Int), ms.getD j 0)] else []
theorem pairsL_add (ms : List Int) (k j : Nat) : pairsL ms k <+: pairsL ms (k + j) := by
  induction j with
  | zero => exact List.prefix_refl _
  | succ j ih => exact ih.trans (List.prefix_append _ _)
theorem pairsL_le (ms : List Int) {k j : Nat} (h : k ≤ j) : pairsL ms k <+: pairsL ms j := by
  obtain ⟨d, rfl⟩ : ∃ d, j = k + d := ⟨j - k, by omega⟩
  exact pairsL_add ms k d
theorem pairsL_length (ms : List Int) (k : Nat) : (pairsL ms k).length ≤ k := by
  induction k with
  | zero => exact Nat.le_refl _
  | succ k ih => rw [pairsL, List.length_append]; split <;> simp <;> omega
theorem mem_pairsL {ms : List Int} : ∀ {k : Nat} {x : Int × Int}, x ∈ pairsL ms k ↔ ∃ i : Nat, i < k ∧ (i : Int) < ms.getD i 0 ∧ x = ((i : Int), ms.getD i 0)
  | 0, x => by simp [pairsL]
  | k + 1, x => by
    rw [pairsL, List.mem_append, mem_pairsL]
    constructor
    · rintro (⟨i, h1, h2⟩ | h)
      · exact ⟨i, by omega, h2⟩
      · by_cases e : (k : Int) < ms.getD k 0
        · rw [if_pos e, List.mem_singleton] at h
          exact ⟨k, by omega, e, h⟩
        · rw [if_neg e] at h; simp at h
    · rintro ⟨i, h1, h2, h3⟩
      by_cases e : i = k
      · subst e; right; rw [if_pos h2, h3]; simp
      · left; exact ⟨i, by omega, h2, h3⟩
/-- How many of the first j are alone. -/
def aloneN (ms : List Int) : Nat → Nat
  | 0 => 0
  | j + 1 => aloneN ms j + if ms.getD j 0 = (j : Int) then 1 else 0
def pairB (ms : List Int) (a b : Nat) : Int := if ms.getD a 0 = (b : Int) ∧ a ≠ b then 1 else 0
theorem pairs_half {ms : List Int} (h : mateR ms = true) : aloneN ms ms.length + 2 * (pairsL ms ms.length).length = ms.length := by
  have hm := mateR_iff.1 h
  obtain ⟨n, hn⟩ : ∃ n, ms.length = n := ⟨_, rfl⟩
  rw [hn] at hm ⊢
  have h1 : ∀ j, j ≤ n → ((aloneN ms j : Nat) : Int) + sumTo j (fun a => sumTo n (fun b => if a < n ∧ b < n then pairB ms a b else 0)) = (j : Int) := fun j => by
    induction j with
    | zero => intro _; rfl
    | succ j ih =>
      intro hj
      have ih := ih (by omega)
      obtain ⟨m0, m1, m2⟩ := hm j (by omega)
      obtain ⟨d, hd⟩ : ∃ d : Nat, ms.getD j 0 = (d : Int) := ⟨_, (Int.toNat_of_nonneg m0).symm⟩
      simp only [aloneN, sumTo]
      have e : sumTo n (fun b => if j < n ∧ b < n then pairB ms j b else 0) = if ms.getD j 0 = (j : Int) then 0 else 1 := by
        rw [sumTo_one n d (by omega) _ (fun b hb hne => ?_)]
        · rw [if_pos ⟨by omega, by omega⟩]
          unfold pairB
          by_cases e : ms.getD j 0 = (j : Int)
          · rw [if_pos e, if_neg (fun h2 => h2.2 (by omega))]
          · rw [if_neg e, if_pos ⟨hd, by omega⟩]
        · rw [if_pos ⟨by omega, hb⟩]
          exact if_neg (fun h2 => hne (by have := h2.1; omega))
      rw [e]
      split <;> omega
  have h2 : ∀ j, j ≤ n → ((pairsL ms j).length : Int) = sumTo j (fun a => sumTo n (above ((a : Int) + 1) (fun b => if a < n ∧ b < n then pairB ms a b else 0))) := fun j => by
    induction j with
    | zero => intro _; rfl
    | succ j ih =>
      intro hj
      have ih := ih (by omega)
      obtain ⟨m0, m1, m2⟩ := hm j (by omega)
      obtain ⟨d, hd⟩ : ∃ d : Nat, ms.getD j 0 = (d : Int) := ⟨_, (Int.toNat_of_nonneg m0).symm⟩
      simp only [sumTo]
      have e : sumTo n (above ((j : Int) + 1) (fun b => if j < n ∧ b < n then pairB ms j b else 0)) = if (j : Int) < ms.getD j 0 then 1 else 0 := by
        rw [sumTo_one n d (by omega) _ (fun b hb hne => ?_)]
        · unfold above
          by_cases e : (j : Int) < ms.getD j 0
          · rw [if_pos e, if_neg (by omega)]
            show (if j < n ∧ d < n then pairB ms j d else 0) = 1
            rw [if_pos ⟨by omega, by omega⟩]
            exact if_pos ⟨hd, by omega⟩
          · rw [if_neg e, if_pos (by omega)]
        · unfold above
          split
          · rfl
          · show (if j < n ∧ b < n then pairB ms j b else 0) = 0
            rw [if_pos ⟨by omega, hb⟩]
            exact if_neg (fun h2 => hne (by have := h2.1; omega))
      rw [e, pairsL, List.length_append, Int.natCast_add, ih]
      split <;> simp
  have ht := twiceG (G := fun a b => if a < n ∧ b < n then pairB ms a b else 0) (fun a b => by
    by_cases h3 : a < n ∧ b < n
    · show (if a < n ∧ b < n then pairB ms a b else 0) = if b < n ∧ a < n then pairB ms b a else 0
      rw [if_pos h3, if_pos ⟨h3.2, h3.1⟩]
      unfold pairB
      have key : ∀ a b : Nat, a < n → ms.getD a 0 = (b : Int) ∧ a ≠ b → ms.getD b 0 = (a : Int) ∧ b ≠ a := fun a b ha h4 => by
        have := (hm a ha).2.2
        rw [h4.1, Int.toNat_natCast] at this
        exact ⟨this, fun e => h4.2 e.symm⟩
      by_cases h4 : ms.getD a 0 = (b : Int) ∧ a ≠ b
      · rw [if_pos h4, if_pos (key a b h3.1 h4)]
      · rw [if_neg h4, if_neg (fun h5 => h4 (key b a h3.2 h5))]
    · show (if a < n ∧ b < n then pairB ms a b else 0) = if b < n ∧ a < n then pairB ms b a else 0
      rw [if_neg h3, if_neg (fun h4 => h3 ⟨h4.2, h4.1⟩)]) (fun a => by
    show (if a < n ∧ a < n then pairB ms a a else 0) = 0
    split
    · exact if_neg (fun h4 => h4.2 rfl)
    · rfl) n
  have e1 := h1 n (Nat.le_refl _)
  have e2 := h2 n (Nat.le_refl _)
  have ht2 : sumTo n (fun a => sumTo n (fun b => if a < n ∧ b < n then pairB ms a b else 0)) = 2 * sumTo n (fun a => sumTo n (above ((a : Int) + 1) (fun b => if a < n ∧ b < n then pairB ms a b else 0))) := ht
  omega
/-- The mates that things go with are right. -/
theorem heavy_right {n : Nat} {F : Nat → Nat → Int} (ht : Tab n F) : mateR (heavyF n F) = true := by
  have hok := hy_ok ht n (Nat.le_refl _)
  refine mateR_iff.2 fun i hi => ?_
  have hl : (heavyF n F).length = n := matesL_length _ _
  rw [hl] at hi ⊢
  obtain ⟨b, h1, h2, h3⟩ := hok.inv i hi
  have e : ∀ {i}, i < n → (heavyF n F).getD i 0 = hyAt n F n i := fun h => matesL_getD _ h
  rw [e hi, h1, Int.toNat_natCast, e h2, h3]
  exact ⟨by omega, by omega, rfl⟩
end Go.Proofs.Ytbjgfkiaoffhlaa
