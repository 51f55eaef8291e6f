/- Plain: what is known of a graph that was halved. -/
import Derived.Test.YtepmgjohjeiopaaXk
import Derived.Test.YtepmgjohjeiopaaZb
set_option linter.unusedVariables false
set_option linter.unusedSectionVars false
namespace Go.Proofs.Ytepmgjohjeiopaa
open Go.RowKit Go.Shelf Rk

theorem nx_none {ws : List Int} {f : Nat → Int} {room : Int} : ∀ (D : List Int) (st : Nat × Bool), (∀ x ∈ D, room < ws.getD x.toNat 0) → D.foldl (nxStep ws f room) st = st
  | [], st, _ => rfl
  | x :: D, st, h => by
    have h1 := h x (List.mem_cons_self ..)
    rw [List.foldl_cons, show nxStep ws f room st x = st from if_neg (fun h2 => by omega)]
    exact nx_none D st (fun y hy => h y (List.mem_cons_of_mem _ hy))
theorem nx_some {ws : List Int} {f : Nat → Int} {room : Int} : ∀ (D : List Int) (st : Nat × Bool), st.2 = true → (D.foldl (nxStep ws f room) st).2 = true
  | [], st, h => h
  | x :: D, st, h => by
    refine nx_some D _ ?_
    unfold nxStep
    split
    · rfl
    · exact h
theorem nx_false {ws : List Int} {f : Nat → Int} {room : Int} : ∀ (D : List Int) (st : Nat × Bool), (D.foldl (nxStep ws f room) st).2 = false → ∀ x ∈ D, room < ws.getD x.toNat 0
  | [], st, _, x, hx => by cases hx
  | y :: D, st, h, x, hx => by
    rw [List.foldl_cons] at h
    have hs : st.2 = false := by
      cases hs : st.2 with
      | false => rfl
      | true =>
        have h1 : (nxStep ws f room st y).2 = true := by unfold nxStep; split; rfl; exact hs
        rw [nx_some D _ h1] at h; cases h
    have hy : room < ws.getD y.toNat 0 := by
      refine Classical.not_not.1 (fun h2 => ?_)
      have h1 : (nxStep ws f room st y).2 = true := by unfold nxStep; rw [if_pos ⟨by omega, .inl hs⟩]
      rw [nx_some D _ h1] at h; cases h
    rcases List.mem_cons.1 hx with rfl | hx
    · exact hy
    · exact nx_false D _ h x hx
theorem nx_flat {ws : List Int} {room : Int} : ∀ (D : List Int) (st : Nat × Bool), st.2 = true → D.foldl (nxStep ws (fun _ => 0) room) st = st
  | [], st, _ => rfl
  | x :: D, st, h => by
    rw [List.foldl_cons, show nxStep ws (fun _ => 0) room st x = st from if_neg (fun h2 => by rcases h2.2 with h3 | h3; rw [h] at h3; cases h3; exact absurd h3 (Int.lt_irrefl 0))]
    exact nx_flat D st h
theorem left1_pos {pf : Nat → Int} {i : Nat} (h1 : pf i = 1) : ∀ n, i < n → 1 ≤ left1 pf n
  | 0, h => absurd h (Nat.not_lt_zero _)
  | n + 1, h => by
    simp only [left1]
    by_cases e : i = n
    · subst e; rw [if_pos h1]; omega
    · have := left1_pos h1 n (by omega); omega
/-- At the end nothing goes in any more. -/
theorem hv_stop (ws : List Int) (n : Nat) (F : Nat → Nat → Int) (most : Int) : (hvNx ws n most (hvAt ws n F most n)).2 = false := by
  refine Bool.eq_false_iff.2 fun he => ?_
  by_cases hall : ∀ j, j < n → (hvNx ws n most (hvAt ws n F most j)).2 = true
  · have h1 := hv_left hall
    obtain ⟨h2, h3, _⟩ := nx_ok he
    have := left1_pos h3 n h2
    omega
  · refine hall (fun j hj => ?_)
    refine Classical.not_not.1 (fun h => ?_)
    have hs := hv_stay h (n - j)
    rw [Nat.add_sub_of_le (Nat.le_of_lt hj)] at hs
    rw [hs] at he
    exact h he
/-- What part 0 weighs. -/
def w0F (ws : List Int) (pf : Nat → Int) (n : Nat) : Int := sumTo n (fun b => if pf b = 0 then ws.getD b 0 else 0)
theorem w0_upd {ws : List Int} {pf : Nat → Int} {i : Nat} (h1 : pf i = 1) : ∀ n, w0F ws (upd pf i 0) n = w0F ws pf n + if i < n then ws.getD i 0 else 0
  | 0 => rfl
  | n + 1 => by
    have ih := w0_upd h1 (ws := ws) n
    unfold w0F at ih ⊢
    simp only [sumTo]
    rw [ih]
    by_cases e : n = i
    · subst e
      have e1 : upd pf n 0 n = 0 := by simp [upd]
      rw [e1, if_neg (Nat.lt_irrefl _), if_pos (Nat.lt_succ_self _), if_pos rfl, if_neg (by omega)]
    · have e1 : upd pf i 0 n = pf n := by simp [upd, e]
      rw [e1]
      by_cases h2 : i < n
      · have e1 : (if i < n then ws.getD i 0 else 0) = ws.getD i 0 := if_pos h2
        have e2 : (if i < n + 1 then ws.getD i 0 else 0) = ws.getD i 0 := if_pos (by omega)
        omega
      · have e1 : (if i < n then ws.getD i 0 else 0) = 0 := if_neg h2
        have e2 : (if i < n + 1 then ws.getD i 0 else 0) = 0 := if_neg (by omega)
        omega
theorem w0_ones (ws : List Int) : ∀ n, w0F ws (fun _ => 1) n = 0
  | 0 => rfl
  | n + 1 => by
    have := w0_ones ws n
    unfold w0F at this ⊢
    simp only [sumTo]
    rw [this, if_neg (by decide)]; rfl
theorem hv_w0 (ws : List Int) (n : Nat) (F : Nat → Nat → Int) (most : Int) : ∀ k, (hvAt ws n F most k).2.2 = w0F ws (hvAt ws n F most k).1 n
  | 0 => (w0_ones ws n).symm
  | k + 1 => by
    have ih := hv_w0 ws n F most k
    by_cases h : (hvNx ws n most (hvAt ws n F most k)).2 = true
    · rw [hv_step h]
      obtain ⟨h1, h2, _⟩ := nx_ok h
      show _ + _ = w0F ws (upd _ _ _) n
      have := w0_upd (ws := ws) h2 n
      rw [if_pos h1] at this
      unfold hvNx
      rw [this, ih]
    · rw [hv_stay h 1]; exact ih
theorem w0_sum (ws : List Int) : ∀ j, j ≤ ws.length → sumTo j (fun b => ws.getD b 0) = (ws.take j).sum
  | 0, _ => by simp [sumTo]
  | j + 1, h => by
    have ih := w0_sum ws j (by omega)
    simp only [sumTo]
    rw [List.take_succ_eq_append_getElem (by omega), List.sum_append, ih, List.getD_eq_getElem?_getD, List.getElem?_eq_getElem (by omega)]
    simp
theorem w0_le {ws : List Int} (hw : ∀ x ∈ ws, 1 ≤ x ∧ x ≤ 1099511627776) (pf : Nat → Int) : w0F ws pf ws.length ≤ ws.sum := by
  have h1 := w0_sum ws ws.length (Nat.le_refl _)
  rw [List.take_length] at h1
  rw [← h1]
  have key : ∀ j, j ≤ ws.length → w0F ws pf j ≤ sumTo j (fun b => ws.getD b 0) := fun j => by
    induction j with
    | zero => intro _; exact Int.le_refl _
    | succ j ih =>
      intro hj
      have h2 := ih (by omega)
      have h3 := getD_wts hw (k := j) (by omega)
      unfold w0F at h2 ⊢
      simp only [sumTo]
      split <;> omega
  exact key _ (Nat.le_refl _)
theorem wtsT_0 (ws ms : List Int) (hm : ∀ i, ms.getD i 0 = 0 ∨ ms.getD i 0 = 1) : ∀ j, wtsT ws ms j 0 = w0F ws (fun b => ms.getD b 0) j
  | 0 => rfl
  | j + 1 => by
    have ih := wtsT_0 ws ms hm j
    unfold w0F at ih ⊢
    simp only [wtsT, sumTo, upd]
    rcases hm j with e | e
    · have ht : (ms.getD j 0).toNat = 0 := by rw [e]; rfl
      rw [if_pos ht.symm, if_pos e, ht, ih]
    · have ht : (ms.getD j 0).toNat = 1 := by rw [e]; rfl
      rw [if_neg (by omega), if_neg (by omega), ih]; exact (Int.add_zero _).symm
theorem w0_congr (ws : List Int) {pf qf : Nat → Int} : ∀ j, (∀ b, b < j → pf b = qf b) → w0F ws pf j = w0F ws qf j
  | 0, _ => rfl
  | j + 1, h => by
    have ih := w0_congr ws j (fun b hb => h b (by omega))
    have hj := h j (Nat.lt_succ_self j)
    unfold w0F at ih ⊢
    simp only [sumTo]
    rw [ih]
    by_cases h0 : qf j = 0
    · rw [if_pos h0, if_pos (hj.trans h0)]
    · rw [if_neg h0, if_neg (fun e => h0 (hj.symm.trans e))]
/-- What a halving leaves: parts of 0 and 1, part 0 no heavier than most, nothing left that would go in. -/
theorem halveF_facts {ws : List Int} (hw : ∀ x ∈ ws, 1 ≤ x ∧ x ≤ 1099511627776) (F : Nat → Nat → Int) (most : Int) {ms : List Int} (hms : halveF ws ws.length F most = ms) :
    ms.length = ws.length ∧ (∀ i, i < ws.length → ms.getD i 0 = 0 ∨ ms.getD i 0 = 1) ∧ (∀ i, ws.length ≤ i → ms.getD i 0 = 0) ∧ wtsT ws ms ws.length 0 ≤ max most 0 ∧ (∀ i, i < ws.length → ms.getD i 0 = 1 → most - wtsT ws ms ws.length 0 < ws.getD i 0) := by
  subst hms
  have hl : (halveF ws ws.length F most).length = ws.length := parts_length _ _
  have h01 : ∀ i, i < ws.length → (halveF ws ws.length F most).getD i 0 = (hvAt ws ws.length F most ws.length).1 i := fun i hi => parts_getD _ hi
  have hk : ∀ k i, (hvAt ws ws.length F most k).1 i = 0 ∨ (hvAt ws ws.length F most k).1 i = 1 := fun k => by
    induction k with
    | zero => exact fun i => .inr rfl
    | succ k ih =>
      intro i
      by_cases h : (hvNx ws ws.length most (hvAt ws ws.length F most k)).2 = true
      · rw [hv_step h]
        show upd _ _ _ i = 0 ∨ upd _ _ _ i = 1
        unfold upd
        split
        · exact .inl rfl
        · exact ih i
      · rw [hv_stay h 1]; exact ih i
  have hz : ∀ i, ws.length ≤ i → (halveF ws ws.length F most).getD i 0 = 0 := fun i hi => by
    rw [List.getD_eq_getElem?_getD, List.getElem?_eq_none (by rw [hl]; exact hi)]; rfl
  have hwt : wtsT ws (halveF ws ws.length F most) ws.length 0 = (hvAt ws ws.length F most ws.length).2.2 := by
    rw [wtsT_0 _ _ (fun i => by
      by_cases hi : i < ws.length
      · rw [h01 i hi]; exact hk _ i
      · exact .inl (hz i (by omega))), hv_w0]
    exact w0_congr ws _ (fun b hb => h01 b hb)
  refine ⟨hl, fun i hi => by rw [h01 i hi]; exact hk _ i, hz, ?_, fun i hi h1 => ?_⟩
  · rw [hwt]
    have := hv_room hw rfl (F := F) (most := most) ws.length
    omega
  · rw [hwt]
    have hs := hv_stop ws ws.length F most
    have := nx_false _ _ hs (i : Int) (mem_sideL.2 ⟨i, by rw [parts_length]; exact hi, by rw [parts_getD _ hi, ← h01 i hi]; exact h1, rfl⟩)
    rwa [Int.toNat_natCast] at this
theorem wtsT_put {ws ms : List Int} (hw : ∀ x ∈ ws, 1 ≤ x ∧ x ≤ 1099511627776) (hm : ∀ i, ms.getD i 0 = 0 ∨ ms.getD i 0 = 1) {i : Nat} (hi : i < ws.length) (h1 : ms.getD i 0 = 1) : wtsT ws ms ws.length 0 + ws.getD i 0 ≤ ws.sum := by
  rw [wtsT_0 _ _ hm]
  have h2 := w0_upd (ws := ws) (pf := fun b => ms.getD b 0) h1 ws.length
  rw [if_pos hi] at h2
  rw [← h2]
  exact w0_le hw _
/-- By all the weight all go in. -/
theorem halveF_all {ws : List Int} (hw : ∀ x ∈ ws, 1 ≤ x ∧ x ≤ 1099511627776) (F : Nat → Nat → Int) {ms : List Int} (hms : halveF ws ws.length F ws.sum = ms) : ∀ i, ms.getD i 0 = 0 := fun i => by
  obtain ⟨hl, h01, hz, h3, h4⟩ := halveF_facts hw F ws.sum hms
  by_cases hi : i < ws.length
  · rcases h01 i hi with h | h
    · exact h
    · have h5 := h4 i hi h
      have h6 := wtsT_put (ms := ms) hw (fun j => by
        by_cases hj : j < ws.length
        · exact h01 j hj
        · exact .inl (hz j (by omega))) hi h
      omega
  · exact hz i (by omega)
theorem sideL_all {ms : List Int} (h : ∀ i, ms.getD i 0 = 0) : ∀ k, (sideL ms 0 k).length = k
  | 0 => rfl
  | k + 1 => by rw [sideL, List.length_append, sideL_all h k, if_pos (h k)]; rfl
theorem sideL_both {ms : List Int} {n : Nat} (h : ∀ i, i < n → ms.getD i 0 = 0 ∨ ms.getD i 0 = 1) : ∀ k, k ≤ n → (sideL ms 0 k).length + (sideL ms 1 k).length = k
  | 0, _ => rfl
  | k + 1, hk => by
    have ih := sideL_both h k (by omega)
    rw [sideL, sideL, List.length_append, List.length_append]
    rcases h k (by omega) with e | e <;> rw [e] <;> simp <;> omega
/-- The first thing alone. -/
theorem halveF_first {ws : List Int} (hw : ∀ x ∈ ws, 1 ≤ x ∧ x ≤ 1099511627776) (F : Nat → Nat → Int) (h0 : 0 < ws.length) : ∀ i, i < ws.length → (halveF ws ws.length F (ws.getD 0 0)).getD i 0 = if i = 0 then 0 else 1 := by
  obtain ⟨n, hn⟩ : ∃ n, ws.length = n + 1 := ⟨ws.length - 1, by omega⟩
  have hw0 := getD_wts hw (k := 0) h0
  have hside : ∃ D, sideL (parts ws.length (fun _ => (1 : Int))) 1 (parts ws.length (fun _ => (1 : Int))).length = 0 :: D := by
    have h1 : ∀ k, ∃ D, sideL (parts (n + 1) (fun _ => (1 : Int))) 1 (k + 1) = 0 :: D := fun k => by
      induction k with
      | zero =>
        refine ⟨[], ?_⟩
        rw [sideL, sideL, parts_getD _ (by omega)]; rfl
      | succ k ih =>
        obtain ⟨D, hD⟩ := ih
        rw [sideL, hD]
        exact ⟨_, rfl⟩
    rw [parts_length, hn]
    exact h1 n
  have hnx : hvNx ws ws.length (ws.getD 0 0) (hvAt ws ws.length F (ws.getD 0 0) 0) = (0, true) := by
    obtain ⟨D, hD⟩ := hside
    show (sideL (parts ws.length (fun _ => (1 : Int))) 1 (parts ws.length (fun _ => (1 : Int))).length).foldl (nxStep ws (fun _ => 0) (ws.getD 0 0 - 0)) (0, false) = _
    rw [hD, List.foldl_cons, show nxStep ws (fun _ => 0) (ws.getD 0 0 - 0) (0, false) 0 = (0, true) from if_pos ⟨by show ws.getD 0 0 ≤ _; omega, .inl rfl⟩, nx_flat D _ rfl]
  have hs1 := hv_step (ws := ws) (n := ws.length) (F := F) (most := ws.getD 0 0) (k := 0) (by rw [hnx])
  rw [hnx] at hs1
  have hno : ¬ (hvNx ws ws.length (ws.getD 0 0) (hvAt ws ws.length F (ws.getD 0 0) 1)).2 = true := fun h => by
    obtain ⟨h1, _, h3⟩ := nx_ok h
    have h4 := getD_wts hw h1
    rw [hs1] at h3 h4
    have e : (hvAt ws ws.length F (ws.getD 0 0) 0).2.2 = 0 := rfl
    simp only [e] at h3 h4
    omega
  have hfin := hv_stay hno n
  rw [show 1 + n = ws.length by omega] at hfin
  intro i hi
  show (parts ws.length (hvAt ws ws.length F (ws.getD 0 0) ws.length).1).getD i 0 = _
  rw [parts_getD _ hi, hfin, hs1]
  show upd (fun _ => 1) 0 0 i = _
  unfold upd
  rfl
theorem halveF_zero {ws : List Int} (hw : ∀ x ∈ ws, 1 ≤ x ∧ x ≤ 1099511627776) (F : Nat → Nat → Int) : ∀ i, i < ws.length → (halveF ws ws.length F 0).getD i 0 = 1 := by
  have hno : ¬ (hvNx ws ws.length 0 (hvAt ws ws.length F 0 0)).2 = true := fun h => by
    obtain ⟨h1, _, h3⟩ := nx_ok h
    have h4 := getD_wts hw h1
    have e : (hvAt ws ws.length F 0 0).2.2 = 0 := rfl
    simp only [e] at h3 h4
    omega
  have hfin := hv_stay hno ws.length
  rw [Nat.zero_add] at hfin
  intro i hi
  show (parts ws.length (hvAt ws ws.length F 0 ws.length).1).getD i 0 = _
  rw [parts_getD _ hi, hfin]
  rfl
end Go.Proofs.Ytepmgjohjeiopaa
