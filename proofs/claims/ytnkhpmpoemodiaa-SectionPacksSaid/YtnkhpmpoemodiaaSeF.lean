/- Contract: do tags rise? -/
import Derived.Test.YtnkhpmpoemodiaaSeD
import Derived.Test.YtnkhpmpoemodiaaSeB
set_option linter.unusedVariables false
set_option linter.unusedSectionVars false
set_option linter.unusedSimpArgs false
namespace Go.Proofs.Ytnkhpmpoemodiaa.Se
open Go.RowKit Go.Shelf

attribute [local go_sem] Oper.semAt_some
def secsM (L : List SecV) : List SecM := L.map (·.m)
def riseT : Int → List Int → Bool
  | _, [] => true
  | a, x :: xs => decide (a < x) && riseT x xs
theorem riseT_snoc (xs : List Int) (y : Int) : ∀ a, riseT a (xs ++ [y]) = (riseT a xs && decide (xs.getLastD a < y)) := by
  induction xs with
  | nil => intro a; simp [riseT]
  | cons x xs ih =>
    intro a
    simp only [List.cons_append, riseT, ih, List.getLastD_cons, Bool.and_assoc]
theorem riseG_tags (L : List SecM) : ∀ a, riseG a L = riseT a (L.map (·.tag)) := by
  induction L with
  | nil => intro a; rfl
  | cons x xs ih => intro a; simp [riseG, riseT, ih]
theorem rise_tags (L : List SecV) : riseB (secsM L) = riseT (-1) (tagsI L) := by
  unfold riseB secsM tagsI
  rw [riseG_tags, List.map_map]
  rfl
theorem riseT_prefix {xs pre : List Int} (h : pre <+: xs) (a : Int) (hf : riseT a pre = false) : riseT a xs = false := by
  obtain ⟨t, rfl⟩ := h
  revert a
  induction pre with
  | nil => intro a hf; simp [riseT] at hf
  | cons x xs ih =>
    intro a hf
    simp only [riseT, List.cons_append, Bool.and_eq_false_iff] at hf ⊢
    rcases hf with h | h
    · exact .inl h
    · exact .inr (ih x h)
/-- Between two tags: the result's box, and the tag ahead. -/
def RiI (A : Nat) (w : World) (pre : List Int) (W : World) : Prop :=
  riseT (-1) pre = true ∧ W.heap[A]? = some (.cells #[.bool false] 4 (0, 0)) ∧ W.heap[A + 1]? = some (.cells #[.int .i64 (pre.getLastD (-1))] 3 (0, 0)) ∧ Below A w W
def RiX (A : Nat) (w : World) (c : Code) (pre : List Int) (W : World) : Prop :=
  c = .ret ∧ riseT (-1) pre = false ∧ W.heap[A]? = some (.cells #[.bool false] 4 (0, 0)) ∧ Below A w W
set_option maxRecDepth 100000 in
set_option maxHeartbeats 4000000 in
theorem rise_any {w : World} {a : Option Addr} {b off len cap : Nat} {L : List SecV} (h : SecsAt w.heap.size w a b off len cap L) (hs : len ≤ 100000) : Calls Try.prog 57 #[.slice a len cap] w fun e w' => e = .returned (.bool (riseB (secsM L))) ∧ Below w.heap.size w w' := by
  have HM := Lib.hid h
  have HS := Lib.hid hs
  have HFT : Hid (∀ y ∈ tagsI L, 0 ≤ y ∧ y ≤ 255) := Lib.hid (fun y hy => by
    unfold tagsI at hy
    obtain ⟨x, hx, rfl⟩ := List.mem_map.1 hy
    exact bounds_u8 (h.rows.fits x hx))
  rw [rise_tags]
  have HLEN : Hid ((tagsI L).length ≤ 1000000) := Lib.hid (by have := h.rows.length; unfold tagsI; rw [List.length_map]; omega)
  obtain ⟨xs, hxs⟩ : ∃ xs, tagsI L = xs := ⟨_, rfl⟩
  rw [hxs] at HLEN HFT ⊢
  have HXE := Lib.hid hxs
  clear h hs hxs
  refine (callsIn_wide (n := 3)).1 ?_
  refine callsIn_of_wp_marks Try.func57 rfl trivial ?_ rfl
  simp only [Try.ntmps57, List.size_toArray, List.length_cons, List.length_nil, Nat.reduceAdd, Nat.reduceSub, Array.replicate_succ, Array.replicate_zero, List.push_toArray, List.append_toArray, List.nil_append, List.cons_append]
  refine wpIn_wide.2 ?_
  go_wp2_with fail
  have hb0 : Below w.heap.size w ((w.alloc (.cells #[.bool false] 4)).alloc (.cells #[.int .i64 (-1)] 3)) := ((Below.refl _ w).alloc (Nat.le_refl _) _).alloc (by simp) _
  have q1 : ((w.alloc (.cells #[.bool false] 4)).alloc (.cells #[.int .i64 (-1)] 3)).heap[w.heap.size]? = some (.cells #[.bool false] 4 (0, 0)) := heap_alloc (heap_new _ rfl) _
  have q2 : ((w.alloc (.cells #[.bool false] 4)).alloc (.cells #[.int .i64 (-1)] 3)).heap[w.heap.size + 1]? = some (.cells #[.int .i64 (-1)] 3 (0, 0)) := heap_new _ (by simp)
  have hz0 : ((w.alloc (.cells #[.bool false] 4)).alloc (.cells #[.int .i64 (-1)] 3)).heap.size = w.heap.size + 1 + 1 := by simp
  have HX := Lib.hid (tags_any (HM.out.on hb0) HS.out)
  generalize (w.alloc (.cells #[.bool false] 4)).alloc (.cells #[.int .i64 (-1)] 3) = W0 at *
  refine HX.out.mono ?_
  rintro e w1 ⟨Bx, g, rfl, HV⟩
  obtain ⟨hv1, hv2, hv3, hv4, hv5, hb1⟩ := HV.out
  rw [HXE.out] at hv4 hv5
  obtain ⟨A, hA⟩ : ∃ A, w.heap.size = A := ⟨_, rfl⟩
  obtain ⟨Z, hZ⟩ : ∃ Z, w1.heap.size = Z := ⟨_, rfl⟩
  have hbx := heap_lt hv4
  have hzW := hb1.size
  have hS := HLEN.out
  have hq1 := heap_below q1 hb1 (heap_lt q1)
  have hq2 := heap_below q2 hb1 (heap_lt q2)
  have hb2 : Below w.heap.size w w1 := hb0.trans (hb1.mono hb0.size)
  rw [hz0] at hv1 hv3 hzW
  rw [hZ] at hbx hzW
  have HSQ := Lib.hid (tags1_seq (n₀ := A) (lo := A + 1 + 1) (up := Z) hv4 ⟨by omega, hv2⟩ hv5 hS (by omega) hZ.symm (by omega) 2)
  rw [hA] at hb2 hq1 hq2 hv3 hzW ⊢
  have HA := Lib.hid hA
  have HZ := Lib.hid hZ
  have HB0 : Hid (RiI A w [] w1) := Lib.hid ⟨rfl, hq1, hq2, hb2⟩
  clear hb2 q1 q2 hq1 hq2 hv4 hv5 hv1 hv2 hb0 hb1 hZ hA HX HV
  go_wp2_with fail
  refine (wpIn_wide (n := 3)).1 ?_
  refine wpIn_rangeFunc_seqF rfl (by omega) (gf := 89) (lb := #[.pointer (some ⟨Bx, 0, none⟩)]) rfl trivial (enters_of Try.func89 (by kernel_rfl) rfl) HSQ.out (by have := HZ.out; omega) (by have := HZ.out; omega) (Below.refl _ _) (fun _ => rfl)
    (RiI A w) (RiX A w)
    (fun pre X Y row hs hg hr => by
      obtain ⟨e1, e2, e3, e4⟩ := hs
      have hne : ∀ (k : Nat) (o : Obj), X.heap[k]? = some o → o.isCells = true → some k ≠ row := fun k o ho hc e => by
        obtain ⟨_, o', ho', hc'⟩ := hr k e.symm
        rw [ho] at ho'; cases ho'; rw [hc] at hc'; cases hc'
      exact ⟨e1, heap_kept e2 hg (hne _ _ e2 rfl), heap_kept e3 hg (hne _ _ e3 rfl), e4.grown hg (by have := e4.size; have := HA.out; omega) (fun r e => by have := (hr r e).1; have := HZ.out; omega)⟩)
    (fun c pre X Y row hs hg hr => by
      obtain ⟨hc, e1, e2, e4⟩ := hs
      have hne : ∀ (k : Nat) (o : Obj), X.heap[k]? = some o → o.isCells = true → some k ≠ row := fun k o ho hc e => by
        obtain ⟨_, o', ho', hc'⟩ := hr k e.symm
        rw [ho] at ho'; cases ho'; rw [hc] at hc'; cases hc'
      exact ⟨hc, e1, heap_kept e2 hg (hne _ _ e2 rfl), e4.grown hg (by have := e4.size; have := HA.out; omega) (fun r e => by have := (hr r e).1; have := HZ.out; omega)⟩)
    HB0.out
    (fun y a' W => a' = { tmps := #[.slice a len cap, undef, .pointer (some ⟨A, 0, none⟩), .pointer (some ⟨A + 1, 0, none⟩), .int .u8 y, .slice a len cap, .func (.func 89) #[] #[.pointer (some ⟨Bx, 0, none⟩)], .int .u8 y, undef, undef, undef, undef, undef, undef], defers := [] })
    (fun y a' W l o o' hs hl ho hc => hs) ?assign ?body ?done ?stop
  case assign =>
    rintro l pre y A0 W K hI hbW hK
    gi_wp2
    exact hK _ _ (Below.refl _ W) rfl
  case body =>
    rintro l u pre y a' A0 W hI hzA hbW hu1 hu2 rfl hpre
    have hy : 0 ≤ y ∧ y ≤ 255 := HFT.out y (hpre.subset (by simp))
    obtain ⟨e1, e2, e3, e4⟩ := hI
    have hzW2 := hbW.size
    have hz1 := HZ.out
    have e2' := heap_below e2 hbW (heap_lt e2)
    have e3' := heap_below e3 hbW (heap_lt e3)
    have hlA := heap_lt e2'
    have hlB := heap_lt e3'
    have c0 := heap_cell e2' (i := 0) rfl
    have c1 := heap_cell e3' (i := 0) rfl
    have f0 := heap_frozen e2' 0
    have f1 := heap_frozen e3' 0
    obtain ⟨t, ht⟩ : ∃ t, pre.getLastD (-1) = t := ⟨_, rfl⟩
    have hsn := riseT_snoc pre y (-1)
    rw [e1, ht, Bool.true_and] at hsn
    simp only [List.getElem_toArray, List.getElem_cons_zero] at c0 c1
    rw [ht] at e3' c1
    have HC := Lib.hid (And.intro e2' (And.intro e3' (e4.trans (hbW.mono (by omega)))))
    have HSN := Lib.hid hsn
    have hzz : A + 1 < A0.heap.size := heap_lt e3
    clear e1 e2 e3 e4 hbW hpre e2' e3' hsn ht
    obtain ⟨hy0, hy1⟩ := hy
    by_cases hty : t < y
    · have hd : ¬ y ≤ t := by omega
      have HD : Hid (riseT (-1) (pre ++ [y]) = true) := Lib.hid (by rw [HSN.out]; simpa using hty)
      clear hty
      gi_wp2
      refine ⟨(KeepsOthers.setCell W ⟨A + 1, 0, none⟩ _).from _, ⟨(Below.refl _ _).setCell (p := ⟨A + 1, 0, none⟩) (by show A ≤ A + 1; omega) _, ⟨by rw [size_set]; exact Nat.le_refl _, fun j h1 h2 => Below.heap_setCell W ⟨A + 1, 0, none⟩ _ j (by show j ≠ A + 1; omega)⟩, ⟨by rw [size_set]; exact Nat.le_refl _, fun j h1 h2 => Below.heap_setCell W ⟨A + 1, 0, none⟩ _ j (by show j ≠ A + 1; omega)⟩⟩, HD.out, heap_other HC.out.1 (by omega) _ _, ?_, HC.out.2.2.setCell (p := ⟨A + 1, 0, none⟩) (by show A ≤ A + 1; omega) _⟩
      rw [show (pre ++ [y]).getLastD (-1) = y by simp [List.getLastD_eq_getLast?]]
      exact heap_set HC.out.2.1 0 _
    · have hd : y ≤ t := by omega
      have HD : Hid (riseT (-1) (pre ++ [y]) = false) := Lib.hid (by rw [HSN.out]; simpa using hty)
      clear hty
      gi_wp2
      refine ⟨(KeepsOthers.setCell W ⟨A, 0, none⟩ _).from _, ⟨(Below.refl _ _).setCell (p := ⟨A, 0, none⟩) (Nat.le_refl _) _, ⟨by rw [size_set]; exact Nat.le_refl _, fun j h1 h2 => Below.heap_setCell W ⟨A, 0, none⟩ _ j (by show j ≠ A; omega)⟩, ⟨by rw [size_set]; exact Nat.le_refl _, fun j h1 h2 => Below.heap_setCell W ⟨A, 0, none⟩ _ j (by show j ≠ A; omega)⟩⟩, rfl, HD.out, heap_set HC.out.1 0 _, HC.out.2.2.setCell (p := ⟨A, 0, none⟩) (Nat.le_refl _) _⟩
  case done =>
    rintro C W0' W hC hI hbW hK
    obtain ⟨e1, e2, e3, e4⟩ := hI
    have e2' := heap_below e2 hbW (heap_lt e2)
    have hlA := heap_lt e2'
    have hlA0 := heap_lt e2
    have c0 := heap_cell e2' (i := 0) rfl
    simp only [List.getElem_toArray, List.getElem_cons_zero] at c0
    have f0 := heap_frozen e2' 0
    have hZ := HZ.out
    have hzz := e4.size
    have hAe := HA.out
    have HC := Lib.hid (And.intro e1 (And.intro e2' (e4.trans (hbW.mono (by omega)))))
    have HK := Lib.hid hK
    clear e1 e2 e3 e4 hbW hK e2'
    go_wp2
    have hx1 := heap_set HC.out.2.1 0 (.bool true)
    have hK' := (KeepsOthers.setCell W ⟨A, 0, none⟩ (.bool true)).same C _ HK.out rfl
    have hbl := HC.out.2.2.setCell (p := ⟨A, 0, none⟩) (Nat.le_refl _) (.bool true)
    generalize W.setCell ⟨A, 0, none⟩ (.bool true) = X at *
    refine ⟨by simp, .inl ⟨_, _, rfl, run_takeDeferred hK', ?_⟩⟩
    have hCF : A ≠ C := by omega
    have k0 : (X.putObj C (.deferred none)).cell? ⟨A, 0, none⟩ = some (.bool true) := heap_cell ((World.putObj_heap_other (o := .deferred none) hCF).trans hx1) (i := 0) rfl
    refine ⟨.bool true, ?_, ?_, ?_⟩
    · simp [results, Try.f57, go_sem, k0]
    · rw [HC.out.1]
    · rw [HA.out]
      exact hbl.trans ((Below.refl A X).grown (grownBy_putObj' X C (.deferred none)) (by have := hbl.size; omega) (fun k e => by cases e; omega))
  case stop =>
    rintro C c pre W0' W hC hpre ⟨rfl, h1, h2, h3⟩ hbW hK
    have hx := heap_below h2 hbW (heap_lt h2)
    have hz0 := heap_lt h2
    have hzW2 := hbW.size
    have hZ := HZ.out
    have hAe := HA.out
    have hzz := h3.size
    gi_wp2
    refine ⟨by simp, .inl ⟨_, _, rfl, run_takeDeferred hK, ?_⟩⟩
    have hCF : A ≠ C := by omega
    have k0 := heap_cell ((World.putObj_heap_other (o := .deferred none) hCF).trans hx) (i := 0) rfl
    simp only [List.getElem_toArray, List.getElem_cons_zero] at k0
    refine ⟨.bool false, ?_, ?_, ?_⟩
    · simp [results, Try.f57, go_sem, k0]
    · rw [riseT_prefix hpre _ h1]
    · rw [HA.out]
      exact (h3.trans (hbW.mono (by omega))).trans ((Below.refl A W).grown (grownBy_putObj' W C (.deferred none)) (by omega) (fun k e => by cases e; omega))
end Go.Proofs.Ytnkhpmpoemodiaa.Se
