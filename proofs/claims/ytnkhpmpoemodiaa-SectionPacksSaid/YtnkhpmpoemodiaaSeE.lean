/- Contract: the law's tags: up to so many of all. -/
import Derived.Test.YtnkhpmpoemodiaaSeD
set_option linter.unusedVariables false
set_option linter.unusedSectionVars false
set_option linter.unusedSimpArgs false
namespace Go.Proofs.Ytnkhpmpoemodiaa.Se
open Go.RowKit Go.Shelf

attribute [local go_sem] Oper.semAt_some
def upTo (most : Int) (xs : List Int) : List Int := xs.take most.toNat
def TagsP (xs : List Int) (w : World) (e : Ending) (w' : World) : Prop := Below w.heap.size w w' ∧ ∃ v, e = .returned v ∧ Gath w' w.heap.size 5 1 v xs.length (ivals .u8 xs)
set_option maxRecDepth 100000 in
set_option maxHeartbeats 4000000 in
theorem ltags_any {w : World} {a : Option Addr} {b off len cap : Nat} {L : List SecV} (h : SecsAt w.heap.size w a b off len cap L) (hs : len ≤ 100000) (most : Int) : Calls Try.prog 38 #[.slice a len cap, .int .i64 most] w (TagsP (upTo most (tagsI L)) w) := by
  obtain ⟨i0, hi0, hz0, hz1, hz2⟩ := info_parts Try.infoU8
  have HI := Lib.hid hi0
  have HZ0 := Lib.hid hz0
  have HZ1 := Lib.hid hz1
  have HZ2 := Lib.hid hz2
  clear hi0 hz0 hz1 hz2
  have HM := Lib.hid h
  have HS := Lib.hid hs
  clear h hs
  refine (callsIn_wide (n := 3)).1 ?_
  refine callsIn_of_wp_marks Try.func38 rfl trivial ?_ rfl
  simp only [Try.ntmps38, List.size_toArray, List.length_cons, List.length_nil, Nat.reduceAdd, Nat.reduceSub, Array.replicate_succ, Array.replicate_zero, List.push_toArray, List.append_toArray, List.nil_append, List.cons_append]
  refine wpIn_wide.2 ?_
  by_cases hmost : most ≤ 0
  · have hb0 : Below w.heap.size w ((((w.alloc (.cells #[.int .i64 most] 3)).alloc (.cells #[.slice (some ⟨w.heap.size + 1 + 1, 0, none⟩) 0 0] 45)).alloc (.cells #[] 5)).alloc (.cells #[.slice (some ⟨w.heap.size + 1 + 1, 0, none⟩) 0 0] 45)) := ((((Below.refl _ w).alloc (Nat.le_refl _) _).alloc (by simp) _).alloc (by simp; omega) _).alloc (by simp; omega) _
    have hq : ((((w.alloc (.cells #[.int .i64 most] 3)).alloc (.cells #[.slice (some ⟨w.heap.size + 1 + 1, 0, none⟩) 0 0] 45)).alloc (.cells #[] 5)).alloc (.cells #[.slice (some ⟨w.heap.size + 1 + 1, 0, none⟩) 0 0] 45)).heap[w.heap.size + 1]? = some (.cells #[.slice (some ⟨w.heap.size + 1 + 1, 0, none⟩) 0 0] 45 (0, 0)) := heap_alloc (heap_alloc (heap_new _ (by simp)) _) _
    have HB0 := Lib.hid hb0
    have HQ := Lib.hid hq
    clear hb0 hq
    have h0 : upTo most (tagsI L) = [] := by unfold upTo; rw [show most.toNat = 0 by omega]; rfl
    go_wp2
    have k0 := heap_cell HQ.out (i := 0) rfl
    simp only [List.getElem_toArray, List.getElem_cons_zero] at k0
    refine ⟨.slice (some ⟨w.heap.size + 1 + 1, 0, none⟩) 0 0, by simp [results, Try.f38, go_sem, k0], HB0.out, _, rfl, ?_⟩
    rw [h0]
    exact .inl ⟨rfl, rfl, _, rfl⟩
  · have hmb : decide (most ≤ 0) = false := by simp; omega
    go_wp2_with fail
    have hb0 : Below w.heap.size w ((((w.alloc (.cells #[.int .i64 most] 3)).alloc (.cells #[.slice none 0 0] 45)).alloc (.cells #[] 5)).alloc (.cells #[.slice (some ⟨w.heap.size + 1 + 1, 0, none⟩) 0 0] 45)) := ((((Below.refl _ w).alloc (Nat.le_refl _) _).alloc (by simp) _).alloc (by simp; omega) _).alloc (by simp; omega) _
    have q1 : ((((w.alloc (.cells #[.int .i64 most] 3)).alloc (.cells #[.slice none 0 0] 45)).alloc (.cells #[] 5)).alloc (.cells #[.slice (some ⟨w.heap.size + 1 + 1, 0, none⟩) 0 0] 45)).heap[w.heap.size]? = some (.cells #[.int .i64 most] 3 (0, 0)) := heap_alloc (heap_alloc (heap_alloc (heap_new _ (by simp)) _) _) _
    have q2 : ((((w.alloc (.cells #[.int .i64 most] 3)).alloc (.cells #[.slice none 0 0] 45)).alloc (.cells #[] 5)).alloc (.cells #[.slice (some ⟨w.heap.size + 1 + 1, 0, none⟩) 0 0] 45)).heap[w.heap.size + 1]? = some (.cells #[.slice none 0 0] 45 (0, 0)) := heap_alloc (heap_alloc (heap_new _ (by simp)) _) _
    have q4 : ((((w.alloc (.cells #[.int .i64 most] 3)).alloc (.cells #[.slice none 0 0] 45)).alloc (.cells #[] 5)).alloc (.cells #[.slice (some ⟨w.heap.size + 1 + 1, 0, none⟩) 0 0] 45)).heap[w.heap.size + 1 + 1 + 1]? = some (.cells #[.slice (some ⟨w.heap.size + 1 + 1, 0, none⟩) 0 0] 45 (0, 0)) := heap_new _ (by simp)
    have hz0 : ((((w.alloc (.cells #[.int .i64 most] 3)).alloc (.cells #[.slice none 0 0] 45)).alloc (.cells #[] 5)).alloc (.cells #[.slice (some ⟨w.heap.size + 1 + 1, 0, none⟩) 0 0] 45)).heap.size = w.heap.size + 1 + 1 + 1 + 1 := by simp
    have HX := Lib.hid (tags_any (HM.out.on hb0) HS.out)
    have HLEN : Hid ((tagsI L).length ≤ 1000000) := Lib.hid (by have := HM.out.rows.length; unfold tagsI; rw [List.length_map]; have := HS.out; omega)
    generalize ((((w.alloc (.cells #[.int .i64 most] 3)).alloc (.cells #[.slice none 0 0] 45)).alloc (.cells #[] 5)).alloc (.cells #[.slice (some ⟨w.heap.size + 1 + 1, 0, none⟩) 0 0] 45)) = W0 at *
    refine HX.out.mono ?_
    rintro e w1 ⟨Bx, g, rfl, HV⟩
    obtain ⟨hv1, hv2, hv3, hv4, hv5, hb1⟩ := HV.out
    obtain ⟨xs, hxs⟩ : ∃ xs, tagsI L = xs := ⟨_, rfl⟩
    rw [hxs] at HLEN hv4 hv5 ⊢
    obtain ⟨A, hA⟩ : ∃ A, w.heap.size = A := ⟨_, rfl⟩
    obtain ⟨Z, hZ⟩ : ∃ Z, w1.heap.size = Z := ⟨_, rfl⟩
    have hbx := heap_lt hv4
    have hzW := hb1.size
    have hS := HLEN.out
    have hq1 := heap_below q1 hb1 (heap_lt q1)
    have hq2 := heap_below q2 hb1 (heap_lt q2)
    have hq4 := heap_below q4 hb1 (heap_lt q4)
    have hb2 : Below w.heap.size w w1 := hb0.trans (hb1.mono hb0.size)
    rw [hz0] at hv1 hv3 hzW
    rw [hZ] at hbx hzW
    have HSQ := Lib.hid (tags1_seq (n₀ := A) (lo := A + 1 + 1 + 1 + 1) (up := Z) hv4 ⟨by omega, hv2⟩ hv5 hS (by omega) hZ.symm (by omega) 2)
    rw [hA] at hb2 hq1 hq2 hq4 hv3 hzW ⊢
    skip
    have HA := Lib.hid hA
    have HZ := Lib.hid hZ
    have hB0 : Bg Z (A + 1 + 1 + 1) 45 5 1 [(A, 3, #[.int .i64 most]), (A + 1, 45, #[.slice none 0 0])] A w 0 (ivals .u8 []) w1 (.slice (some ⟨A + 1 + 1, 0, none⟩) 0 0) :=
      ⟨hq4, .inl ⟨rfl, rfl, _, rfl⟩, fun x hx => by
        simp only [List.mem_cons, List.not_mem_nil, or_false] at hx
        rcases hx with rfl | rfl
        · exact hq1
        · exact hq2, hb2, by omega, fun g e => by have : A + 1 + 1 = g := by simpa [Value.ownBlock] using e
                                                  omega⟩
    have HB0 := Lib.hid hB0
    have HB1 := Lib.hid hb2
    clear hB0 hb2 q1 q2 q4 hq1 hq2 hq4 hb0 hb1 hZ hA HX
    have hmi : (0 : Int) < most := by omega
    go_wp2_with fail
    refine (wpIn_wide (n := 3)).1 ?_
    refine wpIn_rangeFunc_seqF rfl (by omega) (gf := 89) (lb := #[.pointer (some ⟨Bx, 0, none⟩)]) rfl trivial (enters_of Try.func89 (by kernel_rfl) rfl) HSQ.out (by have := HZ.out; omega) (by have := HZ.out; omega) (Below.refl _ _) (fun _ => rfl)
      (fun pre W => (pre.length : Int) < most ∧ ∃ v, Bg Z (A + 1 + 1 + 1) 45 5 1 [(A, 3, #[.int .i64 most]), (A + 1, 45, #[.slice none 0 0])] A w pre.length (ivals .u8 pre) W v)
      (fun c pre W => c = .ret ∧ (pre.length : Int) = most ∧ ∃ v, W.heap[A + 1]? = some (.cells #[v] 45 (0, 0)) ∧ Gath W A 5 1 v pre.length (ivals .u8 pre) ∧ Below A w W)
      (fun pre X Y row hs hg hr => ⟨hs.1, hs.2.elim fun v hB => ⟨v, hB.turned (by omega) hg (fun r e => ⟨by have := (hr r e).1; have := HZ.out; omega, (hr r e).2⟩)⟩⟩)
      (fun c pre X Y row hs hg hr => by
        obtain ⟨hc, e1, v, e2, e3, e4⟩ := hs
        have hne : ∀ (k : Nat) (o : Obj), X.heap[k]? = some o → o.isCells = true → some k ≠ row := fun k o ho hc e => by
          obtain ⟨_, o', ho', hc'⟩ := hr k e.symm
          rw [ho] at ho'; cases ho'; rw [hc] at hc'; cases hc'
        exact ⟨hc, e1, v, heap_kept e2 hg (hne _ _ e2 rfl), gath_kept e3 hg (fun r e => (hr r e).2), e4.grown hg (by have := e4.size; have := HA.out; omega) (fun r e => by have := (hr r e).1; have := HZ.out; omega)⟩)
      ⟨by simpa using hmi, _, HB0.out⟩
      (fun y a' W => a' = { tmps := #[.slice a len cap, .int .i64 most, undef, .pointer (some ⟨A, 0, none⟩), .pointer (some ⟨A + 1, 0, none⟩), .pointer (some ⟨A + 1 + 1 + 1, 0, none⟩), .int .u8 y, .slice (some ⟨A + 1 + 1, 0, none⟩) 0 0, .int .i64 most, .bool false, undef, .slice a len cap, .func (.func 89) #[] #[.pointer (some ⟨Bx, 0, none⟩)], .int .u8 y, undef, undef, undef, undef, undef, undef, undef, undef, undef, undef], defers := [] })
      (fun y a' W l o o' hs hl ho hc => hs) ?assign ?body ?done ?stop
    case assign =>
      rintro l pre y A0 W K ⟨hpe, v, hB⟩ hbW hK
      gi_wp2
      exact hK _ _ (Below.refl _ W) rfl
    case body =>
      rintro l u pre y a' A0 W ⟨hpe, v, hB⟩ hzA hbW hu1 hu2 rfl hpre
      have hpl : pre.length + 1 ≤ 1000000 := by
        have := hpre.length_le
        simp at this
        omega
      have hBW := hB.on (by omega) hbW
      obtain ⟨a6, cap6, rfl⟩ := hBW.row.slice
      have c0 := hBW.box.cell
      have f0 := hBW.box.frozen
      have d1 := heap_cell (hBW.oth _ (List.mem_cons_self ..)) (i := 0) rfl
      simp only [List.getElem_toArray, List.getElem_cons_zero, List.getElem_cons_succ] at d1
      have hlt := hB.lt
      have HB := Lib.hid hBW
      have HLt := Lib.hid hlt
      have hzW2 := hbW.size
      have hz1 := hB.size
      clear hB hBW hbW hlt hpre
      have HBs : Hid (∀ z0 ∈ [(A, 3, #[Value.int .i64 most]), (A + 1, 45, #[Value.slice none 0 0])], z0.1 ≠ A + 1 + 1 + 1 ∧ z0.1 < Z) := Lib.hid (fun z0 hx => by
        simp only [List.mem_cons, List.not_mem_nil, or_false] at hx
        rcases hx with rfl | rfl <;> exact ⟨by dsimp only; omega, by dsimp only; omega⟩)
      by_cases heq : (pre.length : Int) + 1 = most
      · have heb : ((pre.length : Int) + 1 == most) = true := by simpa using heq
        gi_wp2_with (gi_at_builtin; refine wpListIn_append_gathW _ rfl _ _ 45 rfl Z 5 i0 (.int .u8 0) 1 1 Try.underlying45 HI.out HZ0.out HZ1.out HZ2.out rfl (by decide) _ _ _ rfl (gath_kept HB.out.row (World.grownBy_alloc W _ none) (fun r e => by cases e)) ⟨W.heap.size, 0, none⟩ 1 1 [.int .u8 y] rfl rfl (cell_one W (.int .u8 y) 5) (fun u hu => by simp at hu; subst hu; rfl) (by decide) (by unfold maxLen; omega) (by omega) (by simp; omega) ?_; intro v' w3 row hown hgrow hrow; obtain ⟨g5, cap5, rfl⟩ := ownsRow_succ hown; obtain ⟨hb1, hB1, hk1, hl1, hm1, hm2⟩ := HB.out.app (z := A0.heap.size) (u := u) (by omega) (by omega) (by omega) HBs.out (by omega) HLt.out (by omega) hown ⟨_, _, rfl⟩ hgrow hrow; have c5 := hb1.cell; have f5 := hb1.frozen; have q5 := hB1.oth _ (List.mem_cons_self ..); rw [Below.heap_setCell w3 ⟨A + 1 + 1 + 1, 0, none⟩ _ _ (by show A ≠ A + 1 + 1 + 1; omega)] at q5; have d5 : w3.cell? ⟨A, 0, none⟩ = some (.int .i64 most) := heap_cell q5 rfl; clear q5; have q6 := hB1.oth _ (List.mem_cons_of_mem _ (List.mem_cons_self ..)); have HQ6 := Lib.hid q6; rw [Below.heap_setCell w3 ⟨A + 1 + 1 + 1, 0, none⟩ _ _ (by show A + 1 ≠ A + 1 + 1 + 1; omega)] at q6; have d6 : w3.cell? ⟨A + 1, 0, none⟩ = some (.slice none 0 0) := heap_cell q6 rfl; have f6 : w3.frozen? ⟨A + 1, 0, none⟩ = false := heap_frozen q6 0; clear q6; have HB1 := Lib.hid hB1; have HM1 := Lib.hid (And.intro hk1 (And.intro hl1 (And.intro (hm1 (A + 1 + 1 + 1 + 1) Z (.inr (by omega)) (by omega)) hm2))); have hlen : (ivals .u8 pre ++ [Value.int .u8 y]) = ivals .u8 (pre ++ [y]) := (ivals_snoc _ _ _).symm; rw [hlen] at HB1; clear hown hgrow hrow hb1 hB1 hk1 hl1 hm1 hm2)
        have HB2 := HB1.out
        have hq := heap_set HQ6.out 0 (.slice (some ⟨g5, 0, none⟩) (pre.length + 1) cap5)
        have hM := HM1.out
        generalize w3.setCell ⟨A + 1 + 1 + 1, 0, none⟩ (.slice (some ⟨g5, 0, none⟩) (pre.length + 1) cap5) = W4 at *
        have hbB : Below A W4 (W4.setCell ⟨A + 1, 0, none⟩ (.slice (some ⟨g5, 0, none⟩) (pre.length + 1) cap5)) := (Below.refl _ _).setCell (p := ⟨A + 1, 0, none⟩) (by show A ≤ A + 1; omega) _
        have hmB : ∀ lo up, A + 1 < lo → Mid lo up W4 (W4.setCell ⟨A + 1, 0, none⟩ (.slice (some ⟨g5, 0, none⟩) (pre.length + 1) cap5)) := fun lo up h => ⟨by rw [size_set]; exact Nat.le_refl _, fun j h1 h2 => Below.heap_setCell W4 ⟨A + 1, 0, none⟩ _ j (by show j ≠ A + 1; omega)⟩
        refine ⟨(hM.1.trans (KeepsOthers.setCell _ _ _)).from _, ⟨hM.2.1.trans hbB, hM.2.2.1.trans (hmB _ _ (by omega)), hM.2.2.2.trans (hmB _ _ (by omega))⟩, rfl, by simp; omega, _, hq, ?_, HB2.below.trans hbB⟩
        rw [List.length_append]
        exact gath_base (gath_setI HB2.row (by omega : A + 1 < Z) 0 _) (by omega)
      · have heb : ((pre.length : Int) + 1 == most) = false := by simpa using heq
        gi_wp2_with (gi_at_builtin; refine wpListIn_append_gathW _ rfl _ _ 45 rfl Z 5 i0 (.int .u8 0) 1 1 Try.underlying45 HI.out HZ0.out HZ1.out HZ2.out rfl (by decide) _ _ _ rfl (gath_kept HB.out.row (World.grownBy_alloc W _ none) (fun r e => by cases e)) ⟨W.heap.size, 0, none⟩ 1 1 [.int .u8 y] rfl rfl (cell_one W (.int .u8 y) 5) (fun u hu => by simp at hu; subst hu; rfl) (by decide) (by unfold maxLen; omega) (by omega) (by simp; omega) ?_; intro v' w3 row hown hgrow hrow; obtain ⟨g5, cap5, rfl⟩ := ownsRow_succ hown; obtain ⟨hb1, hB1, hk1, hl1, hm1, hm2⟩ := HB.out.app (z := A0.heap.size) (u := u) (by omega) (by omega) (by omega) HBs.out (by omega) HLt.out (by omega) hown ⟨_, _, rfl⟩ hgrow hrow; have c5 := hb1.cell; have f5 := hb1.frozen; have q5 := hB1.oth _ (List.mem_cons_self ..); rw [Below.heap_setCell w3 ⟨A + 1 + 1 + 1, 0, none⟩ _ _ (by show A ≠ A + 1 + 1 + 1; omega)] at q5; have d5 : w3.cell? ⟨A, 0, none⟩ = some (.int .i64 most) := heap_cell q5 rfl; clear q5; have HB1 := Lib.hid hB1; have HM1 := Lib.hid (And.intro hk1 (And.intro hl1 (And.intro (hm1 (A + 1 + 1 + 1 + 1) Z (.inr (by omega)) (by omega)) hm2))); have hlen : (ivals .u8 pre ++ [Value.int .u8 y]) = ivals .u8 (pre ++ [y]) := (ivals_snoc _ _ _).symm; rw [hlen] at HB1; clear hown hgrow hrow hb1 hB1 hk1 hl1 hm1 hm2)
        refine ⟨HM1.out.1.from _, ⟨HM1.out.2.1, HM1.out.2.2.1, HM1.out.2.2.2⟩, ⟨by simp; omega, .slice (some ⟨g5, 0, none⟩) (pre.length + 1) cap5, ?_⟩⟩
        have := HB1.out
        rw [List.length_append]
        exact this
    case done =>
      rintro C W0' W hC ⟨hpe, v, hB⟩ hbW hK
      have hBW := hB.on (by omega) hbW
      obtain ⟨a6, cap6, rfl⟩ := hBW.row.slice
      have c0 := hBW.box.cell
      have hoR := hBW.oth _ (List.mem_cons_of_mem _ (List.mem_cons_self ..))
      simp only at hoR
      have k0 := heap_cell hoR (i := 0) rfl
      simp only [List.getElem_toArray, List.getElem_cons_zero, List.getElem_cons_succ] at k0
      have f0 := heap_frozen hoR 0
      have HB := Lib.hid hBW
      have HK := Lib.hid hK
      have hZ := HZ.out
      clear hB hBW hbW hK
      go_wp2
      have hx1 := heap_set hoR 0 (.slice a6 xs.length cap6)
      have hK' := (KeepsOthers.setCell W ⟨A + 1, 0, none⟩ (.slice a6 xs.length cap6)).same C _ HK.out rfl
      have hrow := gath_setI HB.out.row (by omega : A + 1 < Z) 0 (.slice a6 xs.length cap6)
      have hbl := HB.out.below.setCell (p := ⟨A + 1, 0, none⟩) (by show A ≤ A + 1; omega) (.slice a6 xs.length cap6)
      generalize W.setCell ⟨A + 1, 0, none⟩ (.slice a6 xs.length cap6) = X at *
      refine ⟨by simp, .inl ⟨_, _, rfl, run_takeDeferred hK', ?_⟩⟩
      have hCF : A + 1 ≠ C := by omega
      have k0 : (X.putObj C (.deferred none)).cell? ⟨A + 1, 0, none⟩ = some (.slice a6 xs.length cap6) := heap_cell ((World.putObj_heap_other (o := .deferred none) hCF).trans hx1) (i := 0) rfl
      refine ⟨.slice a6 xs.length cap6, ?_, ?_, ?_⟩
      · simp [results, Try.f38, go_sem, k0]
      · rw [HA.out]
        exact hbl.trans ((Below.refl A X).grown (grownBy_putObj' X C (.deferred none)) (by have := hbl.size; have := HA.out; omega) (fun k e => by cases e; omega))
      · have h1 : upTo most xs = xs := by unfold upTo; exact List.take_of_length_le (by omega)
        rw [hxs, h1]
        refine ⟨_, rfl, ?_⟩
        rw [HA.out]
        exact gath_putObj (l := C) (o := .deferred (some [])) (gath_base (base' := A) hrow (by omega)) (.deferred none) hK' rfl
    case stop =>
      rintro C c pre W0' W hC hpre ⟨rfl, h1, v, hoR, hrow, hbl⟩ hbW hK
      have hx := heap_below hoR hbW (heap_lt hoR)
      have hz0 := heap_lt hoR
      have hzW2 := hbW.size
      have hZ := HZ.out
      have hr2 := gath_kept hrow (grown_below hbW none) (fun r e => by cases e)
      gi_wp2
      refine ⟨by simp, .inl ⟨_, _, rfl, run_takeDeferred hK, ?_⟩⟩
      have hCF : A + 1 ≠ C := by omega
      have k0 := heap_cell ((World.putObj_heap_other (o := .deferred none) hCF).trans hx) (i := 0) rfl
      simp only [List.getElem_toArray, List.getElem_cons_zero, List.getElem_cons_succ] at k0
      refine ⟨v, ?_, ?_, ?_⟩
      · simp [results, Try.f38, go_sem, k0]
      · rw [HA.out]
        exact (hbl.trans (hbW.mono (by omega))).trans ((Below.refl A W).grown (grownBy_putObj' W C (.deferred none)) (by omega) (fun k e => by cases e; omega))
      · have h2 : upTo most xs = pre := by
          unfold upTo
          rw [← h1, Int.toNat_natCast]
          obtain ⟨t, rfl⟩ := hpre
          simp
        rw [hxs, h2]
        refine ⟨_, rfl, ?_⟩
        rw [HA.out]
        exact gath_putObj (l := C) (o := .deferred (some [])) hr2 (.deferred none) hK rfl
end Go.Proofs.Ytnkhpmpoemodiaa.Se
