/- Contracts: the tree of what was below a node; a tree without a key. -/
import Derived.Test.YtpoillgnkmpknaaTg
set_option linter.unusedVariables false
set_option linter.unusedSectionVars false
namespace Go.Proofs.Ytpoillgnkmpknaa
open Go.RowKit Rk

/-- What without does, of trees of up to N keys. -/
def Wo (N : Nat) : Prop := ∀ (u : T Int Int) (k : Int) (S : Nat → Prop) (w : World) (p : Option Addr), u.count ≤ N → IsT S w p u → Srt ltI u.list → get ltI k u.list ≠ none →
  Calls Try.prog 31 #[.pointer p, .int .i64 k] w (TreePost (fun c => S c ∨ w.heap.size ≤ c) (fun _ => False) (del ltI k u.list) w)
theorem nthI_first {L : List (Int × Int)} {p : Int × Int} (h : nthI L 0 = some p) : ∃ B, L = p :: B := by
  cases L with
  | nil => simp [nthI] at h
  | cons q B => simp [nthI] at h; exact ⟨B, by rw [h]⟩
theorem nthI_last {L : List (Int × Int)} {p : Int × Int} (h0 : 1 ≤ L.length) (h : nthI L ((L.length : Int) - 1) = some p) : ∃ A, L = A ++ [p] := by
  unfold nthI at h
  rw [if_neg (by omega), show ((L.length : Int) - 1).toNat = L.length - 1 by omega, ← List.getLast?_eq_getElem?] at h
  obtain ⟨A, hA⟩ := List.getLast?_eq_some_iff.1 h
  exact ⟨A, hA⟩
theorem nthI_in {L : List (Int × Int)} {i : Int} (h0 : 0 ≤ i) (h : i < (L.length : Int)) : ∃ p, nthI L i = some p := by
  unfold nthI
  rw [if_neg (by omega)]
  exact ⟨_, List.getElem?_eq_getElem (by omega)⟩

set_option maxRecDepth 100000 in
set_option maxHeartbeats 8000000 in
theorem joined_any {N : Nat} (HWo : Wo N) {S : Nat → Prop} {w : World} {pl pr : Option Addr} {l r : T Int Int} (hl : IsT S w pl l) (hrr : IsT S w pr r) (hs : Srt ltI (l.list ++ r.list)) (hcl : l.count ≤ N) (hcr : r.count ≤ N) (hc : l.count + r.count ≤ 600000) :
    Calls Try.prog 42 #[.agg #[.pointer pl, .pointer pr]] w (TreePost (fun c => S c ∨ w.heap.size ≤ c) (fun _ => False) (l.list ++ r.list) w) := by
  obtain ⟨w1, hw⟩ : ∃ w1, w.alloc (.cells #[.pointer pl, .pointer pr] 75) = w1 := ⟨_, rfl⟩
  have hz1 : w1.heap.size = w.heap.size + 1 := by rw [← hw]; simp
  have bx : w1.heap[w.heap.size]? = some (.cells #[.pointer pl, .pointer pr] 75 (0, 0)) := by rw [← hw]; exact heap_new _ rfl
  have t01 : Turned (fun _ => False) w w1 := by rw [← hw]; exact Turned.alloc _ _ _
  have l1 : IsT (fun c => S c ∧ c < w.heap.size) w1 pl l := hl.below_size.turned t01 (fun _ _ _ h => h)
  have r1 : IsT (fun c => S c ∧ c < w.heap.size) w1 pr r := hrr.below_size.turned t01 (fun _ _ _ h => h)
  have HCl := Lib.hid (fun n => count_any (l1.drawn n))
  have HCr := Lib.hid (fun n => count_any (r1.drawn n))
  have HCl1 := Lib.hid (count_any l1)
  obtain ⟨nl, hnl⟩ : ∃ nl : Nat, l.count = nl := ⟨_, rfl⟩
  obtain ⟨nr, hnr⟩ : ∃ nr : Nat, r.count = nr := ⟨_, rfl⟩
  rw [hnl] at HCl HCl1 hc
  rw [hnr] at HCr hc
  have HNL := Lib.hid hnl
  have HNR := Lib.hid hnr
  have HW := Lib.hid hw
  have HZ := Lib.hid hz1
  have HBX := Lib.hid bx
  have HT1 := Lib.hid t01
  have HL1 := Lib.hid l1
  have HR1 := Lib.hid r1
  have HSr := Lib.hid hs
  have HcL := Lib.hid hcl
  have HcR := Lib.hid hcr
  have HWO := Lib.hid HWo
  obtain ⟨x0, x1⟩ : w1.cell? ⟨w.heap.size, 0, none⟩ = some (.pointer pl) ∧ w1.cell? ⟨w.heap.size, 1, none⟩ = some (.pointer pr) := ⟨heap_cell bx rfl, heap_cell bx rfl⟩
  clear hl hrr hs hcl hcr HWo hnl hnr hw hz1 bx t01 l1 r1
  by_cases hlr : (nl : Int) < (nr : Int)
  · have hd : decide ((nl : Int) < (nr : Int)) = true := by simpa using hlr
    go_enter Try.func42, Try.ntmps42
    go_wp2_with fail
    rw [HW.out]
    refine HCl1.out.mono ?_
    rintro e w' ⟨rfl, rfl⟩
    go_wp2
    go_quiet ((first | (go_at_call 33; exact Calls.quiet_of_same ((HCl.out _).mono (fun e w' h => ⟨h.1, h.2.symm⟩))) | (go_at_call 33; exact Calls.quiet_of_same ((HCr.out _).mono (fun e w' h => ⟨h.1, h.2.symm⟩)))))
    have t2 : Turned (fun _ => False) w1 (w1.drewN nq) := Turned.drewN _ _ _
    revert t2
    generalize w1.drewN nq = w2
    intro t2
    have bx2 := t2.old HBX.out id
    have l2 := HL1.out.turned t2 (fun _ _ _ h => h)
    have r2 := HR1.out.turned t2 (fun _ _ _ h => h)
    clear x0 x1
    obtain ⟨x0, x1⟩ : w2.cell? ⟨w.heap.size, 0, none⟩ = some (.pointer pl) ∧ w2.cell? ⟨w.heap.size, 1, none⟩ = some (.pointer pr) := ⟨heap_cell bx2 rfl, heap_cell bx2 rfl⟩
    have HN := Lib.hid (nth_any 0 r2 (by omega) (by rw [HNR.out]; omega))
    have T2 := Lib.hid (HT1.out.trans t2)
    have BX2 := Lib.hid bx2
    have L2 := Lib.hid l2
    have R2 := Lib.hid r2
    have HZ2 := Lib.hid t2.size
    clear t2 bx2 l2 r2
    go_wp2_with fail
    refine HN.out.mono ?_
    rintro e w' ⟨pn, rfl, rfl, hpn⟩
    rcases hpn with ⟨rfl, hpn⟩ | hpn
    · exfalso
      obtain ⟨q, hq⟩ := nthI_in (L := r.list) (i := 0) (by omega) (by rw [T.list_length, HNR.out]; omega)
      rw [hq] at hpn; cases hpn
    obtain ⟨bn, k, v, s', qa, qb, rfl, hnth, hrn⟩ := hpn
    obtain ⟨d0, d1, d2, d3, d4⟩ := hrn.cells
    obtain ⟨w3, hw3⟩ : ∃ w3, w2.alloc (.cells #[.int .i64 k, .int .i64 v, .int .i64 s', .pointer pl, .pointer pr] 77) = w3 := ⟨_, rfl⟩
    have hz3 : w3.heap.size = w2.heap.size + 1 := by rw [← hw3]; simp
    have own3 : Raw w3 w2.heap.size k v s' pl pr := by rw [← hw3]; exact heap_new _ rfl
    have t23 : Turned (fun _ => False) w2 w3 := by rw [← hw3]; exact Turned.alloc _ _ _
    have hbx2 : w.heap.size < w2.heap.size := heap_lt BX2.out
    have bx3 := t23.old BX2.out id
    have rn3 := hrn.turned t23 id
    have l3 : IsT (fun c => S c ∧ c < w.heap.size) w3 pl l := L2.out.turned t23 (fun _ _ _ h => h)
    have r3 : IsT (fun c => S c ∧ c < w.heap.size) w3 pr r := R2.out.turned t23 (fun _ _ _ h => h)
    obtain ⟨B, hB⟩ := nthI_first hnth
    have hsr := (List.pairwise_append.1 HSr.out).2.1
    have hsrt : Srt ltI r.list := hsr
    have hsr' := hsrt
    rw [hB] at hsr'
    have hdel : del ltI k r.list = B := by rw [hB]; exact del_eq linI [] B (k, v) hsr'
    have hget : get ltI k r.list ≠ none := by rw [hB, show get ltI k ((k, v) :: B) = some v from get_eq linI [] B (k, v) hsr']; simp
    have hfin : l.list ++ (k, v) :: del ltI k r.list = l.list ++ r.list := by rw [hdel, hB]
    have HA := Lib.hid (HWO.out r k (fun c => S c ∧ c < w.heap.size) w3.drew pr (by first | exact HcL.out | exact HcR.out) (r3.drawn _) hsrt hget)
    have HW3 := Lib.hid hw3
    have HZ3 := Lib.hid hz3
    have O3 := Lib.hid own3
    have T23 := Lib.hid t23
    have BX3 := Lib.hid bx3
    have RN3 := Lib.hid rn3
    have HDEL := Lib.hid hdel
    have HFIN := Lib.hid hfin
    have HOT := Lib.hid l3
    have hblt := hrn.lt
    clear hw3 hz3 own3 t23 hnth hrn bx3 rn3 l3 r3 hdel hfin hsrt hget
    refine Hid.out (Lib.hid ?_)
    go_wp2_with fail
    rw [HW3.out]
    clear x0 x1 d0 d1 d2 d3 d4
    obtain ⟨x0, x1⟩ : w3.cell? ⟨w.heap.size, 0, none⟩ = some (.pointer pl) ∧ w3.cell? ⟨w.heap.size, 1, none⟩ = some (.pointer pr) := ⟨heap_cell BX3.out rfl, heap_cell BX3.out rfl⟩
    obtain ⟨d0, d1, d2, d3, d4⟩ := RN3.out.cells
    have HS3 : Hid (∀ W, Turned (fun c => c = w2.heap.size) w3 W → W.cell? ⟨w.heap.size, 1, none⟩ = some (.pointer pr) ∧ W.cell? ⟨bn, 0, none⟩ = some (.int .i64 k) ∧ Hid (Turned (fun c => c = w2.heap.size) w3 W)) := Lib.hid (fun W hW => ⟨heap_cell (hW.old BX3.out (fun e => by omega)) rfl, (RN3.out.turned hW (fun e => by omega)).cells.1, Lib.hid hW⟩)
    go_region_held3 (fun w' => w'.cell? ⟨w.heap.size, 1, none⟩ = some (.pointer pr) ∧ w'.cell? ⟨bn, 0, none⟩ = some (.int .i64 k) ∧ Hid (Turned (fun c => c = w2.heap.size) w3 w')) (first | exact HS3.out _ (Turned.refl _ _) | exact HS3.out _ (Turned.drewN _ _ 1) | exact HS3.out _ TU.out | exact HS3.out _ (TU.out.trans (Turned.set _ _ _ _))) (first | (go_at_call 31; refine HA.out.mono ?_; rintro e w4 ⟨p4, t4, rfl, h4, hl4, tu4⟩; have TV : Hid (Turned (fun _ => False) w3 w4) := Lib.hid ((Turned.drewN _ w3 1).trans tu4); have TU : Hid (Turned (fun c => c = w2.heap.size) w3 w4) := Lib.hid (TV.out.weak (fun _ _ h => h.elim)); have o4 := O3.out.turned TV.out id; obtain ⟨y0, y1, y2, y3, y4⟩ := o4.cells; have yf := o4.frozen 4; have O4 := Lib.hid o4; have H4 := Lib.hid h4; have HL4 := Lib.hid hl4; clear o4 h4 hl4 tu4))
    have t5 : Turned (fun c => c = w2.heap.size) w4 (w4.setCell ⟨w2.heap.size, 4, none⟩ (.pointer p4)) := Turned.set _ _ _ _
    have o5 := O4.out.right_set p4
    clear y0 y1 y2 y3 y4 yf x0 x1 d0 d1 d2 d3 d4
    revert t5 o5
    generalize w4.setCell ⟨w2.heap.size, 4, none⟩ (.pointer p4) = w5
    intro t5 o5
    have hz3 := HZ3.out
    have hz2 := HZ2.out
    have hz1 := HZ.out
    have n5 : IsT (fun c => (S c ∧ c < w.heap.size) ∨ w3.drew.heap.size ≤ c) w5 p4 t4 := H4.out.turned t5 (fun c _ hc e => by rcases hc with hc | hc; omega; (have h6 : w3.heap.size ≤ c := hc; omega))
    have m5 : IsT (fun c => (S c ∧ c < w.heap.size) ∨ w3.drew.heap.size ≤ c) w5 pl l := ((HOT.out.turned TV.out (fun _ _ _ h => h)).turned t5 (fun c _ hc e => by omega)).mono (fun _ _ h => .inl h)
    have hct : t4.count ≤ r.count := by rw [← T.list_length, HL4.out, ← T.list_length]; exact del_length_le _ _
    have HE := Lib.hid (even_any o5 m5 n5 (fun c hc e => by rcases hc with hc | hc; omega; (have h6 : w3.heap.size ≤ c := hc; omega)) (by have := HNL.out; have := HNR.out; omega))
    have T5 := Lib.hid (((T2.out.trans T23.out).trans TV.out).step t5 (fun i hi e => by omega))
    have HZ5 := Lib.hid (Nat.le_trans TV.out.size t5.size)
    clear t5 o5 n5 m5 hct hz1 hz2 hz3
    go_wp2_with fail
    refine HE.out.mono ?_
    rintro e w6 ⟨p6, t6, rfl, h6, hl6, tu6⟩
    have END : TreePost (fun c => S c ∨ w.heap.size ≤ c) (fun _ => False) (l.list ++ r.list) w (.returned (.pointer p6)) w6 := by
      have hz3 := HZ3.out
      have hz2 := HZ2.out
      have hz1 := HZ.out
      have hz5 := HZ5.out
      refine ⟨p6, t6, rfl, h6.mono (fun c _ hc => ?_), ?_, T5.out.step tu6 (fun i hi e => by omega)⟩
      · rcases hc with (hc | hc) | hc | hc
        · exact .inl hc.1
        · have h7 : w3.heap.size ≤ c := hc
          exact .inr (by omega)
        · exact .inr (by omega)
        · exact .inr (by omega)
      · rw [hl6, HL4.out, HFIN.out]
    have HEND := Lib.hid END
    clear END h6 hl6 tu6
    go_wp2
    go_ret
    exact HEND.out
  · have hd : decide ((nl : Int) < (nr : Int)) = false := by simpa using hlr
    go_enter Try.func42, Try.ntmps42
    go_wp2_with fail
    rw [HW.out]
    refine HCl1.out.mono ?_
    rintro e w' ⟨rfl, rfl⟩
    go_wp2
    go_quiet ((first | (go_at_call 33; exact Calls.quiet_of_same ((HCl.out _).mono (fun e w' h => ⟨h.1, h.2.symm⟩))) | (go_at_call 33; exact Calls.quiet_of_same ((HCr.out _).mono (fun e w' h => ⟨h.1, h.2.symm⟩)))))
    have t2 : Turned (fun _ => False) w1 (w1.drewN nq) := Turned.drewN _ _ _
    revert t2
    generalize w1.drewN nq = w2
    intro t2
    have bx2 := t2.old HBX.out id
    have l2 := HL1.out.turned t2 (fun _ _ _ h => h)
    have r2 := HR1.out.turned t2 (fun _ _ _ h => h)
    clear x0 x1
    obtain ⟨x0, x1⟩ : w2.cell? ⟨w.heap.size, 0, none⟩ = some (.pointer pl) ∧ w2.cell? ⟨w.heap.size, 1, none⟩ = some (.pointer pr) := ⟨heap_cell bx2 rfl, heap_cell bx2 rfl⟩
    have HN := Lib.hid (nth_any ((nl : Int) - 1) l2 (by omega) (by rw [HNL.out]; omega))
    have T2 := Lib.hid (HT1.out.trans t2)
    have BX2 := Lib.hid bx2
    have L2 := Lib.hid l2
    have R2 := Lib.hid r2
    have HZ2 := Lib.hid t2.size
    clear t2 bx2 l2 r2
    go_wp2_with fail
    refine HN.out.mono ?_
    rintro e w' ⟨pn, rfl, rfl, hpn⟩
    rcases hpn with ⟨rfl, hpn⟩ | hpn
    · have h00 : nl = 0 := by
        by_cases h : nl = 0
        · exact h
        · obtain ⟨q, hq⟩ := nthI_in (L := l.list) (i := (nl : Int) - 1) (by omega) (by rw [T.list_length, HNL.out]; omega)
          rw [hq] at hpn; cases hpn
      have HEND : Hid (TreePost (fun c => S c ∨ w.heap.size ≤ c) (fun _ => False) (l.list ++ r.list) w (.returned (.pointer none)) w2) := Lib.hid ⟨none, .nil, rfl, rfl, by rw [T.nil_of (HNL.out.trans h00), T.nil_of (HNR.out.trans (by omega))]; rfl, T2.out⟩
      clear h00 hpn
      go_wp2
      go_ret
      exact HEND.out
    have hnl1 : 1 ≤ nl := by
      obtain ⟨bn, k, v, s', qa, qb, rfl, hnth, hrn⟩ := hpn
      by_cases h : nl = 0
      · subst h; simp [nthI] at hnth
      · omega
    obtain ⟨bn, k, v, s', qa, qb, rfl, hnth, hrn⟩ := hpn
    obtain ⟨d0, d1, d2, d3, d4⟩ := hrn.cells
    obtain ⟨w3, hw3⟩ : ∃ w3, w2.alloc (.cells #[.int .i64 k, .int .i64 v, .int .i64 s', .pointer pl, .pointer pr] 77) = w3 := ⟨_, rfl⟩
    have hz3 : w3.heap.size = w2.heap.size + 1 := by rw [← hw3]; simp
    have own3 : Raw w3 w2.heap.size k v s' pl pr := by rw [← hw3]; exact heap_new _ rfl
    have t23 : Turned (fun _ => False) w2 w3 := by rw [← hw3]; exact Turned.alloc _ _ _
    have hbx2 : w.heap.size < w2.heap.size := heap_lt BX2.out
    have bx3 := t23.old BX2.out id
    have rn3 := hrn.turned t23 id
    have l3 : IsT (fun c => S c ∧ c < w.heap.size) w3 pl l := L2.out.turned t23 (fun _ _ _ h => h)
    have r3 : IsT (fun c => S c ∧ c < w.heap.size) w3 pr r := R2.out.turned t23 (fun _ _ _ h => h)
    obtain ⟨A, hA⟩ := nthI_last (by rw [T.list_length, HNL.out]; omega) (by rw [T.list_length, HNL.out]; exact hnth)
    have hsl := (List.pairwise_append.1 HSr.out).1
    have hsrt : Srt ltI l.list := hsl
    have hsl' := hsrt
    rw [hA] at hsl'
    have hdel : del ltI k l.list = A := by rw [hA, del_eq linI A [] (k, v) hsl', List.append_nil]
    have hget : get ltI k l.list ≠ none := by rw [hA, get_eq linI A [] (k, v) hsl']; simp
    have hfin : del ltI k l.list ++ (k, v) :: r.list = l.list ++ r.list := by rw [hdel, hA, List.append_assoc]; rfl
    have HA := Lib.hid (HWO.out l k (fun c => S c ∧ c < w.heap.size) w3.drew pl (by first | exact HcL.out | exact HcR.out) (l3.drawn _) hsrt hget)
    have HW3 := Lib.hid hw3
    have HZ3 := Lib.hid hz3
    have O3 := Lib.hid own3
    have T23 := Lib.hid t23
    have BX3 := Lib.hid bx3
    have RN3 := Lib.hid rn3
    have HDEL := Lib.hid hdel
    have HFIN := Lib.hid hfin
    have HOT := Lib.hid r3
    have hblt := hrn.lt
    clear hw3 hz3 own3 t23 hnth hrn bx3 rn3 l3 r3 hdel hfin hsrt hget
    refine Hid.out (Lib.hid ?_)
    go_wp2_with fail
    rw [HW3.out]
    clear x0 x1 d0 d1 d2 d3 d4
    obtain ⟨x0, x1⟩ : w3.cell? ⟨w.heap.size, 0, none⟩ = some (.pointer pl) ∧ w3.cell? ⟨w.heap.size, 1, none⟩ = some (.pointer pr) := ⟨heap_cell BX3.out rfl, heap_cell BX3.out rfl⟩
    obtain ⟨d0, d1, d2, d3, d4⟩ := RN3.out.cells
    have HS3 : Hid (∀ W, Turned (fun c => c = w2.heap.size) w3 W → W.cell? ⟨w.heap.size, 0, none⟩ = some (.pointer pl) ∧ W.cell? ⟨bn, 0, none⟩ = some (.int .i64 k) ∧ Hid (Turned (fun c => c = w2.heap.size) w3 W)) := Lib.hid (fun W hW => ⟨heap_cell (hW.old BX3.out (fun e => by omega)) rfl, (RN3.out.turned hW (fun e => by omega)).cells.1, Lib.hid hW⟩)
    go_region_held3 (fun w' => w'.cell? ⟨w.heap.size, 0, none⟩ = some (.pointer pl) ∧ w'.cell? ⟨bn, 0, none⟩ = some (.int .i64 k) ∧ Hid (Turned (fun c => c = w2.heap.size) w3 w')) (first | exact HS3.out _ (Turned.refl _ _) | exact HS3.out _ (Turned.drewN _ _ 1) | exact HS3.out _ TU.out | exact HS3.out _ (TU.out.trans (Turned.set _ _ _ _))) (first | (go_at_call 31; refine HA.out.mono ?_; rintro e w4 ⟨p4, t4, rfl, h4, hl4, tu4⟩; have TV : Hid (Turned (fun _ => False) w3 w4) := Lib.hid ((Turned.drewN _ w3 1).trans tu4); have TU : Hid (Turned (fun c => c = w2.heap.size) w3 w4) := Lib.hid (TV.out.weak (fun _ _ h => h.elim)); have o4 := O3.out.turned TV.out id; obtain ⟨y0, y1, y2, y3, y4⟩ := o4.cells; have yf := o4.frozen 3; have O4 := Lib.hid o4; have H4 := Lib.hid h4; have HL4 := Lib.hid hl4; clear o4 h4 hl4 tu4))
    have t5 : Turned (fun c => c = w2.heap.size) w4 (w4.setCell ⟨w2.heap.size, 3, none⟩ (.pointer p4)) := Turned.set _ _ _ _
    have o5 := O4.out.left_set p4
    clear y0 y1 y2 y3 y4 yf x0 x1 d0 d1 d2 d3 d4
    revert t5 o5
    generalize w4.setCell ⟨w2.heap.size, 3, none⟩ (.pointer p4) = w5
    intro t5 o5
    have hz3 := HZ3.out
    have hz2 := HZ2.out
    have hz1 := HZ.out
    have n5 : IsT (fun c => (S c ∧ c < w.heap.size) ∨ w3.drew.heap.size ≤ c) w5 p4 t4 := H4.out.turned t5 (fun c _ hc e => by rcases hc with hc | hc; omega; (have h6 : w3.heap.size ≤ c := hc; omega))
    have m5 : IsT (fun c => (S c ∧ c < w.heap.size) ∨ w3.drew.heap.size ≤ c) w5 pr r := ((HOT.out.turned TV.out (fun _ _ _ h => h)).turned t5 (fun c _ hc e => by omega)).mono (fun _ _ h => .inl h)
    have hct : t4.count ≤ l.count := by rw [← T.list_length, HL4.out, ← T.list_length]; exact del_length_le _ _
    have HE := Lib.hid (even_any o5 n5 m5 (fun c hc e => by rcases hc with hc | hc; omega; (have h6 : w3.heap.size ≤ c := hc; omega)) (by have := HNL.out; have := HNR.out; omega))
    have T5 := Lib.hid (((T2.out.trans T23.out).trans TV.out).step t5 (fun i hi e => by omega))
    have HZ5 := Lib.hid (Nat.le_trans TV.out.size t5.size)
    clear t5 o5 n5 m5 hct hz1 hz2 hz3
    go_wp2_with fail
    refine HE.out.mono ?_
    rintro e w6 ⟨p6, t6, rfl, h6, hl6, tu6⟩
    have END : TreePost (fun c => S c ∨ w.heap.size ≤ c) (fun _ => False) (l.list ++ r.list) w (.returned (.pointer p6)) w6 := by
      have hz3 := HZ3.out
      have hz2 := HZ2.out
      have hz1 := HZ.out
      have hz5 := HZ5.out
      refine ⟨p6, t6, rfl, h6.mono (fun c _ hc => ?_), ?_, T5.out.step tu6 (fun i hi e => by omega)⟩
      · rcases hc with (hc | hc) | hc | hc
        · exact .inl hc.1
        · have h7 : w3.heap.size ≤ c := hc
          exact .inr (by omega)
        · exact .inr (by omega)
        · exact .inr (by omega)
      · rw [hl6, HL4.out, HFIN.out]
    have HEND := Lib.hid END
    clear END h6 hl6 tu6
    go_wp2
    go_ret
    exact HEND.out
end Go.Proofs.Ytpoillgnkmpknaa
