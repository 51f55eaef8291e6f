/- Contracts: a graph's Join, Near, Total. -/
import Derived.Test.YtjcmeacgfflfmaaGreatGn
set_option linter.unusedVariables false
set_option linter.unusedSectionVars false
namespace Go.Proofs.YtjcmeacgfflfmaaGreat
open Go.RowKit Rk

/-- A graph whose rows are whatever. -/
structure IsG0 (W : World) (g nb : Nat) (ws : List Int) (R : Nat → List (Int × Int)) : Prop where
  box : ∃ wa wc wb, W.heap[g]? = some (.cells #[.slice wa ws.length wc, .slice (some ⟨nb, 0, none⟩) ws.length ws.length] 90 (0, 0)) ∧ IntsAt .i64 W.heap.size W wa wb 0 ws.length ws
  maps : ∃ cs, W.heap[nb]? = some (.cells cs 95 (0, 0))
  map : ∀ i, i < ws.length → IsM W nb i (R i)
theorem IsG.g0 {W : World} {g nb : Nat} {ws : List Int} {F : Nat → Nat → Int} (h : IsG W g nb ws F) : IsG0 W g nb ws (fun i => rowOf ws.length (F i)) := ⟨h.box, h.maps, h.map⟩
theorem IsG.of0 {W : World} {g nb : Nat} {ws : List Int} {R : Nat → List (Int × Int)} {F : Nat → Nat → Int} (h : IsG0 W g nb ws R) (ht : Tab ws.length F) (hs : ws.length ≤ 4096) (hw : ∀ x ∈ ws, 1 ≤ x ∧ x ≤ 1099511627776) (hR : ∀ i, i < ws.length → R i = rowOf ws.length (F i)) : IsG W g nb ws F :=
  ⟨h.box, h.maps, fun i hi => by rw [← hR i hi]; exact h.map i hi, ht, hs, hw⟩
theorem IsG0.below {W W' : World} {g nb : Nat} {ws : List Int} {R : Nat → List (Int × Int)} (h : IsG0 W g nb ws R) (hb : Below W.heap.size W W') : IsG0 W' g nb ws R := by
  obtain ⟨wa, wc, wb, h1, h2⟩ := h.box
  obtain ⟨cs, h3⟩ := h.maps
  exact ⟨⟨wa, wc, wb, heap_below h1 hb (heap_lt h1), (h2.kept hb (Nat.le_refl _)).mono hb.size⟩, ⟨cs, heap_below h3 hb (heap_lt h3)⟩, fun i hi => (h.map i hi).below hb⟩
theorem IsG0.calm {W W' : World} {g nb : Nat} {ws : List Int} {R : Nat → List (Int × Int)} (h : IsG0 W g nb ws R) (ht : Turned (fun _ => False) W W') : IsG0 W' g nb ws R := h.below (below_of_turned ht)
theorem IsG0.apart {W : World} {g nb : Nat} {ws : List Int} {R : Nat → List (Int × Int)} (h : IsG0 W g nb ws R) : g ≠ nb := by
  obtain ⟨wa, wc, wb, h1, h2⟩ := h.box
  obtain ⟨cs, h3⟩ := h.maps
  intro e
  subst e
  rw [h1] at h3
  cases h3
theorem IntsAt.turned {k : IntKind} {R : Nat → Prop} {w w' : World} {a : Option Addr} {b off len : Nat} {zs : List Int} (h : IntsAt k w.heap.size w a b off len zs) (ht : Turned R w w') (hn : len = 0 ∨ ¬ R b) : IntsAt k w'.heap.size w' a b off len zs :=
  ⟨h.addr, h.length, h.small, h.below.imp id (fun g => Nat.lt_of_lt_of_le g ht.size), fun i hi => by
    rw [World.cell?_of_block (w := w) (ht.block b (by have := h.below; omega) (by rcases hn with e | e; omega; exact e))]
    exact h.cell i hi, h.fits⟩
theorem IsM.others {w w' : World} {m i o : Nat} {L L' : List (Int × Int)} (h : IsM w m i L) (hio : i ≠ o) (hP : PutW m o L' w w') : IsM w' m i L := by
  obtain ⟨p, t, cs, h1, h2, h3, h4, h5⟩ := h
  obtain ⟨v, hv⟩ := hP.rest cs h1
  refine ⟨p, t, _, hv, ?_, (h3.spared hP.turned (fun c e o' ho => by subst e; rw [h1] at ho; cases ho; exact notNode_map _ _)), h4, h5⟩
  rw [Array.getElem?_setIfInBounds_ne (Ne.symm hio)]
  exact h2
theorem IsG0.put {w w' : World} {g nb i : Nat} {ws : List Int} {R : Nat → List (Int × Int)} {L : List (Int × Int)} (h : IsG0 w g nb ws R) (hi : i < ws.length) (hP : PutW nb i L w w') : IsG0 w' g nb ws (fun c => if c = i then L else R c) := by
  have hne := h.apart
  obtain ⟨wa, wc, wb, h1, h2⟩ := h.box
  obtain ⟨cs, h3⟩ := h.maps
  obtain ⟨v, hv⟩ := hP.rest cs h3
  refine ⟨⟨wa, wc, wb, hP.turned.old h1 hne, h2.turned hP.turned ?_⟩, ⟨_, hv⟩, fun c hc => ?_⟩
  · by_cases h0 : ws.length = 0
    · exact .inl h0
    · refine .inr fun e => ?_
      subst e
      have c1 := h2.cell 0 (by omega)
      obtain ⟨p, t, cs', h4, h5, _⟩ := h.map 0 (by omega)
      have c2 : w.cell? ⟨wb, 0 + 0, none⟩ = some (.pointer p) := heap_cell h4 h5
      rw [c1] at c2
      cases c2
  · by_cases e : c = i
    · subst e
      simp only [if_pos]
      exact hP.map
    · simp only [if_neg e]
      exact (h.map c hc).others e hP

/-- What Join tells. -/
def joinE (n : Nat) (F : Nat → Nat → Int) (a b x : Int) : Int := if hasN n a = false ∨ hasN n b = false ∨ a = b then 1 else if may x = false ∨ may (btw n F a b + x) = false then 23 else 0
/-- The table behind it. -/
def joinF (n : Nat) (F : Nat → Nat → Int) (a b x : Int) : Nat → Nat → Int := if joinE n F a b x = 0 then joinT F a.toNat b.toNat (btw n F a b + x) else F
def JoinPost (g nb : Nat) (ws : List Int) (F : Nat → Nat → Int) (a b x : Int) (w : World) (e : Ending) (w' : World) : Prop :=
  e = .returned (.int .i64 (joinE ws.length F a b x)) ∧ IsG w' g nb ws (joinF ws.length F a b x) ∧ Turned (fun c => c = nb) w w'
theorem btw_nat (n : Nat) (F : Nat → Nat → Int) {a b : Nat} (ha : a < n) (hb : b < n) : btw n F a b = F a b := by
  unfold btw
  rw [if_pos ⟨by omega, by omega, by omega, by omega⟩]; simp
theorem btw_bd {n : Nat} {F : Nat → Nat → Int} (h : Tab n F) (a b : Int) : 0 ≤ btw n F a b ∧ btw n F a b ≤ 1099511627776 := by
  unfold btw
  split
  · exact ⟨h.lo _ _, h.hi _ _⟩
  · omega
theorem join_no {w : World} {g nb : Nat} {ws : List Int} {F : Nat → Nat → Int} {a b x v : Int} (h : IsG w g nb ws F) {w' : World} (hv : joinE ws.length F a b x = v) (h0 : v ≠ 0) (ht : Turned (fun _ => False) w w') : JoinPost g nb ws F a b x w (.returned (.int .i64 v)) w' :=
  ⟨by rw [hv], by unfold joinF; rw [if_neg (by rw [hv]; exact h0)]; exact h.calm ht, ht.weak (fun _ _ e => e.elim)⟩
set_option maxHeartbeats 1000000 in
theorem join_any {w : World} {g nb : Nat} {ws : List Int} {F : Nat → Nat → Int} (h : IsG w g nb ws F) (a b x : Int) :
    Calls Tryz.prog 50 #[.pointer (some ⟨g, 0, none⟩), .int .i64 a, .int .i64 b, .int .i64 x] w (JoinPost g nb ws F a b x w) := by
  have HA := Lib.hid (has_any h a)
  have HB := Lib.hid (has_any h b)
  have HG := Lib.hid h
  cases ha : hasN ws.length a with
  | false =>
    rw [ha] at HA
    have HE := Lib.hid (show joinE ws.length F a b x = 1 by unfold joinE; rw [if_pos (.inl ha)])
    clear h ha HB
    go_enter Tryz.func50, Tryz.ntmps50
    go_wp2_with (go_at_call 54; refine HA.out.mono ?_; rintro e w' ⟨rfl, rfl⟩)
    go_ret
    exact join_no HG.out HE.out (by decide) (Turned.refl _ _)
  | true =>
    rw [ha] at HA
    cases hb : hasN ws.length b with
    | false =>
      rw [hb] at HB
      have HE := Lib.hid (show joinE ws.length F a b x = 1 by unfold joinE; rw [if_pos (.inr (.inl hb))])
      clear h ha hb
      go_enter Tryz.func50, Tryz.ntmps50
      go_wp2_with fail
      refine HA.out.mono ?_
      rintro e _ ⟨rfl, rfl⟩
      go_wp2_with fail
      refine HB.out.mono ?_
      rintro e _ ⟨rfl, rfl⟩
      go_wp2
      go_ret
      exact join_no HG.out HE.out (by decide) (Turned.refl _ _)
    | true =>
      rw [hb] at HB
      by_cases hab : a = b
      · have HE := Lib.hid (show joinE ws.length F a b x = 1 by unfold joinE; rw [if_pos (.inr (.inr hab))])
        have hd : (a == b) = true := by simpa using hab
        clear h ha hb hab
        go_enter Tryz.func50, Tryz.ntmps50
        go_wp2_with fail
        refine HA.out.mono ?_
        rintro e _ ⟨rfl, rfl⟩
        go_wp2_with fail
        refine HB.out.mono ?_
        rintro e _ ⟨rfl, rfl⟩
        go_wp2
        go_ret
        exact join_no HG.out HE.out (by decide) (Turned.refl _ _)
      · have hd : (a == b) = false := by simpa using hab
        have hcond : ¬ (hasN ws.length a = false ∨ hasN ws.length b = false ∨ a = b) := by rw [ha, hb]; simp [hab]
        have HR := Lib.hid (right_any x)
        cases hx : may x with
        | false =>
          rw [hx] at HR
          have HE := Lib.hid (show joinE ws.length F a b x = 23 by unfold joinE; rw [if_neg hcond, if_pos (.inl hx)])
          clear h ha hb hab hx hcond
          go_enter Tryz.func50, Tryz.ntmps50
          go_wp2_with fail
          refine HA.out.mono ?_
          rintro e _ ⟨rfl, rfl⟩
          go_wp2_with fail
          refine HB.out.mono ?_
          rintro e _ ⟨rfl, rfl⟩
          go_wp2_with fail
          refine (HR.out _).mono ?_
          rintro e _ ⟨rfl, rfl⟩
          go_wp2
          go_ret
          exact join_no HG.out HE.out (by decide) (Turned.refl _ _)
        | true =>
          rw [hx] at HR
          have hxb := may_t hx
          have hbt := btw_bd h.tab a b
          have HBt := Lib.hid (between_any h a b)
          obtain ⟨v, hv⟩ : ∃ v, btw ws.length F a b + x = v := ⟨_, rfl⟩
          have hvb : 0 ≤ v ∧ v ≤ 2199023255552 := by omega
          obtain ⟨y, hy⟩ : ∃ y, btw ws.length F a b = y := ⟨_, rfl⟩
          have hyv : y + x = v := by rw [← hy]; exact hv
          rw [hy] at HBt
          have hwr : IntKind.i64.wrap (y + x) = v := by rw [hyv]; exact IntWalk.i64_in _ (by omega)
          have HR2 := Lib.hid (right_any v)
          cases hm : may v with
          | false =>
            rw [hm] at HR2
            have HE := Lib.hid (show joinE ws.length F a b x = 23 by unfold joinE; rw [if_neg hcond, if_pos (.inr (by rw [hv]; exact hm))])
            clear h ha hb hab hx hcond hv hy hm hbt
            go_enter Tryz.func50, Tryz.ntmps50
            go_wp2_with fail
            refine HA.out.mono ?_
            rintro e _ ⟨rfl, rfl⟩
            go_wp2_with fail
            refine HB.out.mono ?_
            rintro e _ ⟨rfl, rfl⟩
            go_wp2_with fail
            refine (HR.out _).mono ?_
            rintro e _ ⟨rfl, rfl⟩
            go_wp2_with fail
            refine HBt.out.mono ?_
            rintro e w1 ⟨rfl, t1⟩
            have T1 := Lib.hid t1
            clear t1
            go_wp2_with fail
            refine (HR2.out _).mono ?_
            rintro e _ ⟨rfl, rfl⟩
            go_wp2
            go_ret
            exact join_no HG.out HE.out (by decide) T1.out
          | true =>
            rw [hm] at HR2
            obtain ⟨i, rfl, hi⟩ := hasN_t ha
            obtain ⟨j, rfl, hj⟩ := hasN_t hb
            have hij : i ≠ j := fun e => hab (by rw [e])
            have hvm := may_t hm
            have HE := Lib.hid (show joinE ws.length F i j x = 0 by unfold joinE; rw [if_neg hcond, if_neg (by rw [hx, hv, hm]; simp)])
            have HFj := Lib.hid (show joinF ws.length F i j x = joinT F i j v by unfold joinF; rw [if_pos HE.out, hv]; simp)
            have hsm := h.small
            have HT := Lib.hid (h.tab.join hi hj hij (by omega) hvm.2)
            clear h ha hb hab hx hcond hv hy hm hbt
            have hni : i < ws.length := hi
            have hnj : j < ws.length := hj
            have HI := Lib.hid hi
            have HJ := Lib.hid hj
            have HW := Lib.hid HG.out.wts
            have HIJ := Lib.hid hij
            obtain ⟨wa, wc, wb, h1, h2⟩ := HG.out.box
            have c1 : w.cell? ⟨g, 1, none⟩ = some (.slice (some ⟨nb, 0, none⟩) ws.length ws.length) := heap_cell h1 rfl
            have H1 := Lib.hid h1
            clear h1 h2
            go_enter Tryz.func50, Tryz.ntmps50
            go_wp2_with fail
            refine HA.out.mono ?_
            rintro e _ ⟨rfl, rfl⟩
            go_wp2_with fail
            refine HB.out.mono ?_
            rintro e _ ⟨rfl, rfl⟩
            go_wp2_with fail
            refine (HR.out _).mono ?_
            rintro e _ ⟨rfl, rfl⟩
            go_wp2_with fail
            refine HBt.out.mono ?_
            rintro e w1 ⟨rfl, t1⟩
            have G1 := Lib.hid (HG.out.g0.calm t1)
            have T1 := Lib.hid t1
            have d1 : w1.cell? ⟨g, 1, none⟩ = some (.slice (some ⟨nb, 0, none⟩) ws.length ws.length) := heap_cell (t1.old H1.out id) rfl
            clear t1 c1
            have HP1 := Lib.hid (mput_any (j : Int) v (G1.out.map i HI.out) (Nat.le_trans (rowOf_length _ _) (by omega)))
            go_wp2_with fail
            refine (HR2.out _).mono ?_
            rintro e _ ⟨rfl, rfl⟩
            go_wp2_with fail
            refine HP1.out.mono ?_
            rintro e w2 ⟨rfl, hp1⟩
            have G2 := Lib.hid (G1.out.put HI.out hp1)
            have T2 := Lib.hid ((T1.out.weak (R' := fun c => c = nb) (fun _ _ e => e.elim)).trans hp1.turned)
            have d2 : w2.cell? ⟨g, 1, none⟩ = some (.slice (some ⟨nb, 0, none⟩) ws.length ws.length) := by
              obtain ⟨wa2, wc2, wb2, k1, k2⟩ := G2.out.box
              exact heap_cell k1 rfl
            have hm2 := G2.out.map j HJ.out
            simp only [if_neg (Ne.symm HIJ.out)] at hm2
            have HP2 := Lib.hid (mput_any (i : Int) v hm2 (Nat.le_trans (rowOf_length _ _) (by omega)))
            clear hp1 hm2 d1
            go_wp2_with fail
            refine HP2.out.mono ?_
            rintro e w3 ⟨rfl, hp2⟩
            have G3 := Lib.hid (G2.out.put HJ.out hp2)
            have T3 := Lib.hid (T2.out.trans hp2.turned)
            clear hp2 d2
            go_wp2
            go_ret
            refine ⟨ret1 HE.out.symm, ?_, T3.out⟩
            rw [HFj.out]
            refine IsG.of0 G3.out HT.out hsm HW.out fun c hc => ?_
            rw [join_row _ _ _ _ HIJ.out]
            by_cases e1 : c = j
            · subst e1
              rw [if_pos rfl, if_neg (Ne.symm HIJ.out), if_pos rfl, ins_rowOf _ _ _ _ HI.out (by omega)]
            · by_cases e2 : c = i
              · subst e2
                rw [if_neg e1, if_pos rfl, if_pos rfl, ins_rowOf _ _ _ _ HJ.out (by omega)]
              · rw [if_neg e1, if_neg e2, if_neg e2, if_neg e1]
end Go.Proofs.YtjcmeacgfflfmaaGreat
