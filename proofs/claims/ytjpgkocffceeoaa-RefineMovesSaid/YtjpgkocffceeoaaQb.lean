/- Contract: the reference's Join. -/
import Derived.Test.YtjpgkocffceeoaaQa
set_option linter.unusedVariables false
set_option linter.unusedSectionVars false
namespace Go.Proofs.Ytjpgkocffceeoaa
open Go.RowKit Rk

section
variable {W W' : World} {X : XD} {lo : Nat} {ws : List Int} {F : Nat → Nat → Int}
/-- The rows' blocks. -/
def RowsR (X : XD) (n : Nat) (c : Nat) : Prop := ∃ a, a < n ∧ c = X.rows a
theorem joinT_row0 (F : Nat → Nat → Int) {i j c : Nat} (v : Int) (h1 : c ≠ i) (h2 : c ≠ j) : joinT F i j v c = F c := by
  funext y; unfold joinT; rw [if_neg (by omega)]
theorem joinT_rowi (F : Nat → Nat → Int) {i j : Nat} (v : Int) (h : i ≠ j) : joinT F i j v i = upd (F i) j v := by
  funext y; unfold joinT upd; by_cases e : y = j
  · rw [if_pos (.inl ⟨rfl, e⟩), if_pos e]
  · rw [if_neg (by omega), if_neg e]
theorem joinT_rowj (F : Nat → Nat → Int) {i j : Nat} (v : Int) (h : i ≠ j) : joinT F i j v j = upd (F j) i v := by
  funext y; unfold joinT upd; by_cases e : y = i
  · rw [if_pos (.inr ⟨rfl, e⟩), if_pos e]
  · rw [if_neg (by omega), if_neg e]
/-- The same, of whatever table. -/
structure IsX0 (W : World) (X : XD) (lo : Nat) (ws : List Int) (F : Nat → Nat → Int) : Prop where
  ints : IntsAt .i64 W.heap.size W X.wa X.wb 0 ws.length ws
  wlo : ws.length = 0 ∨ lo ≤ X.wb
  rbl : ws.length = 0 ∨ (X.ra = some ⟨X.rb, 0, none⟩ ∧ lo ≤ X.rb ∧ ∃ cs, W.heap[X.rb]? = some (.cells cs 22 (0, 0)) ∧ ∀ a, a < ws.length → cs[a]? = some (.slice (some ⟨X.rows a, 0, none⟩) ws.length ws.length))
  row : ∀ a, a < ws.length → lo ≤ X.rows a ∧ X.rows a ≠ X.wb ∧ W.heap[X.rows a]? = some (.cells (rowC ws.length (F a)) 2 (0, 0))
  inj : ∀ a b, a < ws.length → b < ws.length → X.rows a = X.rows b → a = b
theorem IsX.x0 (h : IsX W X lo ws F) : IsX0 W X lo ws F := ⟨h.ints, h.wlo, h.rbl, h.row, h.inj⟩
theorem IsX0.full {F' : Nat → Nat → Int} (h : IsX0 W X lo ws F) (ht : Tab ws.length F') (hs : ws.length ≤ 4096) (hF : ∀ a, F a = F' a) : IsX W X lo ws F' := ⟨h.ints, h.wlo, h.rbl, fun a ha => by rw [← hF a]; exact h.row a ha, h.inj, ht, hs⟩
theorem IsX0.below (h : IsX0 W X lo ws F) (hb : Below W.heap.size W W') : IsX0 W' X lo ws F :=
  ⟨(h.ints.kept hb (Nat.le_refl _)).mono hb.size, h.wlo, h.rbl.imp id (fun ⟨h1, h2, cs, h3, h4⟩ => ⟨h1, h2, cs, heap_below h3 hb (heap_lt h3), h4⟩), fun a ha => ⟨(h.row a ha).1, (h.row a ha).2.1, heap_below (h.row a ha).2.2 hb (heap_lt (h.row a ha).2.2)⟩, h.inj⟩
theorem IsX0.at_ (h : IsX0 W X lo ws F) {a : Nat} (ha : a < ws.length) : X.ra = some ⟨X.rb, 0, none⟩ ∧ W.cell? ⟨X.rb, a, none⟩ = some (.slice (some ⟨X.rows a, 0, none⟩) ws.length ws.length) ∧ ∀ b, b < ws.length → W.cell? ⟨X.rows a, b, none⟩ = some (.int .i64 (F a b)) := by
  obtain ⟨h1, _, cs, h3, h4⟩ := h.rbl.resolve_left (by omega)
  exact ⟨h1, heap_cell h3 (h4 a ha), fun b hb => heap_cell (h.row a ha).2.2 (rowC_at _ hb)⟩
theorem IsX0.stored (h : IsX0 W X lo ws F) {i j : Nat} (hi : i < ws.length) (hj : j < ws.length) (v : Int) :
    IsX0 (W.setCell ⟨X.rows i, j, none⟩ (.int .i64 v)) X lo ws (fun c => if c = i then upd (F i) j v else F c) ∧ Turned (RowsR X ws.length) W (W.setCell ⟨X.rows i, j, none⟩ (.int .i64 v)) := by
  have tt : Turned (RowsR X ws.length) W (W.setCell ⟨X.rows i, j, none⟩ (.int .i64 v)) := (Turned.set _ _ _ _).weak (fun c _ e => ⟨i, hi, e⟩)
  have k1 : ¬ RowsR X ws.length X.wb := by
    rintro ⟨a, ha, e⟩
    exact (h.row a ha).2.1 e.symm
  have k2 : ∀ cs, W.heap[X.rb]? = some (.cells cs 22 (0, 0)) → ¬ RowsR X ws.length X.rb := by
    rintro cs h3 ⟨a, ha, e⟩
    have := (h.row a ha).2.2
    rw [← e, h3] at this; cases this
  refine ⟨⟨h.ints.turned tt (.inr k1), h.wlo, h.rbl.imp id (fun ⟨h1, h2, cs, h3, h4⟩ => ⟨h1, h2, cs, tt.old h3 (k2 cs h3), h4⟩), fun a ha => ⟨(h.row a ha).1, (h.row a ha).2.1, ?_⟩, h.inj⟩, tt⟩
  by_cases e1 : a = i
  · subst e1
    rw [if_pos rfl, ← rowC_set _ hj]
    exact heap_set (h.row a hi).2.2 j _
  · rw [if_neg e1]
    exact heap_other (h.row a ha).2.2 (fun e => e1 (h.inj a i ha hi e)) _ _
def XJoinPost (X : XD) (lo : Nat) (ws : List Int) (F : Nat → Nat → Int) (a b x : Int) (w : World) (e : Ending) (w' : World) : Prop :=
  e = .returned (.int .i64 (joinE ws.length F a b x)) ∧ IsX w' X lo ws (joinF ws.length F a b x) ∧ Turned (RowsR X ws.length) w w'
theorem xjoin_no (h : IsX W X lo ws F) {a b x v : Int} {w' : World} (hv : joinE ws.length F a b x = v) (h0 : v ≠ 0) (hb : Below W.heap.size W w') : XJoinPost X lo ws F a b x W (.returned (.int .i64 v)) w' :=
  ⟨by rw [hv], by rw [joinF_no hv h0]; exact h.below hb, (turned_of_below hb).weak (fun _ _ e => e.elim)⟩
set_option maxRecDepth 100000 in
set_option maxHeartbeats 4000000 in
theorem xjoin_any (h : IsX W X lo ws F) (a b x : Int) : Calls Try.prog 35 #[X.val ws.length, .int .i64 a, .int .i64 b, .int .i64 x] W (XJoinPost X lo ws F a b x W) := by
  have hal : Below W.heap.size W (W.alloc (.cells #[.slice X.wa ws.length X.wc, .slice X.ra ws.length X.rc] 29)) := (Below.refl _ _).alloc (Nat.le_refl _) _
  have hXd : (W.alloc (.cells #[.slice X.wa ws.length X.wc, .slice X.ra ws.length X.rc] 29)).heap[W.heap.size]? = some (.cells #[.slice X.wa ws.length X.wc, .slice X.ra ws.length X.rc] 29 (0, 0)) := heap_new (w := W) _ rfl
  have HXD := Lib.hid hXd
  have HA := Lib.hid hal
  have HX := Lib.hid h
  have hsm := h.small
  have hT1 := fun (i : Int) (W : World) => xthere_any X ws.length i W
  unfold XD.val at hT1 ⊢
  have HT := Lib.hid hT1
  have HM := Lib.hid (fun (n : Int) (W : World) => xmay_any n W)
  clear h hal hXd hT1
  cases ha : hasN ws.length a with
  | false =>
    have HE : Hid (joinE ws.length F a b x = 1) := Lib.hid (by unfold joinE; rw [if_pos (.inl ha)])
    have HH := Lib.hid ha
    clear ha
    go_enter Try.func35, Try.ntmps35
    go_wp2_with fail
    refine (HT.out a _).mono ?_
    rintro e w2 ⟨rfl, hb⟩
    have HB2 := Lib.hid (HA.out.trans (hb.mono HA.out.size))
    rw [HH.out]
    clear hb
    go_wp2
    go_ret
    exact xjoin_no HX.out HE.out (by decide) HB2.out
  | true =>
    have HH := Lib.hid ha
    by_cases hc : hasN ws.length b = false ∨ a = b
    · have HE : Hid (joinE ws.length F a b x = 1) := Lib.hid (by unfold joinE; rw [if_pos (.inr hc)])
      clear ha
      go_enter Try.func35, Try.ntmps35
      go_wp2_with fail
      refine (HT.out a _).mono ?_
      rintro e w2 ⟨rfl, hb⟩
      have HB2 := Lib.hid (HA.out.trans (hb.mono HA.out.size))
      have HXD2 := Lib.hid (heap_below HXD.out hb (heap_lt HXD.out))
      have z2 := HB2.out.size
      have d0 : w2.cell? ⟨W.heap.size, 0, none⟩ = some (.slice X.wa ws.length X.wc) := heap_cell HXD2.out rfl
      have d1 : w2.cell? ⟨W.heap.size, 1, none⟩ = some (.slice X.ra ws.length X.rc) := heap_cell HXD2.out rfl
      rw [HH.out]
      clear hb
      go_wp2_with fail
      refine (HT.out b _).mono ?_
      rintro e w3 ⟨rfl, hb⟩
      have HB3 := Lib.hid (HB2.out.trans (hb.mono z2))
      clear hb d0 d1
      cases hh : hasN ws.length b with
      | false =>
        clear hc hh
        go_wp2
        go_ret
        exact xjoin_no HX.out HE.out (by decide) HB3.out
      | true =>
        have hab : (a == b) = true := by
          rcases hc with e | e
          · rw [hh] at e; cases e
          · simpa using e
        clear hc hh
        go_wp2
        go_ret
        exact xjoin_no HX.out HE.out (by decide) HB3.out
    · have hb : hasN ws.length b = true := by cases e : hasN ws.length b; exact absurd (.inl e) hc; rfl
      have hab : (a == b) = false := by simpa using fun e => hc (.inr e)
      have HH2 := Lib.hid hb
      obtain ⟨i, rfl, hi⟩ := hasN_t ha
      obtain ⟨j, rfl, hj⟩ := hasN_t hb
      have hij : i ≠ j := fun e => hc (.inr (by rw [e]))
      have HI := Lib.hid hi
      have HJ := Lib.hid hj
      have HIJ := Lib.hid hij
      have hEJ := joinE_two F x hi hj hij
      have HEJ := Lib.hid hEJ
      have HRA := Lib.hid (HX.out.at_ hi).1
      obtain ⟨y, hy⟩ : ∃ y, F i j = y := ⟨_, rfl⟩
      have hyb : 0 ≤ y ∧ y ≤ 1099511627776 := by rw [← hy]; exact ⟨HX.out.tab.lo i j, HX.out.tab.hi i j⟩
      have HY := Lib.hid hy
      have HYJ : Hid (F j i = y) := Lib.hid (by rw [← hy]; exact HX.out.tab.sym j i)
      clear ha hb hc hij hEJ hy
      go_enter Try.func35, Try.ntmps35
      go_wp2_with fail
      refine (HT.out i _).mono ?_
      rintro e w2 ⟨rfl, hb⟩
      have HB2 := Lib.hid (HA.out.trans (hb.mono HA.out.size))
      have HXD2 := Lib.hid (heap_below HXD.out hb (heap_lt HXD.out))
      have z2 := HB2.out.size
      have d0 : w2.cell? ⟨W.heap.size, 0, none⟩ = some (.slice X.wa ws.length X.wc) := heap_cell HXD2.out rfl
      have d1 : w2.cell? ⟨W.heap.size, 1, none⟩ = some (.slice X.ra ws.length X.rc) := heap_cell HXD2.out rfl
      rw [HH.out]
      clear hb
      go_wp2_with fail
      refine (HT.out j _).mono ?_
      rintro e w3 ⟨rfl, hb⟩
      have HB3 := Lib.hid (HB2.out.trans (hb.mono z2))
      have HXD3 := Lib.hid (heap_below HXD2.out hb (heap_lt HXD2.out))
      have HX3 := Lib.hid (HX.out.below HB3.out)
      have HX3D := Lib.hid (show W.heap.size < w3.heap.size from heap_lt HXD3.out)
      rw [HH2.out]
      clear hb d0 d1
      cases hm : may x with
      | false =>
        have HE : Hid (joinE ws.length F i j x = 23) := Lib.hid (by rw [HEJ.out, if_neg (by rw [hm]; simp)])
        have HMX := Lib.hid hm
        clear hm
        go_wp2_with fail
        refine (HM.out x _).mono ?_
        rintro e _ ⟨rfl, rfl⟩
        rw [HMX.out]
        go_wp2
        go_ret
        exact xjoin_no HX.out HE.out (by decide) HB3.out
      | true =>
        have hxb := may_t hm
        have HMX := Lib.hid hm
        obtain ⟨v, hv⟩ : ∃ v, y + x = v := ⟨_, rfl⟩
        have hvb : 0 ≤ v ∧ v ≤ 2199023255552 := by omega
        have hw1 : IntKind.i64.wrap (y + x) = v := by rw [hv]; exact IntWalk.i64_in _ ⟨by omega, by omega⟩
        have hw2 : wrap64 (y + x) = v := by rw [hv]; exact IntWalk.wrap64_in _ ⟨by omega, by omega⟩
        obtain ⟨_, x1, x2⟩ := HX3.out.at_ HI.out
        have x3 := x2 j HJ.out
        rw [HY.out] at x3
        obtain ⟨_, y1, y2⟩ := HX3.out.at_ HJ.out
        have y3 := y2 i HI.out
        rw [HYJ.out] at y3
        have hrl := (HX3.out.row i HI.out)
        have hrl' := (HX3.out.row j HJ.out)
        have f1 := heap_frozen hrl.2.2 j
        have HR1 := Lib.hid hrl
        have HR2 := Lib.hid hrl'
        have d0 : w3.cell? ⟨W.heap.size, 0, none⟩ = some (.slice X.wa ws.length X.wc) := heap_cell HXD3.out rfl
        have d1 : w3.cell? ⟨W.heap.size, 1, none⟩ = some (.slice (some ⟨X.rb, 0, none⟩) ws.length X.rc) := by rw [← HRA.out]; exact heap_cell HXD3.out rfl
        clear hm x2 y2 hrl hrl'
        go_wp2_with fail
        refine (HM.out x _).mono ?_
        rintro e _ ⟨rfl, rfl⟩
        rw [HMX.out]
        go_wp2_with fail
        refine (HM.out v _).mono ?_
        rintro e _ ⟨rfl, rfl⟩
        cases hmv : may v with
        | false =>
          have HE : Hid (joinE ws.length F i j x = 23) := Lib.hid (by rw [HEJ.out, if_neg (by rw [HY.out, hv, hmv]; simp)])
          clear hmv hv
          go_wp2
          go_ret
          exact xjoin_no HX.out HE.out (by decide) HB3.out
        | true =>
          have hvm := may_t hmv
          have HE : Hid (joinE ws.length F i j x = 0) := Lib.hid (by rw [HEJ.out, if_pos ⟨HMX.out, by rw [HY.out, hv]; exact hmv⟩])
          have HF : Hid (joinF ws.length F i j x = joinT F i j v) := Lib.hid (by rw [joinF_yes HE.out HI.out HJ.out, HY.out, hv])
          clear hmv hv
          have hll := HX3D.out
          go_wp2
          go_still_tail 17, (by kernel_rfl)
          change wpList _ _ _ _ _ w3.drew
          have hb4 : Below w3.heap.size w3 w3.drew := (Below.refl _ _).drew
          have HX4 := Lib.hid (HX3.out.x0.below hb4)
          have HB4 := Lib.hid (HB3.out.trans (hb4.mono HB3.out.size))
          have HXD4 := Lib.hid (heap_below HXD3.out hb4 (heap_lt HXD3.out))
          revert HX4 HB4 HXD4
          clear x1 x3 y1 y3 f1 d0 d1 hb4
          generalize w3.drew = w4
          intro HX4 HB4 HXD4
          obtain ⟨hs4, ht4⟩ := HX4.out.stored HI.out HJ.out v
          have hcell := (HX4.out.at_ HI.out).2.2 j HJ.out
          have hfr := heap_frozen (HX4.out.row i HI.out).2.2 j
          have hne4 : W.heap.size ≠ X.rows i := fun e => by
            have h9 := (HX4.out.row i HI.out).2.2
            rw [← e, HXD4.out] at h9; injection h9 with h9; injection h9 with h91 h92; exact absurd h92 (by decide)
          have HXD5 := Lib.hid (heap_other HXD4.out hne4 j (.int .i64 v))
          have HS5 := Lib.hid hs4
          have HT5 := Lib.hid ht4
          obtain ⟨w5, hw5⟩ : ∃ w5, w4.setCell ⟨X.rows i, j, none⟩ (.int .i64 v) = w5 := ⟨_, rfl⟩
          rw [hw5] at HXD5 HS5 HT5
          clear hs4 ht4 hne4
          have d0 : w5.cell? ⟨W.heap.size, 0, none⟩ = some (.slice X.wa ws.length X.wc) := heap_cell HXD5.out rfl
          have d1 : w5.cell? ⟨W.heap.size, 1, none⟩ = some (.slice (some ⟨X.rb, 0, none⟩) ws.length X.rc) := by rw [← HRA.out]; exact heap_cell HXD5.out rfl
          obtain ⟨_, y1, y2⟩ := HS5.out.at_ HJ.out
          have y3 := y2 i HI.out
          rw [if_neg (Ne.symm HIJ.out), HYJ.out] at y3
          clear y2
          go_wp2
          clear hcell hfr
          go_still_tail 17, (by kernel_rfl)
          change wpList _ _ _ _ _ w5.drew
          have hb6 : Below w5.heap.size w5 w5.drew := (Below.refl _ _).drew
          have HX6 := Lib.hid (HS5.out.below hb6)
          have HT6 := Lib.hid ((Turned.trans ((turned_of_below HB4.out).weak (R' := RowsR X ws.length) (fun _ _ e => e.elim)) HT5.out).trans ((turned_of_below hb6).weak (fun _ _ e => e.elim)))
          revert HX6 HT6
          clear y1 y3 d0 d1 hb6 hw5
          generalize w5.drew = w6
          intro HX6 HT6
          obtain ⟨hs6, ht6⟩ := HX6.out.stored HJ.out HI.out v
          have hcell := (HX6.out.at_ HJ.out).2.2 i HI.out
          have hfr := heap_frozen (HX6.out.row j HJ.out).2.2 i
          have HS7 := Lib.hid hs6
          have HT7 := Lib.hid (HT6.out.trans ht6)
          clear hs6 ht6
          go_wp2
          go_ret
          refine ⟨ret1 HE.out.symm, ?_, HT7.out⟩
          rw [HF.out]
          refine HS7.out.full (HX.out.tab.join HI.out HJ.out HIJ.out (by omega) hvm.2) hsm fun c => ?_
          by_cases e1 : c = j
          · subst e1
            rw [if_pos rfl, if_neg (Ne.symm HIJ.out), joinT_rowj F v HIJ.out]
          · by_cases e2 : c = i
            · subst e2
              rw [if_neg e1, if_pos rfl, joinT_rowi F v HIJ.out]
            · rw [if_neg e1, if_neg e2, joinT_row0 F v e2 e1]
end
end Go.Proofs.Ytjpgkocffceeoaa
