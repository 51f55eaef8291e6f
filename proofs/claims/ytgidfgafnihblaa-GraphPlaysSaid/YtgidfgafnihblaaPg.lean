/- The walk of GraphPlays. -/
import Derived.Test.YtgidfgafnihblaaPf
import Derived.Test.YtgidfgafnihblaaQf
set_option linter.unusedVariables false
set_option linter.unusedSectionVars false
namespace Go.Proofs.Ytgidfgafnihblaa
open Go.RowKit Rk

set_option maxRecDepth 100000 in
set_option maxHeartbeats 16000000 in
theorem walk_GraphPlays (a0 : Option Addr) (len0 cap0 : Nat) (z0 : List Int) (a1 : Option Addr) (len1 cap1 : Nat) (z1 : List RopV) (a2 : Int) (w : World) (w0 : IsRow .i64 w a0 len0 cap0 z0) (w1 : IsRops w a1 len1 cap1 z1) (w2 : (Lit.int .i64 a2).wf = true) :
    Calls Try.prog 3 #[.slice a0 len0 cap0, .slice a1 len1 cap1, .int .i64 a2] w fun e w' => e = .returned (.bool true) ∧ Below w.heap.size w w' := by
  obtain ⟨b, off, zs, hi, h0⟩ := w0.zs
  obtain ⟨_, b1, off1, hi1⟩ := w1
  have hlz := hi.length
  have hsm := hi.small
  have hsm1 := hi1.small
  unfold maxLen at hsm hsm1
  have HI := Lib.hid hi
  have HN := Lib.hid h0
  have HL := Lib.hid hlz
  have H1 := Lib.hid hi1
  clear w0 hi h0 hlz hi1 w2
  by_cases hout : (30 < len0 ∧ len0 ≤ 4096) ∨ 5000 < len0 ∨ 60 < len1
  · obtain ⟨x1, hx1⟩ : ∃ x, decide (30 < (len0 : Int)) = x := ⟨_, rfl⟩
    obtain ⟨x2, hx2⟩ : ∃ x, decide ((len0 : Int) ≤ 4096) = x := ⟨_, rfl⟩
    obtain ⟨x3, hx3⟩ : ∃ x, decide (5000 < (len0 : Int)) = x := ⟨_, rfl⟩
    obtain ⟨x4, hx4⟩ : ∃ x, decide (60 < (len1 : Int)) = x := ⟨_, rfl⟩
    have hor : ((x1 && x2) || x3 || x4) = true := by
      rw [← hx1, ← hx2, ← hx3, ← hx4]; simp; omega
    clear hout
    cases x1 <;> cases x2 <;> cases x3 <;> cases x4 <;> first
      | (simp at hor; done)
      | (go_enter Try.func3, Try.ntmps3
         go_wp2_with fail
         refine (alive_any _).mono ?_
         rintro e w2 ⟨rfl, hB2⟩
         have HB2 := Lib.hid hB2
         clear hB2
         go_wp2
         go_ret
         exact ⟨rfl, HB2.out⟩)
  have hl60 : len1 ≤ 60 := by omega
  have d4 : decide (60 < (len1 : Int)) = false := by simp; omega
  have d3 : decide (5000 < (len0 : Int)) = false := by simp; omega
  by_cases hbig : 4096 < len0
  · have d1 : decide (30 < (len0 : Int)) = true := by simp; omega
    have d2 : decide ((len0 : Int) ≤ 4096) = false := by simp; omega
    have HE : Hid (newE zs = 3) := Lib.hid (by unfold newE; rw [if_pos (by rw [HL.out]; exact hbig)])
    go_enter Try.func3, Try.ntmps3
    go_wp2_with fail
    refine (alive_any _).mono ?_
    rintro e w2 ⟨rfl, hB2⟩
    have HB2 := Lib.hid hB2
    have HNw := Lib.hid (new_any (cap := cap0) ((HI.out.kept hB2 (Nat.le_refl _)).mono hB2.size) HN.out)
    have z2 := hB2.size
    clear hB2
    go_wp2_with fail
    refine HNw.out.mono ?_
    rintro e w3 ⟨hB, hc⟩
    have HB3 := Lib.hid (HB2.out.trans (hB.mono z2))
    have z3 := HB3.out.size
    have HNx := Lib.hid (newX_any (cap := cap0) ((HI.out.kept HB3.out (Nat.le_refl _)).mono z3))
    clear hB HNw
    rcases hc with ⟨h1, rfl⟩ | ⟨h1, _⟩
    rotate_left
    · rw [HE.out] at h1; cases h1
    rw [HE.out]
    clear h1
    go_wp2_with fail
    refine HNx.out.mono ?_
    rintro e w4 ⟨hB, hc⟩
    have HB4 := Lib.hid (HB3.out.trans (hB.mono z3))
    clear hB HNx
    rcases hc with ⟨h1, rfl⟩ | ⟨h1, _⟩
    rotate_left
    · rw [HE.out] at h1; cases h1
    rw [HE.out]
    clear h1
    have HB5 := Lib.hid (HB4.out.alloc HB4.out.size (.cells #[.slice none 0 0, .slice none 0 0] 31))
    go_wp2
    go_ret
    exact ⟨rfl, HB5.out⟩
  have hl30 : len0 ≤ 30 := by omega
  have d1 : decide (30 < (len0 : Int)) = false := by simp; omega
  clear hout hbig hsm hsm1
  go_enter Try.func3, Try.ntmps3
  go_wp2_with fail
  refine (alive_any _).mono ?_
  rintro e w2 ⟨rfl, hB2⟩
  have HB2 := Lib.hid hB2
  have HNw := Lib.hid (new_any (cap := cap0) ((HI.out.kept hB2 (Nat.le_refl _)).mono hB2.size) HN.out)
  have z2 := hB2.size
  clear hB2
  go_wp2_with fail
  refine HNw.out.mono ?_
  rintro e w3 ⟨hB, hc⟩
  have HB3 := Lib.hid (HB2.out.trans (hB.mono z2))
  have z3 := HB3.out.size
  have HNx := Lib.hid (newX_any (cap := cap0) ((HI.out.kept HB3.out (Nat.le_refl _)).mono z3))
  clear hB HNw
  rcases hc with ⟨h1, rfl⟩ | ⟨hE0, g, nb, rfl, hG, hg, hn⟩
  · have hne : (newE zs == 0) = false := by simpa using h1
    have hne2 : (newE zs != 0) = true := by simp [bne, hne]
    have HNE := Lib.hid h1
    clear h1
    go_wp2_with fail
    refine HNx.out.mono ?_
    rintro e w4 ⟨hB, hc⟩
    have HB4 := Lib.hid (HB3.out.trans (hB.mono z3))
    clear hB HNx
    rcases hc with ⟨h1, rfl⟩ | ⟨h1, _⟩
    rotate_left
    · exact absurd h1 HNE.out
    have HB5 := Lib.hid (HB4.out.alloc HB4.out.size (.cells #[.slice none 0 0, .slice none 0 0] 31))
    generalize newE zs = v at *
    clear h1
    go_wp2
    go_ret
    exact ⟨by simp, HB5.out⟩
  have HE0 := Lib.hid hE0
  have HG3 := Lib.hid hG
  have hgl := hG.lt
  clear hE0 hG
  go_wp2_with fail
  refine HNx.out.mono ?_
  rintro e w4 ⟨hB, hc⟩
  rcases hc with ⟨h1, _⟩ | ⟨_, X, rfl, hX⟩
  · exact absurd HE0.out h1
  have HB4 := Lib.hid (HB3.out.trans (hB.mono z3))
  have HG4 := Lib.hid (HG3.out.below hB)
  have HX4 := Lib.hid hX
  have z4 := HB4.out.size
  have hgw : ∀ wa wc rest ty fr, w4.heap[g]? = some (.cells #[.slice (some wa) zs.length wc, rest] ty fr) → zs.length = 0 ∨ wa.block < w3.heap.size := fun wa wc rest ty fr e => by
    by_cases hz : zs.length = 0
    · exact .inl hz
    obtain ⟨wa', wc', wb', k1, k2⟩ := HG3.out.box
    have k3 := heap_below k1 hB hgl.1
    rw [e] at k3
    cases k3
    have := k2.addr.resolve_left hz
    cases this
    exact .inr (k2.below.resolve_left hz)
  have hbx : (w4.alloc (.cells #[.slice X.wa zs.length X.wc, .slice X.ra zs.length X.rc] 31)).heap[w4.heap.size]? = some (.cells #[.slice X.wa zs.length X.wc, .slice X.ra zs.length X.rc] 31 (0, 0)) := heap_new (w := w4) _ rfl
  have hb5 : Below w4.heap.size w4 (w4.alloc (.cells #[.slice X.wa zs.length X.wc, .slice X.ra zs.length X.rc] 31)) := (Below.refl _ _).alloc (Nat.le_refl _) _
  have hR5 : BothR w g nb w4.heap.size w3.heap.size X zs noTab (w4.alloc (.cells #[.slice X.wa zs.length X.wc, .slice X.ra zs.length X.rc] 31)) :=
    ⟨HG4.out.below hb5, HX4.out.below hb5, fun wa wc rest ty fr e => hgw wa wc rest ty fr (by rw [← hb5.block g HG4.out.lt.1]; exact e), hbx, HB4.out.trans (hb5.mono z4)⟩
  rw [HL.out] at hR5
  have HR5 := Lib.hid hR5
  have hnb : w.heap.size ≤ nb := by omega
  have hlo : w.heap.size ≤ w3.heap.size := z3
  obtain ⟨lo, hlo'⟩ : ∃ lo, w3.heap.size = lo := ⟨_, rfl⟩
  rw [hlo'] at HR5 hlo
  have hnb4 : nb < w4.heap.size := HG4.out.lt.2
  clear hB hX hgw hbx hb5 hR5 HNx HB2 HB3 HG3 HG4 HX4 HB4 hgl hg hn HE0 hlo'
  unfold XD.val
  rw [HL.out]
  go_wp2
  revert HR5
  generalize hbx0 : w4.heap.size = Bx
  generalize w4.alloc (.cells #[.slice X.wa len0 X.wc, .slice X.ra len0 X.rc] 31) = w5
  intro HR5
  go_loopw [67] (fun i wr => ∃ (k : Nat) (F : Nat → Nat → Int), i = .int .i64 k ∧ k ≤ len1 ∧ Hid (BothR w g nb Bx lo X zs F wr)) (fun i _ => len1 - (intOf i).toNat)
  case atStart => exact ⟨0, noTab, rfl, Nat.zero_le _, HR5⟩
  case round =>
    clear HR5
    obtain ⟨k, F, rfl, hk, HR⟩ := hrel
    have zr := HR.out.below.size
    by_cases hlt : k < len1
    · as_aux_lemma =>
      have hI := H1.out.kept HR.out.below (Nat.le_refl _)
      obtain rfl : a1 = some ⟨b1, off1, none⟩ := hI.addr.resolve_left (by omega)
      obtain ⟨o, ho⟩ : ∃ o, z1[k]? = some o := ⟨z1[k]'(by rw [hI.length]; exact hlt), List.getElem?_eq_getElem _⟩
      obtain ⟨c0, c1, c2⟩ := hI.cell k o ho
      obtain ⟨oa, ob, ow⟩ := o
      simp only at c0 c1 c2
      have hal := (Below.refl wr.heap.size wr).alloc (Nat.le_refl _) (.cells #[.int .i64 oa, .int .i64 ob, .int .i64 ow] 35)
      have HRc := Lib.hid (HR.out.on hal)
      have hop : (wr.alloc (.cells #[.int .i64 oa, .int .i64 ob, .int .i64 ow] 35)).heap[wr.heap.size]? = some (.cells #[.int .i64 oa, .int .i64 ob, .int .i64 ow] 35 (0, 0)) := heap_new (w := wr) _ rfl
      have HOP := Lib.hid hop
      have hnl := HR.out.one.lt
      have hrl : ∀ a, a < zs.length → X.rows a < wr.heap.size := fun a ha => heap_lt (HR.out.two.row a ha).2.2
      have HRL := Lib.hid hrl
      clear hI ho hal hop hrl
      go_upto_region 12 with fail
      clear c0 c1 c2
      generalize wr.alloc (.cells #[.int .i64 oa, .int .i64 ob, .int .i64 ow] 35) = wc at *
      generalize hob : wr.heap.size = ob5 at *
      obtain ⟨v1, hv1⟩ : ∃ v1, joinE len0 F oa ob ow = v1 := ⟨_, rfl⟩
      obtain ⟨F1, hF1⟩ : ∃ F1, joinF len0 F oa ob ow = F1 := ⟨_, rfl⟩
      have HJ1 : Hid (∀ W, Turned (fun _ => False) wc W → Calls Try.prog 10 #[.pointer (some ⟨g, 0, none⟩), .int .i64 oa, .int .i64 ob, .int .i64 ow] W (fun e w' => e = .returned (.int .i64 v1) ∧ IsG w' g nb zs F1 ∧ IsX w' X lo zs F ∧ w'.heap[Bx]? = some (.cells #[.slice X.wa zs.length X.wc, .slice X.ra zs.length X.rc] 31 (0, 0)) ∧ (∀ wa wc rest ty fr, w'.heap[g]? = some (.cells #[.slice (some wa) zs.length wc, rest] ty fr) → zs.length = 0 ∨ wa.block < lo) ∧ Below w.heap.size w w' ∧ Turned (fun c => c = nb) W w')) := Lib.hid (fun W hW => by
        have hRW := HRc.out.on (below_of_turned hW)
        refine (join_lit hRW.one HL.out oa ob ow hv1 hF1).mono ?_
        rintro e w' ⟨rfl, h1, h2⟩
        obtain ⟨k1, k2, k3, k4⟩ := hRW.joinG h1 h2 hnb
        exact ⟨rfl, h1, k1, k2, k3, k4, h2⟩)
      have HJ2 : Hid (∀ W, IsG W g nb zs F1 → IsX W X lo zs F → W.heap[Bx]? = some (.cells #[.slice X.wa zs.length X.wc, .slice X.ra zs.length X.rc] 31 (0, 0)) → (∀ wa wc rest ty fr, W.heap[g]? = some (.cells #[.slice (some wa) zs.length wc, rest] ty fr) → zs.length = 0 ∨ wa.block < lo) → Below w.heap.size w W → Calls Try.prog 11 #[.agg #[.slice X.wa len0 X.wc, .slice X.ra len0 X.rc], .int .i64 oa, .int .i64 ob, .int .i64 ow] W (fun e w' => e = .returned (.int .i64 v1) ∧ BothR w g nb Bx lo X zs F1 w' ∧ Turned (RowsR X zs.length) W w')) := Lib.hid (fun W h1 h2 h3 h4 h5 => by
        have := xjoin_any h2 oa ob ow
        unfold XD.val at this
        rw [HL.out] at this
        refine this.mono ?_
        rintro e w' ⟨rfl, k1, k2⟩
        rw [HL.out] at k1 ⊢
        rw [hF1] at k1
        exact ⟨by rw [hv1], BothR.joinX h1 h2 h4 h3 h5 hlo k1 k2, by rw [HL.out] at k2; exact k2⟩)
      have hoff1 : ¬ (ob5 = nb ∨ RowsR X zs.length ob5) := by
        rintro (e | ⟨a, ha, e⟩)
        · omega
        · have := HRL.out a ha; omega
      have hoff2 : ¬ (Bx = nb ∨ RowsR X zs.length Bx) := by
        have hb := HRc.out.box
        rintro (e | ⟨a, ha, e⟩)
        · omega
        · have h9 := (HRc.out.two.row a ha).2.2
          rw [← e, hb] at h9; injection h9 with h9; injection h9 with _ h10; exact absurd h10 (by decide)
      have s0 : ∀ W, Turned (fun c => c = nb ∨ RowsR X zs.length c) wc W → W.cell? ⟨ob5, 0, none⟩ = some (.int .i64 oa) := fun W hW => heap_cell (hW.old HOP.out hoff1) rfl
      have s1 : ∀ W, Turned (fun c => c = nb ∨ RowsR X zs.length c) wc W → W.cell? ⟨ob5, 1, none⟩ = some (.int .i64 ob) := fun W hW => heap_cell (hW.old HOP.out hoff1) rfl
      have s2 : ∀ W, Turned (fun c => c = nb ∨ RowsR X zs.length c) wc W → W.cell? ⟨ob5, 2, none⟩ = some (.int .i64 ow) := fun W hW => heap_cell (hW.old HOP.out hoff1) rfl
      have s3 : ∀ W, Turned (fun c => c = nb ∨ RowsR X zs.length c) wc W → W.cell? ⟨Bx, 0, none⟩ = some (.slice X.wa len0 X.wc) := fun W hW => by rw [← HL.out]; exact heap_cell (hW.old HRc.out.box hoff2) rfl
      have s4 : ∀ W, Turned (fun c => c = nb ∨ RowsR X zs.length c) wc W → W.cell? ⟨Bx, 1, none⟩ = some (.slice X.ra len0 X.rc) := fun W hW => by rw [← HL.out]; exact heap_cell (hW.old HRc.out.box hoff2) rfl
      have hne : (v1 != v1) = false := by simp
      clear hv1 hF1
      go_region_held3 (fun W => Turned (fun c => c = nb ∨ RowsR X zs.length c) wc W) (first | exact Turned.refl _ _ | exact Turned.drewN _ _ 1 | exact HS6.out | exact HS6.out.trans (Turned.drewN _ _ 1) | exact HS5.out | exact HS5.out.trans (Turned.drewN _ _ 1)) (first
        | (go_at_call 10; refine (HJ1.out _ (by first | exact Turned.refl _ _ | exact Turned.drewN _ _ 1)).mono ?_; clear HJ1; rintro e w5 ⟨rfl, k1, k2, k3, k4, k5, hT5⟩; have HS5 := Lib.hid (show Turned (fun c => c = nb ∨ RowsR X zs.length c) wc w5 by first | exact hT5.weak (fun _ _ e => .inl e) | exact (Turned.drewN _ _ 1).trans (hT5.weak (fun _ _ e => .inl e))); have HJ3 := Lib.hid (HJ2.out w5 k1 k2 k3 k4 k5); have HJ4 := Lib.hid (HJ2.out w5.drew (k1.calm (Turned.drewN _ _ 1)) (k2.below ((Below.refl _ _).drew)) k3 k4 (k5.trans ((Below.refl _ _).drew))); clear k1 k2 k3 k4 k5 hT5)
        | (go_at_call 11; first | (refine HJ3.out.mono ?_; rintro e w6 ⟨rfl, hR6, hT6⟩; have HS6 := Lib.hid (HS5.out.trans (hT6.weak (fun _ _ e => .inr e))); have HR6 := Lib.hid hR6; clear hR6 hT6) | (refine HJ4.out.mono ?_; rintro e w6 ⟨rfl, hR6, hT6⟩; have HS6 := Lib.hid ((HS5.out.trans (Turned.drewN _ _ 1)).trans (hT6.weak (fun _ _ e => .inr e))); have HR6 := Lib.hid hR6; clear hR6 hT6)))
      clear s0 s1 s2 s3 s4 HJ2 HS5 HRc HR
      go_wp2
      go_roundw
      case rel => exact ⟨k + 1, F1, by go_num, by omega, by first | exact HR6 | exact Lib.hid (HR6.out.on ((Below.refl _ _).drew))⟩
      case measure => simp [intOf]; omega
    · as_aux_lemma =>
      have hal := (Below.refl wr.heap.size wr).alloc (Nat.le_refl _) (.cells #[] 41)
      have HR1 := Lib.hid (HR.out.on hal)
      clear HR hal
      go_wp2
      revert HR1
      generalize wr.heap.size = B9
      generalize wr.alloc (.cells #[] 41) = W1
      intro HR1
      obtain ⟨B0, hB0⟩ : ∃ B0, W1.heap.size = B0 := ⟨_, rfl⟩
      have HT := Lib.hid HR1.out.one.tab
      rw [HL.out] at HT
      go_loopw [13, 92] (fun v i wx => ∃ (k2 : Nat) (bw : Option Nat), i = .int .i64 k2 ∧ k2 ≤ len0 ∧ Hid (GB wx B0 41 3 v (upTo len0 F k2).length (its (upTo len0 F k2)) bw) ∧ Hid (Below B0 W1 wx)) (fun _ i _ => len0 - (intOf i).toNat)
      case atStart => exact ⟨0, none, rfl, Nat.zero_le _, Lib.hid (.inl ⟨rfl, rfl, rfl, _, rfl⟩), Lib.hid (Below.refl _ _)⟩
      case round =>
        obtain ⟨k2, bw, rfl, hk2, HW, HB⟩ := hrel
        have zx := HB.out.size
        have hul := upTo_length len0 F k2
        have hku := ten30 (a := k2) (n := len0) (by omega) hl30
        obtain ⟨aw, cw, rfl⟩ := HW.out.slice
        by_cases hlt2 : k2 < len0
        · have hal := (Below.refl wr.heap.size wr).alloc (Nat.le_refl _) (.cells #[] 41)
          have HP0 : Hid (PlW W1 B0 (wantL len0 F k2 0) (mineL F k2 0) (.slice aw (upTo len0 F k2).length cw) (.slice (some ⟨wr.heap.size, 0, none⟩) 0 0) bw none (wr.alloc (.cells #[] 41))) := Lib.hid ⟨by
              have e : wantL len0 F k2 0 = upTo len0 F k2 := by simp [wantL, rowOf]
              rw [e]; exact HW.out.below hal, .inl ⟨rfl, rfl, rfl, _, rfl⟩, fun g _ e => (by cases e), HB.out.trans (hal.mono (by omega))⟩
          clear HW HB hal
          obtain ⟨i0, hi, hz0, hz1, hz2⟩ := info_parts Try.infoEdge
          have HJ := Lib.hid hi
          have HZ0 := Lib.hid hz0
          have HZ1 := Lib.hid hz1
          have HZ2 := Lib.hid hz2
          clear hi hz0 hz1 hz2
          go_wp2
          go_loopw [13, 15, 98] (fun v m j wy => ∃ (k3 : Nat) (bw bm : Option Nat), j = .int .i64 k3 ∧ k3 ≤ len0 ∧ Hid (PlW W1 B0 (wantL len0 F k2 k3) (mineL F k2 k3) v m bw bm wy)) (fun _ _ j _ => len0 - (intOf j).toNat)
          case atStart => exact ⟨0, bw, none, rfl, Nat.zero_le _, HP0⟩
          case round =>
            clear HP0
            obtain ⟨k3, bw, bm, rfl, hk3, HPy⟩ := hrel
            obtain ⟨aw, cw, rfl⟩ := HPy.out.w.slice
            obtain ⟨am, cm, rfl⟩ := HPy.out.m.slice
            have zy := HPy.out.below.size
            have hRy := HR1.out.on (by rw [hB0]; exact HPy.out.below)
            have hml := mineL_length F k2 k3
            have hwl := wantL_length len0 F k2 k3
            by_cases hlt3 : k3 < len0
            · as_aux_lemma =>
              obtain ⟨y, hy⟩ : ∃ y, F k2 k3 = y := ⟨_, rfl⟩
              have hyb : 0 ≤ y ∧ y ≤ 1099511627776 := by rw [← hy]; exact ⟨HT.out.lo k2 k3, HT.out.hi k2 k3⟩
              have HBt : Hid (btw len0 F (k2 : Int) (k3 : Int) = y) := Lib.hid (by rw [btw_nat _ _ hlt2 hlt3, hy])
              have HMS := Lib.hid (mineL_succ F k2 k3)
              have HWS := Lib.hid (wantL_succ len0 F k2 k3)
              rw [hy] at HMS HWS
              have hxb := xbetween_any hRy.two k2 k3
              unfold XD.val at hxb
              rw [HL.out, HBt.out] at hxb
              have HXB := Lib.hid hxb
              have HRy := Lib.hid hRy
              have e0 : wr.cell? ⟨Bx, 0, none⟩ = some (.slice X.wa len0 X.wc) := by rw [← HL.out]; exact heap_cell hRy.box rfl
              have e1 : wr.cell? ⟨Bx, 1, none⟩ = some (.slice X.ra len0 X.rc) := by rw [← HL.out]; exact heap_cell hRy.box rfl
              clear hxb hRy hy
              go_wp2_with fail
              refine HXB.out.mono ?_
              rintro e w6 ⟨rfl, hb⟩
              have HR6 := Lib.hid (HRy.out.on hb)
              have HP6 := Lib.hid (HPy.out.on hb (by omega))
              have z6 := hb.size
              clear hb e0 e1 HXB
              go_wp2_with fail
              refine (between_lit HR6.out.one HL.out k2 k3 HBt.out).mono ?_
              rintro e wu ⟨rfl, ht⟩
              have HP := Lib.hid (HP6.out.on (below_of_turned ht) (by omega))
              have hBu : B0 ≤ wu.heap.size := by have := ht.size; omega
              have hne : (y != y) = false := by simp
              clear ht HR6 HP6 HRy HPy
              by_cases hy0 : 0 < y
              · have dy : decide (0 < y) = true := by simpa using hy0
                rw [if_pos hy0] at HMS
                by_cases hab : k2 < k3
                · have dab : decide ((k2 : Int) < (k3 : Int)) = true := by simp; omega
                  rw [if_pos ⟨hy0, hab⟩] at HWS
                  go_wp2_with (first
                    | (at_builtin; refine wpList_append_GB _ rfl _ _ 38 rfl B0 41 i0 (.agg #[.int .i64 0, .int .i64 0, .int .i64 0]) 3 24 Try.underlying38 HJ.out HZ0.out HZ1.out HZ2.out rfl (by decide) _ _ _ bm rfl (HP.out.m.alloc _) ⟨wu.heap.size, 0, none⟩ 1 1 (its [((k2 : Int), (k3 : Int), y)]) rfl rfl (cell_two _ ((k2 : Int), (k3 : Int), y) _) (its_one _) (by decide) (by unfold maxLen; omega) (by omega) (by simp; omega) ?_; intro g5 cap5 w5 row5 hG5 hg5 hr5 hw5; have HP5 := Lib.hid (PlW.mine (HP.out.on ((Below.refl _ _).alloc (Nat.le_refl _) _) hBu) (by simp; omega) hG5 hg5 hr5 hw5); clear hG5 hg5 hr5 hw5)
                    | (at_builtin; refine wpList_append_GB _ rfl _ _ 38 rfl B0 41 i0 (.agg #[.int .i64 0, .int .i64 0, .int .i64 0]) 3 24 Try.underlying38 HJ.out HZ0.out HZ1.out HZ2.out rfl (by decide) _ _ _ bw rfl (HP5.out.w.alloc _) ⟨w5.heap.size, 0, none⟩ 1 1 (its [((k2 : Int), (k3 : Int), y)]) rfl rfl (cell_two _ ((k2 : Int), (k3 : Int), y) _) (its_one _) (by decide) (by unfold maxLen; omega) (by omega) (by have := HP5.out.below.size; simp; omega) ?_; intro g6 cap6 w6 row6 hG6 hg6 hr6 hw6; have HPz := Lib.hid (PlW.want (HP5.out.on ((Below.refl _ _).alloc (Nat.le_refl _) _) (by have := HP5.out.below.size; omega)) (by have := HP5.out.below.size; simp; omega) hG6 hg6 hr6 hw6); clear hG6 hg6 hr6 hw6))
                  have HQ : Hid (PlW W1 B0 (wantL len0 F k2 (k3 + 1)) (mineL F k2 (k3 + 1)) (.slice (some ⟨g6, 0, none⟩) ((wantL len0 F k2 k3).length + 1) cap6) (.slice (some ⟨g5, 0, none⟩) ((mineL F k2 k3).length + 1) cap5) (some g6) (some g5) w6) := Lib.hid (by rw [HWS.out, HMS.out]; exact HPz.out)
                  go_roundw
                  case rel => exact ⟨k3 + 1, _, _, by go_num, by omega, HQ⟩
                  case measure => simp [intOf]; omega
                · have dab : decide ((k2 : Int) < (k3 : Int)) = false := by simp; omega
                  rw [if_neg (fun e => hab e.2), List.append_nil] at HWS
                  go_wp2_with (at_builtin; refine wpList_append_GB _ rfl _ _ 38 rfl B0 41 i0 (.agg #[.int .i64 0, .int .i64 0, .int .i64 0]) 3 24 Try.underlying38 HJ.out HZ0.out HZ1.out HZ2.out rfl (by decide) _ _ _ bm rfl (HP.out.m.alloc _) ⟨wu.heap.size, 0, none⟩ 1 1 (its [((k2 : Int), (k3 : Int), y)]) rfl rfl (cell_two _ ((k2 : Int), (k3 : Int), y) _) (its_one _) (by decide) (by unfold maxLen; omega) (by omega) (by simp; omega) ?_; intro g5 cap5 w5 row5 hG5 hg5 hr5 hw5; have HP5 := Lib.hid (PlW.mine (HP.out.on ((Below.refl _ _).alloc (Nat.le_refl _) _) hBu) (by simp; omega) hG5 hg5 hr5 hw5); clear hG5 hg5 hr5 hw5)
                  have HQ : Hid (PlW W1 B0 (wantL len0 F k2 (k3 + 1)) (mineL F k2 (k3 + 1)) (.slice aw (wantL len0 F k2 k3).length cw) (.slice (some ⟨g5, 0, none⟩) ((mineL F k2 k3).length + 1) cap5) bw (some g5) w5) := Lib.hid (by rw [HWS.out, HMS.out]; exact HP5.out)
                  go_roundw
                  case rel => exact ⟨k3 + 1, _, _, by go_num, by omega, HQ⟩
                  case measure => simp [intOf]; omega
              · have dy : decide (0 < y) = false := by simpa using hy0
                rw [if_neg hy0, List.append_nil] at HMS
                rw [if_neg (fun e => hy0 e.1), List.append_nil] at HWS
                go_wp2
                have HQ : Hid (PlW W1 B0 (wantL len0 F k2 (k3 + 1)) (mineL F k2 (k3 + 1)) (.slice aw (wantL len0 F k2 k3).length cw) (.slice am (mineL F k2 k3).length cm) bw bm wu) := Lib.hid (by rw [HWS.out, HMS.out]; exact HP.out)
                go_roundw
                case rel => exact ⟨k3 + 1, _, _, by go_num, by omega, HQ⟩
                case measure => simp [intOf]; omega
            · as_aux_lemma =>
              obtain rfl : k3 = len0 := by omega
              have HRy := Lib.hid hRy
              clear hRy
              obtain ⟨M, hM⟩ : ∃ M, mineL F k2 k3 = M := ⟨_, rfl⟩
              have hMn : nearE k3 F (k2 : Int) = M := by rw [← hM, mineL_end k3 F hlt2]
              have HPM := Lib.hid HPy.out.m
              rw [hM] at HPM hml
              rw [hM]
              obtain ⟨m, hm⟩ : ∃ m, M.length = m := ⟨_, rfl⟩
              rw [hm] at HPM hml
              rw [hm]
              obtain ⟨am', cm', bI, hv, hcm, _, hIm⟩ := Gath.itsAt HPM.out.gath hm
              cases hv
              have HNear : Hid (∀ W, Below wr.heap.size wr W → Calls Try.prog 15 #[.pointer (some ⟨g, 0, none⟩), .int .i64 (k2 : Int)] W (fun e w7 => ∃ a7 c7, e = .returned (.slice a7 m c7) ∧ Hid (Below wr.heap.size wr w7) ∧ Hid (∀ W8, Below w7.heap.size w7 W8 → Calls Try.prog 14 #[.slice a7 m c7, .slice am m cm] W8 (fun e w9 => e = .returned (.bool true) ∧ Below W8.heap.size W8 w9)))) := Lib.hid (fun W hW => by
                refine (rnear_any (HRy.out.on hW).one k2).mono ?_
                rintro e w7 ⟨v7, rfl, hg7, hb7⟩
                rw [HL.out, hMn, hm] at hg7
                obtain ⟨a7, c7, b7, rfl, _, _, hI7⟩ := Gath.itsAt hg7 hm
                have h7 := hW.trans (hb7.mono hW.size)
                refine ⟨a7, c7, rfl, Lib.hid h7, Lib.hid fun W8 hW8 => ?_⟩
                have h := same_any (cap := c7) (cap' := cm) ((hI7.kept hW8 (Nat.le_refl _)).mono hW8.size) ((hIm.kept (h7.trans (hW8.mono h7.size)) (Nat.le_refl _)).mono (Nat.le_trans h7.size hW8.size)) (by omega) (by omega) (Nat.le_refl _)
                simp only [decide_true] at h
                exact h)
              have hkz : k2 < zs.length := by rw [HL.out]; exact hlt2
              obtain ⟨x, hx⟩ : ∃ x, zs.getD k2 0 = x := ⟨_, rfl⟩
              have HWt : Hid (∀ W, Below wr.heap.size wr W → Calls Try.prog 16 #[.pointer (some ⟨g, 0, none⟩), .int .i64 (k2 : Int)] W (fun e w' => e = .returned (.int .i64 x) ∧ W = w')) := Lib.hid (fun W hW => weight_lit (HRy.out.on hW).one k2 (by unfold wtOf; rw [if_pos ⟨by omega, by omega⟩]; simpa using hx))
              obtain ⟨dv, hdv⟩ : ∃ dv, vals (nearD k3 F (k2 : Int)) = dv := ⟨_, rfl⟩
              have HDg : Hid (∀ W, Below wr.heap.size wr W → Calls Try.prog 17 #[.pointer (some ⟨g, 0, none⟩), .int .i64 (k2 : Int)] W (fun e w' => e = .returned (.int .i64 dv) ∧ Below W.heap.size W w')) := Lib.hid (fun W hW => degree_lit (HRy.out.on hW).one HL.out k2 hdv)
              have HXd : Hid (∀ W, Below wr.heap.size wr W → Calls Try.prog 18 #[.agg #[.slice X.wa k3 X.wc, .slice X.ra k3 X.rc], .int .i64 (k2 : Int)] W (fun e w' => e = .returned (.int .i64 dv) ∧ Below W.heap.size W w')) := Lib.hid (fun W hW => by
                have := xdegree_any (HRy.out.on hW).two hkz (by rw [HL.out]; exact hl30)
                unfold XD.val at this
                rw [HL.out, hdv] at this
                exact this)
              have haz := HI.out.addr.resolve_left (by omega)
              subst haz
              have hbl := HI.out.below.resolve_left (by omega)
              have hwz := HRy.out.below.size
              have sC : ∀ W, Below wr.heap.size wr W → W.cell? ⟨b, off + k2, none⟩ = some (.int .i64 x) := fun W hW => by
                have := (HI.out.kept (HRy.out.on hW).below (Nat.le_refl _)).cell k2 hlt2
                rw [hx] at this; exact this
              have s3 : ∀ W, Below wr.heap.size wr W → W.cell? ⟨Bx, 0, none⟩ = some (.slice X.wa k3 X.wc) := fun W hW => by rw [← HL.out]; exact heap_cell (HRy.out.on hW).box rfl
              have s4 : ∀ W, Below wr.heap.size wr W → W.cell? ⟨Bx, 1, none⟩ = some (.slice X.ra k3 X.rc) := fun W hW => by rw [← HL.out]; exact heap_cell (HRy.out.on hW).box rfl
              have hne1 : (x != x) = false := by simp
              have hne2 : (dv != dv) = false := by simp
              have HWP := Lib.hid HPy.out.w
              have HBP := Lib.hid HPy.out.below
              have hku2 : (k2 : Int) < (k3 : Int) := by omega
              clear hM hMn hm hIm hx hdv hkz hcm
              go_upto_region 31 with fail
              go_region_held3 (fun W => Below wr.heap.size wr W) (first | exact Below.refl _ _ | exact (Below.refl _ _).drew | exact hB11.out | exact hB11.out.drew | exact hB10.out | exact hB10.out.drew | exact hB9.out | exact hB9.out.drew | exact hB7.out | exact hB7.out.drew) (first
                | (go_at_call 15; refine (HNear.out _ (by first | exact Below.refl _ _ | exact (Below.refl _ _).drew)).mono ?_; rintro e w7 ⟨a7, c7, rfl, hB7, hSM⟩)
                | (go_at_call 14; refine (hSM.out _ (by first | exact Below.refl _ _ | exact (Below.refl _ _).drew)).mono ?_; rintro e w9 ⟨rfl, hb⟩; have hB9 := Lib.hid (hB7.out.trans ((show Below w7.heap.size w7 w9 by first | exact hb | exact ((Below.refl w7.heap.size w7).drew).trans hb).mono hB7.out.size)); clear hb)
                | (go_at_call 16; refine (HWt.out _ (by first | exact hB9.out | exact hB9.out.drew)).mono ?_; rintro e _ ⟨rfl, rfl⟩)
                | (go_at_call 17; refine (HDg.out _ (by first | exact hB9.out | exact hB9.out.drew)).mono ?_; rintro e w10 ⟨rfl, hb⟩; have hB10 := Lib.hid (hB9.out.trans ((show Below w9.heap.size w9 w10 by first | exact hb | exact ((Below.refl w9.heap.size w9).drew).trans hb).mono hB9.out.size)); clear hb)
                | (go_at_call 18; refine (HXd.out _ (by first | exact hB10.out | exact hB10.out.drew)).mono ?_; rintro e w11 ⟨rfl, hb⟩; have hB11 := Lib.hid (hB10.out.trans ((show Below w10.heap.size w10 w11 by first | exact hb | exact ((Below.refl w10.heap.size w10).drew).trans hb).mono hB10.out.size)); clear hb))
              have HB12 := Lib.hid (HBP.out.trans (hB11.out.mono (by omega)))
              have HW12 := Lib.hid (HWP.out.below hB11.out)
              rw [wantL_end] at HW12
              clear s3 s4 sC HNear HWt HDg HXd
              go_wp2
              go_roundw
              case rel => exact ⟨k2 + 1, bw, by go_num, by omega, HW12, HB12⟩
              case measure => simp [intOf]; omega
        · as_aux_lemma =>
          obtain rfl : k2 = len0 := by omega
          have HRy := Lib.hid (HR1.out.on (by rw [hB0]; exact HB.out))
          have hLl := edgesD_length F hl30
          obtain ⟨L, hLd⟩ : ∃ L, edgesD k2 F = L := ⟨_, rfl⟩
          have hLu : upTo k2 F k2 = L := hLd
          have HWL := Lib.hid HW.out
          rw [hLu] at HWL
          rw [hLd] at hLl
          obtain ⟨n, hn⟩ : ∃ n, L.length = n := ⟨_, rfl⟩
          rw [hn] at HWL hLl
          rw [hLu, hn]
          obtain ⟨aw', cw', bI, hv, hcw, _, hIm⟩ := Gath.itsAt HWL.out.gath hn
          cases hv
          obtain ⟨c, hc⟩ : ∃ c : Nat, bits .and .i64 a2 15 = (c : Int) := ⟨(a2 % 16).toNat, by rw [and_15]; omega⟩
          have hc15 : c ≤ 15 := by have := and_15 a2; omega
          obtain ⟨k, hk'⟩ : ∃ k, min c n = k := ⟨_, rfl⟩
          have hmi : min (c : Int) (n : Int) = (k : Int) := by omega
          have hkn : k ≤ n := by omega
          have hTk : L.take c = L.take k := by
            by_cases h : c ≤ n
            · rw [show k = c by omega]
            · rw [List.take_of_length_le (by omega), List.take_of_length_le (by omega)]
          have hTl : (L.take k).length = k := by rw [List.length_take]; omega
          have HE1 : Hid (∀ W, Below wr.heap.size wr W → Calls Try.prog 19 #[.pointer (some ⟨g, 0, none⟩), .int .i64 10000] W (fun e w7 => ∃ a7 c7, e = .returned (.slice a7 n c7) ∧ Hid (Below wr.heap.size wr w7) ∧ Hid (∀ W8, Below w7.heap.size w7 W8 → Calls Try.prog 14 #[.slice a7 n c7, .slice aw n cw] W8 (fun e w9 => e = .returned (.bool true) ∧ Below W8.heap.size W8 w9)))) := Lib.hid (fun W hW => by
            refine (edges_any 10000 (HRy.out.on hW).one (by decide) (by decide)).mono ?_
            rintro e w7 ⟨v7, rfl, hg7, hb7⟩
            rw [HL.out, hLd, List.take_of_length_le (by omega), hn] at hg7
            obtain ⟨a7, c7, b7, rfl, _, _, hI7⟩ := Gath.itsAt hg7 hn
            have h7 := hW.trans (hb7.mono hW.size)
            refine ⟨a7, c7, rfl, Lib.hid h7, Lib.hid fun W8 hW8 => ?_⟩
            have h := same_any (cap := c7) (cap' := cw) ((hI7.kept hW8 (Nat.le_refl _)).mono hW8.size) ((hIm.kept (h7.trans (hW8.mono h7.size)) (Nat.le_refl _)).mono (Nat.le_trans h7.size hW8.size)) (by omega) (by omega) (Nat.le_refl _)
            simp only [decide_true] at h
            exact h)
          have HE2 : Hid (∀ W, Below wr.heap.size wr W → Calls Try.prog 19 #[.pointer (some ⟨g, 0, none⟩), .int .i64 (c : Int)] W (fun e w7 => ∃ a7 c7, e = .returned (.slice a7 k c7) ∧ Hid (Below wr.heap.size wr w7) ∧ Hid (∀ W8, Below w7.heap.size w7 W8 → ∀ ax cx, (k = 0 ∨ ax = some ⟨bI, 0, none⟩) → Calls Try.prog 14 #[.slice a7 k c7, .slice ax k cx] W8 (fun e w9 => e = .returned (.bool true) ∧ Below W8.heap.size W8 w9)))) := Lib.hid (fun W hW => by
            have hEd : Calls Try.prog 19 #[.pointer (some ⟨g, 0, none⟩), .int .i64 (c : Int)] W (EdgesPost (L.take k) W) := by
              by_cases hc0 : c = 0
              · subst hc0
                rw [show k = 0 by omega]
                exact edges0_any _ _ (by decide)
              · have := edges_any c (HRy.out.on hW).one (by omega) (by omega)
                rw [HL.out, hLd, hTk] at this
                exact this
            refine hEd.mono ?_
            rintro e w7 ⟨v7, rfl, hg7, hb7⟩
            rw [hTl] at hg7
            obtain ⟨a7, c7, b7, rfl, _, _, hI7⟩ := Gath.itsAt hg7 hTl
            have h7 := hW.trans (hb7.mono hW.size)
            refine ⟨a7, c7, rfl, Lib.hid h7, Lib.hid fun W8 hW8 ax cx hax => ?_⟩
            have hIk := hIm.kept (h7.trans (hW8.mono h7.size)) (Nat.le_refl _)
            have hIt : ItsAt wr.heap.size W8 ax bI k (L.take k) := ⟨hax, hTl, hIk.below.imp (fun e => by omega) id, fun i hi => by
              rw [show (L.take k).getD i default = L.getD i default by simp [List.getD, hi]]
              exact hIk.cell i (by omega)⟩
            have h := same_any (cap := c7) (cap' := cx) ((hI7.kept hW8 (Nat.le_refl _)).mono hW8.size) (hIt.mono (Nat.le_trans h7.size hW8.size)) (by omega) (by omega) (Nat.le_refl _)
            simp only [decide_true] at h
            exact h)
          obtain ⟨sv, hsv⟩ : ∃ sv, zs.sum = sv := ⟨_, rfl⟩
          have HTo : Hid (∀ W, Below wr.heap.size wr W → Calls Try.prog 20 #[.pointer (some ⟨g, 0, none⟩)] W (fun e w' => e = .returned (.int .i64 sv) ∧ W = w')) := Lib.hid (fun W hW => total_lit (HRy.out.on hW).one hsv)
          have HXt : Hid (∀ W, Below wr.heap.size wr W → Calls Try.prog 21 #[.agg #[.slice X.wa k2 X.wc, .slice X.ra k2 X.rc]] W (fun e w' => e = .returned (.int .i64 sv) ∧ Hid (Below wr.heap.size wr w'))) := Lib.hid (fun W hW => by
            have h := xtotal_any (HRy.out.on hW).two (HRy.out.one.wts)
            unfold XD.val at h
            rw [HL.out, hsv] at h
            refine h.mono ?_
            rintro e w' ⟨h1, h2⟩
            exact ⟨h1, Lib.hid (hW.trans (h2.mono hW.size))⟩)
          have HLe : Hid (∀ W, Below wr.heap.size wr W → Calls Try.prog 22 #[.pointer (some ⟨g, 0, none⟩)] W (fun e w' => e = .returned (.int .i64 (k2 : Int)) ∧ W = w')) := Lib.hid (fun W hW => len_lit (HRy.out.on hW).one (by rw [HL.out]))
          have HWa : Hid (∀ W, Below wr.heap.size wr W → Calls Try.prog 16 #[.pointer (some ⟨g, 0, none⟩), .int .i64 (-1)] W (fun e w' => e = .returned (.int .i64 0) ∧ W = w')) := Lib.hid (fun W hW => weight_lit (HRy.out.on hW).one (-1) (by unfold wtOf; rw [if_neg (by omega)]))
          have HWb : Hid (∀ W, Below wr.heap.size wr W → Calls Try.prog 16 #[.pointer (some ⟨g, 0, none⟩), .int .i64 (k2 : Int)] W (fun e w' => e = .returned (.int .i64 0) ∧ W = w')) := Lib.hid (fun W hW => weight_lit (HRy.out.on hW).one k2 (by unfold wtOf; rw [if_neg (by rw [HL.out]; omega)]))
          have HBa : Hid (∀ W, Below wr.heap.size wr W → Calls Try.prog 13 #[.pointer (some ⟨g, 0, none⟩), .int .i64 (-1), .int .i64 0] W (fun e w' => e = .returned (.int .i64 0) ∧ Hid (Below wr.heap.size wr w'))) := Lib.hid (fun W hW => (between_lit (HRy.out.on hW).one HL.out (-1) 0 (by unfold btw; rw [if_neg (by omega)])).mono (fun e w' h => ⟨h.1, Lib.hid (hW.trans ((below_of_turned h.2).mono hW.size))⟩))
          have HBb : Hid (∀ W, Below wr.heap.size wr W → Calls Try.prog 13 #[.pointer (some ⟨g, 0, none⟩), .int .i64 0, .int .i64 (k2 : Int)] W (fun e w' => e = .returned (.int .i64 0) ∧ Hid (Below wr.heap.size wr w'))) := Lib.hid (fun W hW => (between_lit (HRy.out.on hW).one HL.out 0 k2 (by unfold btw; rw [if_neg (by omega)])).mono (fun e w' h => ⟨h.1, Lib.hid (hW.trans ((below_of_turned h.2).mono hW.size))⟩))
          have s3 : ∀ W, Below wr.heap.size wr W → W.cell? ⟨Bx, 0, none⟩ = some (.slice X.wa k2 X.wc) := fun W hW => by rw [← HL.out]; exact heap_cell (HRy.out.on hW).box rfl
          have s4 : ∀ W, Below wr.heap.size wr W → W.cell? ⟨Bx, 1, none⟩ = some (.slice X.ra k2 X.rc) := fun W hW => by rw [← HL.out]; exact heap_cell (HRy.out.on hW).box rfl
          have HBW := Lib.hid HRy.out.below
          have hki : (k : Int) ≤ (cw : Int) := by omega
          have hk0 : (0 : Int) ≤ (k : Int) := by omega
          have hadr := hIm.addr
          have haw : cw = 0 ∨ ∃ gI, aw = some ⟨gI, 0, none⟩ := by
            rcases HWL.out with ⟨_, _, _, ao, e⟩ | ⟨gI, _, _, ho⟩
            · cases e; exact .inl rfl
            · rcases ho.2 with ⟨e, _⟩ | ⟨gI', _, _, e, _⟩
              · cases e; exact .inl rfl
              · cases e; exact .inr ⟨_, rfl⟩
          clear hLd hLu HWL HW HB hIm hTk hTl hsv hul hku
          rcases (show (n < c ∧ n = k) ∨ (c ≤ n ∧ c = k) by omega) with ⟨hcn, hk9⟩ | ⟨hcn, hk9⟩
          · subst hk9
            have hcn1 : (n : Int) < (c : Int) := by omega
            by_cases hcw0 : cw = 0
            · obtain rfl : n = 0 := by omega
              subst hcw0
              have hcn2 : (0 : Int) < (c : Int) := by omega
              have hax : 0 = 0 ∨ aw = some ⟨bI, 0, none⟩ := .inl rfl
              as_aux_lemma =>
                go_upto_region 35 with fail
                go_region_held3 (fun W => Below wr.heap.size wr W) (first | exact Below.refl _ _ | exact (Below.refl _ _).drew | exact hB13.out | exact hB13.out.drew | exact hB12.out | exact hB12.out.drew | exact hB11.out | exact hB11.out.drew | exact hB10.out | exact hB10.out.drew | exact hB9.out | exact hB9.out.drew | exact hB8.out | exact hB8.out.drew | exact hB7.out | exact hB7.out.drew) (first
                  | (go_at_call 19; refine (HE1.out _ (by first | exact Below.refl _ _ | exact (Below.refl _ _).drew)).mono ?_; clear HE1; rintro e w7 ⟨a7, c7, rfl, hB7, hSM⟩)
                  | (go_at_call 14; refine (hSM.out _ (by first | exact Below.refl _ _ | exact (Below.refl _ _).drew)).mono ?_; clear hSM; rintro e w8 ⟨rfl, hb⟩; have hB8 := Lib.hid (hB7.out.trans ((show Below w7.heap.size w7 w8 by first | exact hb | exact ((Below.refl w7.heap.size w7).drew).trans hb).mono hB7.out.size)); clear hb)
                  | (go_at_call 19; refine (HE2.out _ (by first | exact hB8.out | exact hB8.out.drew)).mono ?_; clear HE2; rintro e w9 ⟨a9, c9, rfl, hB9, hSM2⟩)
                  | (go_at_call 14; refine (hSM2.out _ (by first | exact Below.refl _ _ | exact (Below.refl _ _).drew) _ _ (by first | exact hax | exact .inl rfl | exact .inl trivial | exact .inr rfl | trivial)).mono ?_; clear hSM2; rintro e w10 ⟨rfl, hb⟩; have hB10 := Lib.hid (hB9.out.trans ((show Below w9.heap.size w9 w10 by first | exact hb | exact ((Below.refl w9.heap.size w9).drew).trans hb).mono hB9.out.size)); clear hb)
                  | (go_at_call 20; refine (HTo.out _ (by first | exact hB10.out | exact hB10.out.drew)).mono ?_; clear HTo; rintro e _ ⟨rfl, rfl⟩)
                  | (go_at_call 21; refine (HXt.out _ (by first | exact hB10.out | exact hB10.out.drew)).mono ?_; clear HXt; rintro e w11 ⟨rfl, hB11⟩)
                  | (go_at_call 22; refine (HLe.out _ (by first | exact hB11.out | exact hB11.out.drew)).mono ?_; clear HLe; rintro e _ ⟨rfl, rfl⟩)
                  | (go_at_call 16; refine (HWa.out _ (by first | exact hB11.out | exact hB11.out.drew)).mono ?_; clear HWa; rintro e _ ⟨rfl, rfl⟩)
                  | (go_at_call 16; refine (HWb.out _ (by first | exact hB11.out | exact hB11.out.drew)).mono ?_; clear HWb; rintro e _ ⟨rfl, rfl⟩)
                  | (go_at_call 13; refine (HBa.out _ (by first | exact hB11.out | exact hB11.out.drew)).mono ?_; clear HBa; rintro e w12 ⟨rfl, hB12⟩)
                  | (go_at_call 13; refine (HBb.out _ (by first | exact hB12.out | exact hB12.out.drew)).mono ?_; clear HBb; rintro e w13 ⟨rfl, hB13⟩))
                all_goals
                  have HB14 := Lib.hid (HBW.out.trans (hB13.out.mono HBW.out.size))
                  clear s3 s4
                  go_wp2
                  all_goals
                    go_ret
                    exact ⟨by simp, by first | exact HB14.out | exact HB14.out.drew⟩
            · obtain ⟨gI, rfl⟩ := haw.resolve_left hcw0
              have hax : n = 0 ∨ some ({ block := gI, off := 0, spot := none } : Addr) = some ⟨bI, 0, none⟩ := by
                rcases hadr with h | h
                · exact .inl (by omega)
                · exact .inr h
              as_aux_lemma =>
                go_upto_region 35 with fail
                go_region_held3 (fun W => Below wr.heap.size wr W) (first | exact Below.refl _ _ | exact (Below.refl _ _).drew | exact hB13.out | exact hB13.out.drew | exact hB12.out | exact hB12.out.drew | exact hB11.out | exact hB11.out.drew | exact hB10.out | exact hB10.out.drew | exact hB9.out | exact hB9.out.drew | exact hB8.out | exact hB8.out.drew | exact hB7.out | exact hB7.out.drew) (first
                  | (go_at_call 19; refine (HE1.out _ (by first | exact Below.refl _ _ | exact (Below.refl _ _).drew)).mono ?_; clear HE1; rintro e w7 ⟨a7, c7, rfl, hB7, hSM⟩)
                  | (go_at_call 14; refine (hSM.out _ (by first | exact Below.refl _ _ | exact (Below.refl _ _).drew)).mono ?_; clear hSM; rintro e w8 ⟨rfl, hb⟩; have hB8 := Lib.hid (hB7.out.trans ((show Below w7.heap.size w7 w8 by first | exact hb | exact ((Below.refl w7.heap.size w7).drew).trans hb).mono hB7.out.size)); clear hb)
                  | (go_at_call 19; refine (HE2.out _ (by first | exact hB8.out | exact hB8.out.drew)).mono ?_; clear HE2; rintro e w9 ⟨a9, c9, rfl, hB9, hSM2⟩)
                  | (go_at_call 14; refine (hSM2.out _ (by first | exact Below.refl _ _ | exact (Below.refl _ _).drew) _ _ (by first | exact hax | exact .inl rfl | exact .inl trivial | exact .inr rfl | trivial)).mono ?_; clear hSM2; rintro e w10 ⟨rfl, hb⟩; have hB10 := Lib.hid (hB9.out.trans ((show Below w9.heap.size w9 w10 by first | exact hb | exact ((Below.refl w9.heap.size w9).drew).trans hb).mono hB9.out.size)); clear hb)
                  | (go_at_call 20; refine (HTo.out _ (by first | exact hB10.out | exact hB10.out.drew)).mono ?_; clear HTo; rintro e _ ⟨rfl, rfl⟩)
                  | (go_at_call 21; refine (HXt.out _ (by first | exact hB10.out | exact hB10.out.drew)).mono ?_; clear HXt; rintro e w11 ⟨rfl, hB11⟩)
                  | (go_at_call 22; refine (HLe.out _ (by first | exact hB11.out | exact hB11.out.drew)).mono ?_; clear HLe; rintro e _ ⟨rfl, rfl⟩)
                  | (go_at_call 16; refine (HWa.out _ (by first | exact hB11.out | exact hB11.out.drew)).mono ?_; clear HWa; rintro e _ ⟨rfl, rfl⟩)
                  | (go_at_call 16; refine (HWb.out _ (by first | exact hB11.out | exact hB11.out.drew)).mono ?_; clear HWb; rintro e _ ⟨rfl, rfl⟩)
                  | (go_at_call 13; refine (HBa.out _ (by first | exact hB11.out | exact hB11.out.drew)).mono ?_; clear HBa; rintro e w12 ⟨rfl, hB12⟩)
                  | (go_at_call 13; refine (HBb.out _ (by first | exact hB12.out | exact hB12.out.drew)).mono ?_; clear HBb; rintro e w13 ⟨rfl, hB13⟩))
                all_goals
                  have HB14 := Lib.hid (HBW.out.trans (hB13.out.mono HBW.out.size))
                  clear s3 s4
                  go_wp2
                  all_goals
                    go_ret
                    exact ⟨by simp, by first | exact HB14.out | exact HB14.out.drew⟩
          · subst hk9
            have hcn2 : ¬ ((n : Int) < (c : Int)) := by omega
            have hcn1 : (c : Int) ≤ (n : Int) := by omega
            have hcn3 : ¬ (n < c) := by omega
            by_cases hcw0 : cw = 0
            · obtain rfl : n = 0 := by omega
              subst hcw0
              obtain rfl : c = 0 := by omega
              have hax : 0 = 0 ∨ aw = some ⟨bI, 0, none⟩ := .inl rfl
              clear hcn1 hcn2 hcn3 hmi hki hk0
              cases aw with
              | none =>
                as_aux_lemma =>
                  go_upto_region 35 with fail
                  go_region_held3 (fun W => Below wr.heap.size wr W) (first | exact Below.refl _ _ | exact (Below.refl _ _).drew | exact hB13.out | exact hB13.out.drew | exact hB12.out | exact hB12.out.drew | exact hB11.out | exact hB11.out.drew | exact hB10.out | exact hB10.out.drew | exact hB9.out | exact hB9.out.drew | exact hB8.out | exact hB8.out.drew | exact hB7.out | exact hB7.out.drew) (first
                    | (go_at_call 19; refine (HE1.out _ (by first | exact Below.refl _ _ | exact (Below.refl _ _).drew)).mono ?_; clear HE1; rintro e w7 ⟨a7, c7, rfl, hB7, hSM⟩)
                    | (go_at_call 14; refine (hSM.out _ (by first | exact Below.refl _ _ | exact (Below.refl _ _).drew)).mono ?_; clear hSM; rintro e w8 ⟨rfl, hb⟩; have hB8 := Lib.hid (hB7.out.trans ((show Below w7.heap.size w7 w8 by first | exact hb | exact ((Below.refl w7.heap.size w7).drew).trans hb).mono hB7.out.size)); clear hb)
                    | (go_at_call 19; refine (HE2.out _ (by first | exact hB8.out | exact hB8.out.drew)).mono ?_; clear HE2; rintro e w9 ⟨a9, c9, rfl, hB9, hSM2⟩)
                    | (go_at_call 14; refine (hSM2.out _ (by first | exact Below.refl _ _ | exact (Below.refl _ _).drew) _ _ (by first | exact hax | exact .inl rfl | exact .inl trivial | exact .inr rfl | trivial)).mono ?_; clear hSM2; rintro e w10 ⟨rfl, hb⟩; have hB10 := Lib.hid (hB9.out.trans ((show Below w9.heap.size w9 w10 by first | exact hb | exact ((Below.refl w9.heap.size w9).drew).trans hb).mono hB9.out.size)); clear hb)
                    | (go_at_call 20; refine (HTo.out _ (by first | exact hB10.out | exact hB10.out.drew)).mono ?_; clear HTo; rintro e _ ⟨rfl, rfl⟩)
                    | (go_at_call 21; refine (HXt.out _ (by first | exact hB10.out | exact hB10.out.drew)).mono ?_; clear HXt; rintro e w11 ⟨rfl, hB11⟩)
                    | (go_at_call 22; refine (HLe.out _ (by first | exact hB11.out | exact hB11.out.drew)).mono ?_; clear HLe; rintro e _ ⟨rfl, rfl⟩)
                    | (go_at_call 16; refine (HWa.out _ (by first | exact hB11.out | exact hB11.out.drew)).mono ?_; clear HWa; rintro e _ ⟨rfl, rfl⟩)
                    | (go_at_call 16; refine (HWb.out _ (by first | exact hB11.out | exact hB11.out.drew)).mono ?_; clear HWb; rintro e _ ⟨rfl, rfl⟩)
                    | (go_at_call 13; refine (HBa.out _ (by first | exact hB11.out | exact hB11.out.drew)).mono ?_; clear HBa; rintro e w12 ⟨rfl, hB12⟩)
                    | (go_at_call 13; refine (HBb.out _ (by first | exact hB12.out | exact hB12.out.drew)).mono ?_; clear HBb; rintro e w13 ⟨rfl, hB13⟩))
                  all_goals
                    have HB14 := Lib.hid (HBW.out.trans (hB13.out.mono HBW.out.size))
                    clear s3 s4
                    go_wp2
                    all_goals
                      go_ret
                      exact ⟨by simp, by first | exact HB14.out | exact HB14.out.drew⟩
              | some gI =>
                as_aux_lemma =>
                  go_upto_region 35 with fail
                  go_region_held3 (fun W => Below wr.heap.size wr W) (first | exact Below.refl _ _ | exact (Below.refl _ _).drew | exact hB13.out | exact hB13.out.drew | exact hB12.out | exact hB12.out.drew | exact hB11.out | exact hB11.out.drew | exact hB10.out | exact hB10.out.drew | exact hB9.out | exact hB9.out.drew | exact hB8.out | exact hB8.out.drew | exact hB7.out | exact hB7.out.drew) (first
                    | (go_at_call 19; refine (HE1.out _ (by first | exact Below.refl _ _ | exact (Below.refl _ _).drew)).mono ?_; clear HE1; rintro e w7 ⟨a7, c7, rfl, hB7, hSM⟩)
                    | (go_at_call 14; refine (hSM.out _ (by first | exact Below.refl _ _ | exact (Below.refl _ _).drew)).mono ?_; clear hSM; rintro e w8 ⟨rfl, hb⟩; have hB8 := Lib.hid (hB7.out.trans ((show Below w7.heap.size w7 w8 by first | exact hb | exact ((Below.refl w7.heap.size w7).drew).trans hb).mono hB7.out.size)); clear hb)
                    | (go_at_call 19; refine (HE2.out _ (by first | exact hB8.out | exact hB8.out.drew)).mono ?_; clear HE2; rintro e w9 ⟨a9, c9, rfl, hB9, hSM2⟩)
                    | (go_at_call 14; refine (hSM2.out _ (by first | exact Below.refl _ _ | exact (Below.refl _ _).drew) _ _ (by first | exact hax | exact .inl rfl | exact .inl trivial | exact .inr rfl | trivial)).mono ?_; clear hSM2; rintro e w10 ⟨rfl, hb⟩; have hB10 := Lib.hid (hB9.out.trans ((show Below w9.heap.size w9 w10 by first | exact hb | exact ((Below.refl w9.heap.size w9).drew).trans hb).mono hB9.out.size)); clear hb)
                    | (go_at_call 20; refine (HTo.out _ (by first | exact hB10.out | exact hB10.out.drew)).mono ?_; clear HTo; rintro e _ ⟨rfl, rfl⟩)
                    | (go_at_call 21; refine (HXt.out _ (by first | exact hB10.out | exact hB10.out.drew)).mono ?_; clear HXt; rintro e w11 ⟨rfl, hB11⟩)
                    | (go_at_call 22; refine (HLe.out _ (by first | exact hB11.out | exact hB11.out.drew)).mono ?_; clear HLe; rintro e _ ⟨rfl, rfl⟩)
                    | (go_at_call 16; refine (HWa.out _ (by first | exact hB11.out | exact hB11.out.drew)).mono ?_; clear HWa; rintro e _ ⟨rfl, rfl⟩)
                    | (go_at_call 16; refine (HWb.out _ (by first | exact hB11.out | exact hB11.out.drew)).mono ?_; clear HWb; rintro e _ ⟨rfl, rfl⟩)
                    | (go_at_call 13; refine (HBa.out _ (by first | exact hB11.out | exact hB11.out.drew)).mono ?_; clear HBa; rintro e w12 ⟨rfl, hB12⟩)
                    | (go_at_call 13; refine (HBb.out _ (by first | exact hB12.out | exact hB12.out.drew)).mono ?_; clear HBb; rintro e w13 ⟨rfl, hB13⟩))
                  all_goals
                    have HB14 := Lib.hid (HBW.out.trans (hB13.out.mono HBW.out.size))
                    clear s3 s4
                    go_wp2
                    all_goals
                      go_ret
                      exact ⟨by simp, by first | exact HB14.out | exact HB14.out.drew⟩
            · obtain ⟨gI, rfl⟩ := haw.resolve_left hcw0
              have hax : c = 0 ∨ some ({ block := gI, off := 0, spot := none } : Addr) = some ⟨bI, 0, none⟩ := by
                rcases hadr with h | h
                · exact .inl (by omega)
                · exact .inr h
              as_aux_lemma =>
                go_upto_region 35 with fail
                go_region_held3 (fun W => Below wr.heap.size wr W) (first | exact Below.refl _ _ | exact (Below.refl _ _).drew | exact hB13.out | exact hB13.out.drew | exact hB12.out | exact hB12.out.drew | exact hB11.out | exact hB11.out.drew | exact hB10.out | exact hB10.out.drew | exact hB9.out | exact hB9.out.drew | exact hB8.out | exact hB8.out.drew | exact hB7.out | exact hB7.out.drew) (first
                  | (go_at_call 19; refine (HE1.out _ (by first | exact Below.refl _ _ | exact (Below.refl _ _).drew)).mono ?_; clear HE1; rintro e w7 ⟨a7, c7, rfl, hB7, hSM⟩)
                  | (go_at_call 14; refine (hSM.out _ (by first | exact Below.refl _ _ | exact (Below.refl _ _).drew)).mono ?_; clear hSM; rintro e w8 ⟨rfl, hb⟩; have hB8 := Lib.hid (hB7.out.trans ((show Below w7.heap.size w7 w8 by first | exact hb | exact ((Below.refl w7.heap.size w7).drew).trans hb).mono hB7.out.size)); clear hb)
                  | (go_at_call 19; refine (HE2.out _ (by first | exact hB8.out | exact hB8.out.drew)).mono ?_; clear HE2; rintro e w9 ⟨a9, c9, rfl, hB9, hSM2⟩)
                  | (go_at_call 14; refine (hSM2.out _ (by first | exact Below.refl _ _ | exact (Below.refl _ _).drew) _ _ (by first | exact hax | exact .inl rfl | exact .inl trivial | exact .inr rfl | trivial)).mono ?_; clear hSM2; rintro e w10 ⟨rfl, hb⟩; have hB10 := Lib.hid (hB9.out.trans ((show Below w9.heap.size w9 w10 by first | exact hb | exact ((Below.refl w9.heap.size w9).drew).trans hb).mono hB9.out.size)); clear hb)
                  | (go_at_call 20; refine (HTo.out _ (by first | exact hB10.out | exact hB10.out.drew)).mono ?_; clear HTo; rintro e _ ⟨rfl, rfl⟩)
                  | (go_at_call 21; refine (HXt.out _ (by first | exact hB10.out | exact hB10.out.drew)).mono ?_; clear HXt; rintro e w11 ⟨rfl, hB11⟩)
                  | (go_at_call 22; refine (HLe.out _ (by first | exact hB11.out | exact hB11.out.drew)).mono ?_; clear HLe; rintro e _ ⟨rfl, rfl⟩)
                  | (go_at_call 16; refine (HWa.out _ (by first | exact hB11.out | exact hB11.out.drew)).mono ?_; clear HWa; rintro e _ ⟨rfl, rfl⟩)
                  | (go_at_call 16; refine (HWb.out _ (by first | exact hB11.out | exact hB11.out.drew)).mono ?_; clear HWb; rintro e _ ⟨rfl, rfl⟩)
                  | (go_at_call 13; refine (HBa.out _ (by first | exact hB11.out | exact hB11.out.drew)).mono ?_; clear HBa; rintro e w12 ⟨rfl, hB12⟩)
                  | (go_at_call 13; refine (HBb.out _ (by first | exact hB12.out | exact hB12.out.drew)).mono ?_; clear HBb; rintro e w13 ⟨rfl, hB13⟩))
                all_goals
                  have HB14 := Lib.hid (HBW.out.trans (hB13.out.mono HBW.out.size))
                  clear s3 s4
                  go_wp2
                  all_goals
                    go_ret
                    exact ⟨by simp, by first | exact HB14.out | exact HB14.out.drew⟩
end Go.Proofs.Ytgidfgafnihblaa
