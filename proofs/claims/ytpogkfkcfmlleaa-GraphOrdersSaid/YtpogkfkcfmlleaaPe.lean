/- The walk of GraphOrders. -/
import Derived.Test.YtpogkfkcfmlleaaPd
import Derived.BigRegion
import Derived.Deep.DeepCutAuto
import Derived.Deep.CutBlock
import Derived.Deep.RegionHeld3
set_option linter.unusedVariables false
set_option linter.unusedSectionVars false
namespace Go.Proofs.Ytpogkfkcfmlleaa
open Go.RowKit Rk

set_option maxRecDepth 100000 in
set_option maxHeartbeats 8000000 in
theorem walk_GraphOrders (a0 : Option Addr) (len0 cap0 : Nat) (z0 : List Int) (a1 : Option Addr) (len1 cap1 : Nat) (z1 : List RopV) (w : World) (w0 : IsRow .i64 w a0 len0 cap0 z0) (w1 : IsRops w a1 len1 cap1 z1) :
    Calls Try.prog 5 #[.slice a0 len0 cap0, .slice a1 len1 cap1] w fun e w' => e = .returned (.bool true) ∧ Below w.heap.size w w' := by
  obtain ⟨b, off, zs, hi, h0⟩ := w0.zs
  obtain ⟨_, b1, off1, hi1⟩ := w1
  have hlz := hi.length
  have hsm := hi.small
  have hsm1 := hi1.small
  unfold maxLen at hsm hsm1
  have HI := Lib.hid hi
  have HN := Lib.hid h0
  have HL := Lib.hid hlz
  have H1 := Lib.hid hi1
  clear w0 hi h0 hlz hi1
  by_cases h30 : 30 < len0
  · go_enter Try.func5, Try.ntmps5
    go_wp2_with fail
    refine (alive_any _).mono ?_
    rintro e w2 ⟨rfl, hB2⟩
    have HB2 := Lib.hid hB2
    clear hB2
    go_wp2
    go_ret
    exact ⟨rfl, HB2.out⟩
  have hd1 : decide (30 < (len0 : Int)) = false := by simp; omega
  by_cases h60 : 60 < len1
  · have hd2 : decide (60 < (len1 : Int)) = true := by simp; omega
    go_enter Try.func5, Try.ntmps5
    go_wp2_with fail
    refine (alive_any _).mono ?_
    rintro e w2 ⟨rfl, hB2⟩
    have HB2 := Lib.hid hB2
    clear hB2
    go_wp2
    go_ret
    exact ⟨rfl, HB2.out⟩
  have hd2 : decide (60 < (len1 : Int)) = false := by simp; omega
  have hl30 : len0 ≤ 30 := by omega
  have hl60 : len1 ≤ 60 := by omega
  clear h30 h60 hsm hsm1
  go_enter Try.func5, Try.ntmps5
  go_wp2_with fail
  refine (alive_any _).mono ?_
  rintro e w2 ⟨rfl, hB2⟩
  have HB2 := Lib.hid hB2
  have HNw := Lib.hid (new_any (cap := cap0) ((HI.out.kept hB2 (Nat.le_refl _)).mono hB2.size) HN.out)
  have z2 := hB2.size
  clear hB2
  go_wp2_with fail
  refine HNw.out.mono ?_
  rintro e w3 ⟨hB, hc⟩
  have HB3 := Lib.hid (HB2.out.trans (hB.mono z2))
  have z3 := HB3.out.size
  have z23 := hB.size
  have HNw2 := Lib.hid (new_any (cap := cap0) ((HI.out.kept HB3.out (Nat.le_refl _)).mono HB3.out.size) HN.out)
  clear hB HNw
  rcases hc with ⟨h1, rfl⟩ | ⟨hE0, g, nb, rfl, hG, hg, hn⟩
  · have hne : (newE zs == 0) = false := by simpa using h1
    have hne2 : (newE zs != 0) = true := by simp [bne, hne]
    have HNE := Lib.hid h1
    go_wp2_with fail
    refine HNw2.out.mono ?_
    rintro e w4 ⟨hB, hc⟩
    have HB4 := Lib.hid (HB3.out.trans (hB.mono z3))
    clear hB
    rcases hc with ⟨h1, rfl⟩ | ⟨h1, _⟩
    rotate_left
    · exact absurd h1 HNE.out
    generalize newE zs = v at *
    clear h1
    go_wp2
    go_ret
    exact ⟨rfl, HB4.out⟩
  have HG3 := Lib.hid hG
  have hgl := hG.lt
  have HE0 := Lib.hid hE0
  clear hG hE0
  go_wp2_with fail
  refine HNw2.out.mono ?_
  rintro e w4 ⟨hB, hc⟩
  rcases hc with ⟨h1, _⟩ | ⟨_, g', nb', rfl, hG', hg', hn'⟩
  · exact absurd HE0.out h1
  have HB4 := Lib.hid (HB3.out.trans (hB.mono z3))
  have HG4 := Lib.hid (HG3.out.below hB)
  have HG4' := Lib.hid hG'
  have h34 := hB.size
  have hgl' := hG'.lt
  have a1' : g ≠ nb' := by omega
  have a2' : nb ≠ nb' := by omega
  have a3' : g' ≠ nb := by omega
  have a4' : w.heap.size ≤ nb := by omega
  have a5' : w.heap.size ≤ nb' := by omega
  have z4 := HB4.out.size
  have A1 := Lib.hid a1'
  have A2 := Lib.hid a2'
  have A3 := Lib.hid a3'
  clear hB hG' hg' hn' hg hn HNw2 HB2 HB3 HG3 hgl hgl' a1' a2' a3' h34 z23 HE0
  go_wp2
  go_loopw [9, 46] (fun a i wr => ∃ (k : Nat) (al : Bool) (F F' : Nat → Nat → Int), i = .int .i64 k ∧ a = .bool al ∧ k ≤ len1 ∧ Hid (TwoR w g nb g' nb' zs z1 len1 k al F F' wr)) (fun _ i _ => len1 - (intOf i).toNat)
  case atStart =>
    refine ⟨0, true, noTab, noTab, rfl, rfl, Nat.zero_le _, Lib.hid ⟨HG4.out, HG4'.out, HB4.out, fun _ a b => ⟨rfl, ?_⟩⟩⟩
    rw [List.drop_of_length_le (by rw [H1.out.length]; omega)]; rfl
  case round =>
    clear HG4 HG4' HB4 z4
    obtain ⟨k, al, F, F', rfl, rfl, hk, HR⟩ := hrel
    have zr := HR.out.below.size
    by_cases hlt : k < len1
    · have hI := H1.out.kept HR.out.below (Nat.le_refl _)
      obtain rfl : a1 = some ⟨b1, off1, none⟩ := hI.addr.resolve_left (by omega)
      obtain ⟨o, ho⟩ : ∃ o, z1[k]? = some o := ⟨z1[k]'(by rw [hI.length]; exact hlt), List.getElem?_eq_getElem _⟩
      obtain ⟨o', ho'⟩ : ∃ o', z1[len1 - 1 - k]? = some o' := ⟨z1[len1 - 1 - k]'(by rw [hI.length]; omega), List.getElem?_eq_getElem _⟩
      obtain ⟨c0, c1, c2⟩ := hI.cell k o ho
      obtain ⟨d0, d1, d2⟩ := hI.cell (len1 - 1 - k) o' ho'
      have HO := Lib.hid ho
      have HO' := Lib.hid ho'
      obtain ⟨oa, ob, ow⟩ := o
      obtain ⟨pa, pb, pw⟩ := o'
      simp only at c0 c1 c2 d0 d1 d2
      obtain ⟨j, hj⟩ : ∃ j, len1 - 1 - k = j := ⟨_, rfl⟩
      rw [hj] at d0 d1 d2
      have hjl : j < len1 := by omega
      have hwr1 : IntKind.i64.wrap ((len1 : Int) - 1) = (len1 : Int) - 1 := IntWalk.i64_in _ ⟨by omega, by omega⟩
      have hwr2 : IntKind.i64.wrap ((len1 : Int) - 1 - (k : Int)) = (j : Int) := by rw [IntWalk.i64_in _ ⟨by omega, by omega⟩]; omega
      have hbw : b1 < w.heap.size := hI.below.resolve_left (by omega)
      have hb1 : b1 < wr.heap.size := by omega
      have hb2 : b1 < wr.heap.size + 1 := by omega
      have hb3 : b1 ≠ wr.heap.size := by omega
      have hb4 : b1 ≠ wr.heap.size + 1 := by omega
      clear hI ho ho'
      go_upto_region 13 with fail
      go_cut [11, 12] from 49 to 60 (fun s11 s12 wx => ∃ Bo Bx : Nat, s11 = .pointer (some ⟨Bo, 0, none⟩) ∧ s12 = .pointer (some ⟨Bx, 0, none⟩) ∧ Hid (wx.heap[Bo]? = some (.cells #[.int .i64 oa, .int .i64 ob, .int .i64 ow] 35 (0, 0))) ∧ Hid (wx.heap[Bx]? = some (.cells #[.int .i64 pa, .int .i64 pb, .int .i64 pw] 35 (0, 0))) ∧ Hid (Below wr.heap.size wr wx) ∧ wr.heap.size ≤ Bo ∧ wr.heap.size ≤ Bx)
      case first =>
        as_aux_lemma =>
          go_region
          · go_wp2_with fail
            go_meet
            exact ⟨wr.heap.size, wr.heap.size + 1, rfl, rfl, Lib.hid (heap_alloc (heap_new (w := wr) _ rfl) _), Lib.hid (heap_new (w := wr.alloc _) _ (by simp)), Lib.hid ((((Below.refl wr.heap.size wr).alloc (Nat.le_refl _) _).alloc (by simp) _).drew), Nat.le_refl _, Nat.le_succ _⟩
          · go_wp2_with fail
            go_meet
            exact ⟨wr.heap.size + 1, wr.heap.size, rfl, rfl, Lib.hid (heap_new (w := wr.alloc _) _ (by simp)), Lib.hid (heap_alloc (heap_new (w := wr) _ rfl) _), Lib.hid ((((Below.refl wr.heap.size wr).alloc (Nat.le_refl _) _).alloc (by simp) _).drew), Nat.le_succ _, Nat.le_refl _⟩
      case rest =>
        obtain ⟨Bo, Bx, rfl, rfl, HBo, HBx, HBc, hBo, hBx⟩ := hcut
        have hnbl := HR.out.one.lt
        have hnbl' := HR.out.two.lt
        have HGc := Lib.hid (HR.out.one.below HBc.out)
        have HGc' := Lib.hid (HR.out.two.below HBc.out)
        have HBw := Lib.hid (HR.out.below.trans (HBc.out.mono zr))
        obtain ⟨v1, hv1⟩ : ∃ v1, joinE len0 F oa ob ow = v1 := ⟨_, rfl⟩
        obtain ⟨v2, hv2⟩ : ∃ v2, joinE len0 F' pb pa pw = v2 := ⟨_, rfl⟩
        obtain ⟨F1, hF1⟩ : ∃ F1, joinF len0 F oa ob ow = F1 := ⟨_, rfl⟩
        obtain ⟨F1', hF1'⟩ : ∃ F1', joinF len0 F' pb pa pw = F1' := ⟨_, rfl⟩
        have HEQ : Hid ((al = true ∧ v1 = 0 ∧ v2 = 0) → ∀ a b, F1 a b = tot (z1.take (k + 1)) a b ∧ F1' a b = tot (z1.drop (len1 - (k + 1))) a b) := Lib.hid (by
          rintro ⟨ha, rfl, rfl⟩ a b
          obtain ⟨e1, e2⟩ := HR.out.eq ha a b
          have t1 := HR.out.one.tab
          have t2 := HR.out.two.tab
          rw [HL.out] at t1 t2
          refine ⟨?_, ?_⟩
          · rw [← hF1, join_add t1 hv1, e1, tot_take HO.out]
          · rw [← hF1', join_add t2 hv2, e2, cb_swap, show len1 - (k + 1) = len1 - 1 - k by omega, tot_drop HO'.out, show len1 - 1 - k + 1 = len1 - k by omega])
        have HJ1 : Hid (∀ W, Turned (fun _ => False) wc W → Calls Try.prog 10 #[.pointer (some ⟨g, 0, none⟩), .int .i64 oa, .int .i64 ob, .int .i64 ow] W (fun e w' => e = .returned (.int .i64 v1) ∧ IsG w' g nb zs F1 ∧ IsG w' g' nb' zs F' ∧ Turned (fun c => c = nb) W w')) := Lib.hid (fun W hW => by
          refine (join_lit (HGc.out.calm hW) HL.out oa ob ow hv1 hF1).mono ?_
          rintro e w' ⟨rfl, h1, h2⟩
          exact ⟨rfl, h1, (HGc'.out.calm hW).other h2 A3.out (Ne.symm A2.out) (HGc.out.calm hW), h2⟩)
        have HJ2 : Hid (∀ W, IsG W g nb zs F1 → IsG W g' nb' zs F' → Calls Try.prog 10 #[.pointer (some ⟨g', 0, none⟩), .int .i64 pb, .int .i64 pa, .int .i64 pw] W (fun e w' => e = .returned (.int .i64 v2) ∧ IsG w' g nb zs F1 ∧ IsG w' g' nb' zs F1' ∧ Turned (fun c => c = nb') W w')) := Lib.hid (fun W h h' => by
          refine (join_lit h' HL.out pb pa pw hv2 hF1').mono ?_
          rintro e w' ⟨rfl, h1, h2⟩
          exact ⟨rfl, h.other h2 A1.out A2.out h', h1, h2⟩)
        have hx1 : ¬ (Bo = nb ∨ Bo = nb') := by omega
        have hx2 : ¬ (Bx = nb ∨ Bx = nb') := by omega
        have s0 : ∀ W, Turned (fun c => c = nb ∨ c = nb') wc W → W.cell? ⟨Bo, 0, none⟩ = some (.int .i64 oa) := fun W hW => heap_cell (hW.old HBo.out hx1) rfl
        have s1 : ∀ W, Turned (fun c => c = nb ∨ c = nb') wc W → W.cell? ⟨Bo, 1, none⟩ = some (.int .i64 ob) := fun W hW => heap_cell (hW.old HBo.out hx1) rfl
        have s2 : ∀ W, Turned (fun c => c = nb ∨ c = nb') wc W → W.cell? ⟨Bo, 2, none⟩ = some (.int .i64 ow) := fun W hW => heap_cell (hW.old HBo.out hx1) rfl
        have s3 : ∀ W, Turned (fun c => c = nb ∨ c = nb') wc W → W.cell? ⟨Bx, 0, none⟩ = some (.int .i64 pa) := fun W hW => heap_cell (hW.old HBx.out hx2) rfl
        have s4 : ∀ W, Turned (fun c => c = nb ∨ c = nb') wc W → W.cell? ⟨Bx, 1, none⟩ = some (.int .i64 pb) := fun W hW => heap_cell (hW.old HBx.out hx2) rfl
        have s5 : ∀ W, Turned (fun c => c = nb ∨ c = nb') wc W → W.cell? ⟨Bx, 2, none⟩ = some (.int .i64 pw) := fun W hW => heap_cell (hW.old HBx.out hx2) rfl
        clear c0 c1 c2 d0 d1 d2 hv1 hv2 hF1 hF1' hwr1 hwr2 hb1 hb2 hb3 hb4 hbw
        go_upto_region 14 with fail
        go_region_held3 (fun W => Turned (fun c => c = nb ∨ c = nb') wc W) (first | exact Turned.refl _ _ | exact Turned.drewN _ _ 1 | exact HS6.out | exact HS6.out.trans (Turned.drewN _ _ 1) | exact HS5.out | exact HS5.out.trans (Turned.drewN _ _ 1)) (first
          | (go_at_call 10; refine (HJ1.out _ (by first | exact Turned.refl _ _ | exact Turned.drewN _ _ 1)).mono ?_; clear HJ1; rintro e w5 ⟨rfl, hG5, hG5', hT5⟩; have HS5 := Lib.hid (show Turned (fun c => c = nb ∨ c = nb') wc w5 by first | exact hT5.weak (fun _ _ e => .inl e) | exact (Turned.drewN _ _ 1).trans (hT5.weak (fun _ _ e => .inl e))); have HG5 := Lib.hid hG5; have HG5' := Lib.hid hG5'; clear hG5 hG5' hT5)
          | (go_at_call 10; refine (HJ2.out _ (by first | exact HG5.out | exact HG5.out.calm (Turned.drewN _ _ 1)) (by first | exact HG5'.out | exact HG5'.out.calm (Turned.drewN _ _ 1))).mono ?_; rintro e w6 ⟨rfl, hG6, hG6', hT6⟩; have HS6 := Lib.hid (show Turned (fun c => c = nb ∨ c = nb') wc w6 by first | exact HS5.out.trans (hT6.weak (fun _ _ e => .inr e)) | exact (HS5.out.trans (Turned.drewN _ _ 1)).trans (hT6.weak (fun _ _ e => .inr e))); have HG6 := Lib.hid hG6; have HG6' := Lib.hid hG6'; clear hG6 hG6' hT6))
        have HB6 := Lib.hid (below_turned HBw.out HS6.out (fun i hi e => by omega) HBw.out.size)
        clear s0 s1 s2 s3 s4 s5 HJ2 HS5 HG5 HG5' HGc HGc'
        cases al with
        | false =>
          go_wp2
          go_roundw
          case rel => exact ⟨k + 1, false, F1, F1', by go_num, rfl, by omega, Lib.hid ⟨HG6.out, HG6'.out, HB6.out, fun e => by cases e⟩⟩
          case measure => simp [intOf]; omega
        | true =>
          by_cases hz1 : v1 = 0
          · subst hz1
            by_cases hz2 : v2 = 0
            · subst hz2
              go_wp2
              go_roundw
              case rel => exact ⟨k + 1, true, F1, F1', by go_num, rfl, by omega, Lib.hid ⟨HG6.out, HG6'.out, HB6.out, fun _ => HEQ.out ⟨rfl, rfl, rfl⟩⟩⟩
              case measure => simp [intOf]; omega
            · have hb2 : (v2 == 0) = false := by simpa using hz2
              go_wp2
              go_roundw
              case rel => exact ⟨k + 1, false, F1, F1', by go_num, rfl, by omega, Lib.hid ⟨HG6.out, HG6'.out, HB6.out, fun e => by cases e⟩⟩
              case measure => simp [intOf]; omega
          · have hb1 : (v1 == 0) = false := by simpa using hz1
            go_wp2
            go_roundw
            case rel => exact ⟨k + 1, false, F1, F1', by go_num, rfl, by omega, Lib.hid ⟨HG6.out, HG6'.out, HB6.out, fun e => by cases e⟩⟩
            case measure => simp [intOf]; omega
    · cases al with
      | false =>
        have HBf := Lib.hid HR.out.below
        clear HR
        go_wp2
        go_ret
        exact ⟨rfl, HBf.out⟩
      | true =>
        have hFF : F' = F := by
          funext a b
          obtain ⟨e1, e2⟩ := HR.out.eq rfl a b
          rw [e1, e2, show k = len1 by omega, List.take_of_length_le (by rw [H1.out.length]; exact Nat.le_refl _), Nat.sub_self, List.drop_zero]
        subst hFF
        have HGa := Lib.hid HR.out.one
        have HGa' := Lib.hid HR.out.two
        have HBa := Lib.hid HR.out.below
        clear HR
        as_aux_lemma =>
        go_wp2
        go_loopw [91] (fun i wx => ∃ (k2 : Nat), i = .int .i64 k2 ∧ k2 ≤ len0 ∧ Hid (IsG wx g nb zs F') ∧ Hid (IsG wx g' nb' zs F') ∧ Hid (Below w.heap.size w wx)) (fun i _ => len0 - (intOf i).toNat)
        case atStart => exact ⟨0, rfl, Nat.zero_le _, HGa, HGa', HBa⟩
        case round =>
          clear HGa HGa' HBa zr
          obtain ⟨k2, rfl, hk2, HG, HG', HB⟩ := hrel
          have z0 := HB.out.size
          by_cases hlt2 : k2 < len0
          · obtain ⟨dv, hdv⟩ : ∃ dv, vals (nearD len0 F' (k2 : Int)) = dv := ⟨_, rfl⟩
            have HDV := Lib.hid hdv
            obtain ⟨L, hL⟩ : ∃ L, nearE len0 F' (k2 : Int) = L := ⟨_, rfl⟩
            have hLl : L.length ≤ 30 := by rw [← hL]; unfold nearE; rw [List.length_map]; exact Nat.le_trans (nearD_length _ _ _) hl30
            have HLL := Lib.hid hL
            clear hdv hL
            go_wp2_with fail
            refine (rnear_any HG.out k2).mono ?_
            rintro e w5 ⟨v5, rfl, hg5, hb⟩
            rw [HL.out, HLL.out] at hg5
            obtain ⟨a5, c5, b5, rfl, hc5, _, hI5⟩ := Gath.itsAt hg5 rfl
            have HI5 := Lib.hid hI5
            have HB5 := Lib.hid (HB.out.trans (hb.mono z0))
            have HG5 := Lib.hid (HG.out.below hb)
            have HG5' := Lib.hid (HG'.out.below hb)
            have z5 := HB5.out.size
            clear hg5 hb hI5
            go_wp2_with fail
            refine (rnear_any HG5'.out k2).mono ?_
            rintro e w6 ⟨v6, rfl, hg6, hb⟩
            rw [HL.out, HLL.out] at hg6
            obtain ⟨a6, c6, b6, rfl, hc6, _, hI6⟩ := Gath.itsAt hg6 rfl
            have HI6 := Lib.hid hI6
            have HB6 := Lib.hid (HB5.out.trans (hb.mono z5))
            have HG6 := Lib.hid (HG5.out.below hb)
            have HG6' := Lib.hid (HG5'.out.below hb)
            have HI56 := Lib.hid ((HI5.out.kept hb (Nat.le_refl _)).mono hb.size)
            have z6 := HB6.out.size
            clear hg6 hb hI6
            have hsm := same_any (cap := c5) (cap' := c6) HI56.out HI6.out (by omega) (by omega) (Nat.le_refl _)
            simp only [decide_true] at hsm
            have HSM := Lib.hid hsm
            clear hsm
            go_wp2_with fail
            refine HSM.out.mono ?_
            rintro e w7 ⟨rfl, hb⟩
            have HB7 := Lib.hid (HB6.out.trans (hb.mono z6))
            have HG7 := Lib.hid (HG6.out.below hb)
            have HG7' := Lib.hid (HG6'.out.below hb)
            have z7 := HB7.out.size
            clear hb HSM
            go_wp2_with fail
            refine (degree_lit HG7.out HL.out k2 HDV.out).mono ?_
            rintro e w8 ⟨rfl, hb⟩
            have HB8 := Lib.hid (HB7.out.trans (hb.mono z7))
            have HG8 := Lib.hid (HG7.out.below hb)
            have HG8' := Lib.hid (HG7'.out.below hb)
            have z8 := HB8.out.size
            clear hb
            go_wp2_with fail
            refine (degree_lit HG8'.out HL.out k2 HDV.out).mono ?_
            rintro e w9 ⟨rfl, hb⟩
            have HB9 := Lib.hid (HB8.out.trans (hb.mono z8))
            have HG9 := Lib.hid (HG8.out.below hb)
            have HG9' := Lib.hid (HG8'.out.below hb)
            have hne : (dv != dv) = false := by simp
            clear hb
            go_wp2
            go_roundw
            case rel => exact ⟨k2 + 1, by go_num, by omega, HG9, HG9', HB9⟩
            case measure => simp [intOf]; omega
          · obtain ⟨L, hL⟩ : ∃ L, (edgesD len0 F').take 10000 = L := ⟨_, rfl⟩
            have hLl : L.length ≤ 10000 := by rw [← hL, List.length_take]; omega
            have HLL := Lib.hid hL
            clear hL
            go_wp2_with fail
            refine (edges_any 10000 HG.out (by decide) (by decide)).mono ?_
            rintro e w5 ⟨v5, rfl, hg5, hb⟩
            rw [HL.out, HLL.out] at hg5
            obtain ⟨a5, c5, b5, rfl, hc5, _, hI5⟩ := Gath.itsAt hg5 rfl
            have HI5 := Lib.hid hI5
            have HB5 := Lib.hid (HB.out.trans (hb.mono z0))
            have HG5 := Lib.hid (HG.out.below hb)
            have HG5' := Lib.hid (HG'.out.below hb)
            have z5 := HB5.out.size
            clear hg5 hb hI5
            go_wp2_with fail
            refine (edges_any 10000 HG5'.out (by decide) (by decide)).mono ?_
            rintro e w6 ⟨v6, rfl, hg6, hb⟩
            rw [HL.out, HLL.out] at hg6
            obtain ⟨a6, c6, b6, rfl, hc6, _, hI6⟩ := Gath.itsAt hg6 rfl
            have HI6 := Lib.hid hI6
            have HB6 := Lib.hid (HB5.out.trans (hb.mono z5))
            have HG6 := Lib.hid (HG5.out.below hb)
            have HG6' := Lib.hid (HG5'.out.below hb)
            have HI56 := Lib.hid ((HI5.out.kept hb (Nat.le_refl _)).mono hb.size)
            have z6 := HB6.out.size
            clear hg6 hb hI6
            have hsm := same_any (cap := c5) (cap' := c6) HI56.out HI6.out (by omega) (by omega) (Nat.le_refl _)
            simp only [decide_true] at hsm
            have HSM := Lib.hid hsm
            clear hsm
            go_wp2_with fail
            refine HSM.out.mono ?_
            rintro e w7 ⟨rfl, hb⟩
            have HB7 := Lib.hid (HB6.out.trans (hb.mono z6))
            have HG7 := Lib.hid (HG6.out.below hb)
            have HG7' := Lib.hid (HG6'.out.below hb)
            clear hb HSM
            obtain ⟨sv, hsv⟩ : ∃ sv, zs.sum = sv := ⟨_, rfl⟩
            have HSV := Lib.hid hsv
            clear hsv
            go_wp2_with fail
            refine (total_lit HG7.out HSV.out).mono ?_
            rintro e _ ⟨rfl, rfl⟩
            go_wp2_with fail
            refine (total_lit HG7'.out HSV.out).mono ?_
            rintro e _ ⟨rfl, rfl⟩
            go_wp2
            go_ret
            exact ⟨by simp, HB7.out⟩
end Go.Proofs.Ytpogkfkcfmlleaa
