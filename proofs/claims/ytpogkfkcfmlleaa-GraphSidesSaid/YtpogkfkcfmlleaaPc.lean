/- The walk of GraphSides. -/
import Derived.Test.YtpogkfkcfmlleaaPb
set_option linter.unusedVariables false
set_option linter.unusedSectionVars false
namespace Go.Proofs.Ytpogkfkcfmlleaa
open Go.RowKit Rk

set_option maxRecDepth 100000 in
set_option maxHeartbeats 8000000 in
theorem walk_GraphSides (a0 : Option Addr) (len0 cap0 : Nat) (z0 : List Int) (a1 : Option Addr) (len1 cap1 : Nat) (z1 : List RopV) (w : World) (w0 : IsRow .i64 w a0 len0 cap0 z0) (w1 : IsRops w a1 len1 cap1 z1) :
    Calls Try.prog 4 #[.slice a0 len0 cap0, .slice a1 len1 cap1] w fun e w' => e = .returned (.bool true) ∧ Below w.heap.size w w' := by
  obtain ⟨b, off, zs, hi, h0⟩ := w0.zs
  obtain ⟨_, b1, off1, hi1⟩ := w1
  have hlz := hi.length
  have hsm := hi.small
  have hsm1 := hi1.small
  unfold maxLen at hsm hsm1
  have HI := Lib.hid hi
  have HN := Lib.hid h0
  have HL := Lib.hid hlz
  have H1 := Lib.hid hi1
  clear w0 hi h0 hlz hi1
  by_cases h30 : 30 < len0
  · go_enter Try.func4, Try.ntmps4
    go_wp2_with fail
    refine (alive_any _).mono ?_
    rintro e w2 ⟨rfl, hB2⟩
    have HB2 := Lib.hid hB2
    clear hB2
    go_wp2
    go_ret
    exact ⟨rfl, HB2.out⟩
  have hd1 : decide (30 < (len0 : Int)) = false := by simp; omega
  by_cases h60 : 60 < len1
  · have hd2 : decide (60 < (len1 : Int)) = true := by simp; omega
    go_enter Try.func4, Try.ntmps4
    go_wp2_with fail
    refine (alive_any _).mono ?_
    rintro e w2 ⟨rfl, hB2⟩
    have HB2 := Lib.hid hB2
    clear hB2
    go_wp2
    go_ret
    exact ⟨rfl, HB2.out⟩
  have hd2 : decide (60 < (len1 : Int)) = false := by simp; omega
  have hl30 : len0 ≤ 30 := by omega
  have hl60 : len1 ≤ 60 := by omega
  clear h30 h60 hsm hsm1
  go_enter Try.func4, Try.ntmps4
  go_wp2_with fail
  refine (alive_any _).mono ?_
  rintro e w2 ⟨rfl, hB2⟩
  have HB2 := Lib.hid hB2
  have HNw := Lib.hid (new_any (cap := cap0) ((HI.out.kept hB2 (Nat.le_refl _)).mono hB2.size) HN.out)
  have z2 := hB2.size
  clear hB2
  go_wp2_with fail
  refine HNw.out.mono ?_
  rintro e w3 ⟨hB, hc⟩
  have HB3 := Lib.hid (HB2.out.trans (hB.mono z2))
  have z3 := HB3.out.size
  clear hB
  rcases hc with ⟨h1, rfl⟩ | ⟨_, g, nb, rfl, hG, hg, hn⟩
  · have hne : (newE zs == 0) = false := by simpa using h1
    have hne2 : (newE zs != 0) = true := by simp [bne, hne]
    generalize newE zs = v at *
    clear h1
    go_wp2
    go_ret
    exact ⟨rfl, HB3.out⟩
  have HG3 := Lib.hid hG
  have hnb : w.heap.size ≤ nb := by omega
  clear hG hg hn HNw HB2
  go_wp2
  go_loopw [38] (fun i wr => ∃ (k : Nat) (F : Nat → Nat → Int), i = .int .i64 k ∧ k ≤ len1 ∧ Hid (IsG wr g nb zs F) ∧ Hid (Below w.heap.size w wr)) (fun i _ => len1 - (intOf i).toNat)
  case atStart => exact ⟨0, noTab, rfl, Nat.zero_le _, HG3, HB3⟩
  case round =>
    clear HG3 HB3
    obtain ⟨k, F, rfl, hk, HG, HB⟩ := hrel
    have zr := HB.out.size
    by_cases hlt : k < len1
    · as_aux_lemma =>
      have hI := H1.out.kept HB.out (Nat.le_refl _)
      obtain rfl : a1 = some ⟨b1, off1, none⟩ := hI.addr.resolve_left (by omega)
      obtain ⟨o, ho⟩ : ∃ o, z1[k]? = some o := ⟨z1[k]'(by rw [hI.length]; exact hlt), List.getElem?_eq_getElem _⟩
      obtain ⟨c0, c1, c2⟩ := hI.cell k o ho
      obtain ⟨oa, ob, ow⟩ := o
      simp only at c0 c1 c2
      have hal := (Below.refl wr.heap.size wr).alloc (Nat.le_refl _) (.cells #[.int .i64 oa, .int .i64 ob, .int .i64 ow] 35)
      have HG5 := Lib.hid (HG.out.below hal)
      have HB5 := Lib.hid (HB.out.trans (hal.mono zr))
      have hop : (wr.alloc (.cells #[.int .i64 oa, .int .i64 ob, .int .i64 ow] 35)).heap[wr.heap.size]? = some (.cells #[.int .i64 oa, .int .i64 ob, .int .i64 ow] 35 (0, 0)) := heap_new (w := wr) _ rfl
      have HOP := Lib.hid hop
      have hgl := HG.out.lt
      clear hI ho hal hop
      go_wp2_with fail
      clear c0 c1 c2
      generalize wr.alloc (.cells #[.int .i64 oa, .int .i64 ob, .int .i64 ow] 35) = w5 at *
      generalize hob : wr.heap.size = ob5 at *
      have z5 := HB5.out.size
      obtain ⟨y, hy⟩ : ∃ y, btw len0 F oa ob = y := ⟨_, rfl⟩
      have HY := Lib.hid hy
      have hyb := btw_bd HG5.out.tab oa ob
      rw [HL.out, hy] at hyb
      have HSY := Lib.hid (btw_sym HG5.out.tab oa ob)
      rw [HL.out] at HSY
      clear hy
      refine (between_lit HG5.out HL.out oa ob HY.out).mono ?_
      rintro e w6 ⟨rfl, ht⟩
      have HG6 := Lib.hid (HG5.out.calm ht)
      have HB6 := Lib.hid (below_turned HB5.out ht (fun i hi e => e) z5)
      have HOP6 := Lib.hid (ht.old HOP.out id)
      have z6 := HB6.out.size
      clear ht
      have e0 : w6.cell? ⟨ob5, 0, none⟩ = some (.int .i64 oa) := heap_cell HOP6.out rfl
      have e1 : w6.cell? ⟨ob5, 1, none⟩ = some (.int .i64 ob) := heap_cell HOP6.out rfl
      have e2 : w6.cell? ⟨ob5, 2, none⟩ = some (.int .i64 ow) := heap_cell HOP6.out rfl
      obtain ⟨v, hv⟩ : ∃ v, joinE len0 F oa ob ow = v := ⟨_, rfl⟩
      obtain ⟨F7, hF7⟩ : ∃ F7, joinF len0 F oa ob ow = F7 := ⟨_, rfl⟩
      have HV := Lib.hid hv
      have HF7 := Lib.hid hF7
      clear hv hF7
      go_wp2_with fail
      refine (join_lit HG6.out HL.out oa ob ow HV.out HF7.out).mono ?_
      rintro e w7 ⟨rfl, hG, ht⟩
      have HG7 := Lib.hid hG
      have HB7 := Lib.hid (below_turned HB6.out ht (fun i hi e => by omega) z6)
      have HOP7 := Lib.hid (ht.old HOP6.out (by omega))
      have z7 := HB7.out.size
      have HS7 := Lib.hid (btw_sym HG7.out.tab oa ob)
      rw [HL.out] at HS7
      clear hG ht e0 e1 e2
      have e0 : w7.cell? ⟨ob5, 0, none⟩ = some (.int .i64 oa) := heap_cell HOP7.out rfl
      have e1 : w7.cell? ⟨ob5, 1, none⟩ = some (.int .i64 ob) := heap_cell HOP7.out rfl
      have e2 : w7.cell? ⟨ob5, 2, none⟩ = some (.int .i64 ow) := heap_cell HOP7.out rfl
      obtain ⟨y7, hy7⟩ : ∃ y7, btw len0 F7 oa ob = y7 := ⟨_, rfl⟩
      have HY7 := Lib.hid hy7
      have HY8 : Hid (btw len0 F7 ob oa = y7) := Lib.hid (by rw [← HS7.out]; exact hy7)
      clear hy7
      go_wp2_with fail
      refine (between_lit HG7.out HL.out oa ob HY7.out).mono ?_
      rintro e w8 ⟨rfl, ht⟩
      have HG8 := Lib.hid (HG7.out.calm ht)
      have HB8 := Lib.hid (below_turned HB7.out ht (fun i hi e => e) z7)
      have HOP8 := Lib.hid (ht.old HOP7.out id)
      have z8 := HB8.out.size
      clear ht e0 e1 e2
      have e0 : w8.cell? ⟨ob5, 0, none⟩ = some (.int .i64 oa) := heap_cell HOP8.out rfl
      have e1 : w8.cell? ⟨ob5, 1, none⟩ = some (.int .i64 ob) := heap_cell HOP8.out rfl
      have e2 : w8.cell? ⟨ob5, 2, none⟩ = some (.int .i64 ow) := heap_cell HOP8.out rfl
      by_cases hv0 : v = 0
      · subst hv0
        obtain ⟨hm, hj⟩ := btw_join HV.out
        rw [HF7.out, HY7.out, HY.out] at hj
        have hmb := may_t hm
        have hw : IntKind.i64.wrap (y + ow) = y7 := by rw [← hj]; exact IntWalk.i64_in _ ⟨by omega, by omega⟩
        have hw2 : wrap64 (y + ow) = y7 := by rw [← hj]; exact IntWalk.wrap64_in _ ⟨by omega, by omega⟩
        have hne : (y7 != y7) = false := by simp
        clear hm hj hmb
        go_wp2_with fail
        refine (between_lit HG8.out HL.out ob oa HY8.out).mono ?_
        rintro e w9 ⟨rfl, ht⟩
        have HG9 := Lib.hid (HG8.out.calm ht)
        have HB9 := Lib.hid (below_turned HB8.out ht (fun i hi e => e) z8)
        clear ht
        go_wp2
        go_roundw
        case rel => exact ⟨k + 1, F7, by go_num, by omega, HG9, HB9⟩
        case measure => simp [intOf]; omega
      · have hF : F7 = F := by rw [← HF7.out]; exact joinF_no HV.out hv0
        subst hF
        obtain rfl : y7 = y := by rw [← HY7.out, HY.out]
        have d1 : (v == 0) = false := by simpa using hv0
        have d2 : (v != 0) = true := by simp [bne, d1]
        have hne : (y7 != y7) = false := by simp
        go_wp2_with fail
        refine (between_lit HG8.out HL.out ob oa HY8.out).mono ?_
        rintro e w9 ⟨rfl, ht⟩
        have HG9 := Lib.hid (HG8.out.calm ht)
        have HB9 := Lib.hid (below_turned HB8.out ht (fun i hi e => e) z8)
        clear ht
        go_wp2
        go_roundw
        case rel => exact ⟨k + 1, F7, by go_num, by omega, HG9, HB9⟩
        case measure => simp [intOf]; omega
    · as_aux_lemma =>
      have hTab := HG.out.tab
      rw [HL.out] at hTab
      have HT := Lib.hid hTab
      clear hTab
      go_wp2
      go_loopw [12, 94] (fun d i wx => ∃ (k2 : Nat) (s : Int), i = .int .i64 k2 ∧ d = .int .i64 s ∧ k2 ≤ len0 ∧ 0 ≤ s ∧ s ≤ 32985348833280 * (k2 : Int) ∧ Hid (s = sumTo k2 (fun a => vals (nearD len0 F (a : Int)))) ∧ Hid (IsG wx g nb zs F) ∧ Hid (Below w.heap.size w wx)) (fun _ i _ => len0 - (intOf i).toNat)
      case atStart => exact ⟨0, 0, rfl, rfl, Nat.zero_le _, by omega, by omega, Lib.hid rfl, HG, HB⟩
      case round =>
        clear HG HB zr
        obtain ⟨k2, s, rfl, rfl, hk2, hs0, hs1, HS, HG, HB⟩ := hrel
        have zr2 := HB.out.size
        by_cases hlt2 : k2 < len0
        · obtain ⟨dv, hdv⟩ : ∃ dv, vals (nearD len0 F (k2 : Int)) = dv := ⟨_, rfl⟩
          have hvb := vals_near_bd HT.out hlt2
          rw [hdv] at hvb
          have HDV := Lib.hid hdv
          have hvb2 : 0 ≤ dv ∧ dv ≤ 32985348833280 := by omega
          clear hdv hvb
          go_wp2_with fail
          refine (degree_lit HG.out HL.out k2 HDV.out).mono ?_
          rintro e wy ⟨rfl, hb⟩
          have HG9 := Lib.hid (HG.out.below hb)
          have HB9 := Lib.hid (HB.out.trans (hb.mono zr2))
          clear hb
          go_wp2
          go_roundw
          case rel => exact ⟨k2 + 1, s + dv, by go_num, by go_num, by omega, by omega, by omega, Lib.hid (by rw [HS.out, ← HDV.out]; rfl), HG9, HB9⟩
          case measure => simp [intOf]; omega
        · obtain rfl : k2 = len0 := by omega
          have hEl := edgesD_length F hl30
          have HED := Lib.hid (degrees_edges HT.out)
          rw [← HS.out] at HED
          have hsp := HB.out.size
          go_wp2_with fail
          refine (edges_any 10000 HG.out (by decide) (by decide)).mono ?_
          rintro e wy ⟨v, rfl, hgv, hb⟩
          rw [HL.out, List.take_of_length_le (by omega)] at hgv
          obtain ⟨ae, ce, be, rfl, hce, _, hIt⟩ := Gath.itsAt hgv rfl
          have HB9 := Lib.hid (HB.out.trans (hb.mono zr2))
          have HIt := Lib.hid hIt
          have hzy := HB9.out.size
          clear hb hgv hIt HG HB hsp
          obtain ⟨L, hL⟩ : ∃ L, edgesD k2 F = L := ⟨_, rfl⟩
          have HLL := Lib.hid hL
          rw [hL] at hEl HED hce HIt
          rw [hL]
          clear hL
          obtain ⟨m, hm⟩ : ∃ m, L.length = m := ⟨_, rfl⟩
          have HM := Lib.hid hm
          rw [hm] at hEl hce HIt
          rw [hm]
          clear hm
          go_wp2
          go_loopw [13, 106] (fun d i wz => ∃ (k3 : Nat) (t : Int), i = .int .i64 k3 ∧ d = .int .i64 t ∧ k3 ≤ m ∧ 0 ≤ t ∧ t ≤ 1099511627776 * (k3 : Int) ∧ Hid (t = esum (L.take k3)) ∧ Hid (Below wy.heap.size wy wz)) (fun _ i _ => m - (intOf i).toNat)
          case atStart => exact ⟨0, 0, rfl, rfl, Nat.zero_le _, by omega, by omega, Lib.hid rfl, Lib.hid (Below.refl _ _)⟩
          case round =>
            obtain ⟨k3, t, rfl, rfl, hk3, ht0, ht1, HTk, HBz⟩ := hrel
            have hzz := HBz.out.size
            by_cases hlt3 : k3 < m
            · have hI := HIt.out.kept HBz.out (Nat.le_refl _)
              obtain rfl : ae = some ⟨be, 0, none⟩ := hI.addr.resolve_left (by omega)
              obtain ⟨c0, c1, c2⟩ := hI.cell k3 hlt3
              obtain ⟨ea, eb, hab, hw0, hw1, hx⟩ := edge_at HT.out (k := k3) (by rw [HLL.out, HM.out]; exact hlt3)
              rw [HLL.out] at hx
              have HST := Lib.hid (esum_take (l := L) (k := k3) (by rw [HM.out]; exact hlt3))
              rw [hx] at c0 c1 c2 HST
              simp only at c0 c1 c2 HST
              obtain ⟨wt, hwt⟩ : ∃ wt, F ea eb = wt := ⟨_, rfl⟩
              rw [hwt] at c2 hw0 hw1 HST
              have d1 : decide ((eb : Int) ≤ (ea : Int)) = false := by simp; omega
              have d2 : decide (wt < 1) = false := by simp; omega
              have hal := (HBz.out).alloc hzz (.cells #[.int .i64 (ea : Int), .int .i64 (eb : Int), .int .i64 wt] 41)
              have HAL := Lib.hid hal
              clear hI hx hwt hal
              go_wp2
              go_roundw
              case rel => exact ⟨k3 + 1, t + wt, by go_num, by go_num, by omega, by omega, by omega, Lib.hid (by rw [HST.out, HTk.out]), HAL⟩
              case measure => simp [intOf]; omega
            · obtain rfl : k3 = m := by omega
              have hfin : s = 2 * t := by rw [HED.out, HTk.out, List.take_of_length_le (by rw [HM.out]; exact Nat.le_refl _)]
              have HBf := Lib.hid (HB9.out.trans (HBz.out.mono hzy))
              have hw1 : IntKind.i64.wrap (2 * t) = 2 * t := IntWalk.i64_in _ ⟨by omega, by omega⟩
              have hw2 : wrap64 (2 * t) = 2 * t := IntWalk.wrap64_in _ ⟨by omega, by omega⟩
              subst hfin
              clear HIt HTk HED HS
              go_wp2
              go_ret
              exact ⟨by simp, HBf.out⟩
end Go.Proofs.Ytpogkfkcfmlleaa
