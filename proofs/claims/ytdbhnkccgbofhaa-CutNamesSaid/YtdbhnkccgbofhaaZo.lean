/- The walk of CutNames. -/
import Derived.Test.YtdbhnkccgbofhaaZn
set_option linter.unusedVariables false
set_option linter.unusedSectionVars false
namespace Go.Proofs.Ytdbhnkccgbofhaa.L09
open Go.RowKit Rk

set_option maxRecDepth 100000 in
set_option maxHeartbeats 8000000 in
theorem walk_CutNames (a0 : Option Addr) (len0 cap0 : Nat) (z0 : List Int) (a1 : Option Addr) (len1 cap1 : Nat) (z1 : List RopV) (a2 : Option Addr) (len2 cap2 : Nat) (z2 : List Int) (a3 : Int) (w : World) (w0 : IsRow .i64 w a0 len0 cap0 z0) (w1 : IsRops w a1 len1 cap1 z1) (w2 : IsRow .i64 w a2 len2 cap2 z2) (w3 : (Lit.int .i64 a3).wf = true) :
    Calls Try.prog 5 #[.slice a0 len0 cap0, .slice a1 len1 cap1, .slice a2 len2 cap2, .int .i64 a3] w fun e w' => e = .returned (.bool true) ∧ Below w.heap.size w w' := by
  obtain ⟨b0, off0, zs, hi0, hn0⟩ := w0.zs
  obtain ⟨_, b1, off1, hi1⟩ := w1
  obtain ⟨b2, off2, ms, hi2, hn2⟩ := w2.zs
  have H0 := Lib.hid hi0
  have HN := Lib.hid hn0
  have H1 := Lib.hid hi1
  have H2 := Lib.hid hi2
  have HL0 := Lib.hid hi0.length
  have HL2 := Lib.hid hi2.length
  clear w0 w2 hi0 hn0 hi1 hi2 hn2 w3
  go_enter Try.func5, Try.ntmps5
  go_wp2_with fail
  refine (alive_any _).mono ?_
  rintro e x1 ⟨rfl, hB1⟩
  have HB1 := Lib.hid hB1
  have HBd := Lib.hid (build_any (cap0 := cap0) (cap1 := cap1) ((H0.out.kept hB1 (Nat.le_refl _)).mono hB1.size) HN.out ((H1.out.kept hB1 (Nat.le_refl _)).mono hB1.size))
  have z1s := hB1.size
  clear hB1
  go_wp2_with fail
  refine HBd.out.mono ?_
  rintro e x2 ⟨hB, hc⟩
  have HB2 := Lib.hid (HB1.out.trans (hB.mono z1s))
  clear hB HBd HB1
  rcases hc with ⟨_, rfl⟩ | ⟨⟨hl30, _⟩, g, nb, lo, Bx, X, rfl, hR, _, _⟩
  · have HB3 := Lib.hid (HB2.out.alloc HB2.out.size (.cells #[.slice none 0 0, .slice none 0 0] 29))
    go_wp2
    go_ret
    exact ⟨by simp, HB3.out⟩
  have hal := (Below.refl x2.heap.size x2).alloc (Nat.le_refl _) (.cells #[.slice X.wa zs.length X.wc, .slice X.ra zs.length X.rc] 29)
  have HR := Lib.hid (BdR.on ⟨hR.one, HB2.out⟩ hal)
  have HW := Lib.hid hR.one.wts
  have HT := Lib.hid hR.one.tab
  clear hR HB2 hal
  rw [HL0.out] at hl30
  generalize joins zs.length noTab z1 = F at *
  unfold XD.val
  by_cases hk : 60 < len2 ∨ 60 < a3
  · obtain ⟨y1, hy1⟩ : ∃ y, decide (60 < (len2 : Int)) = y := ⟨_, rfl⟩
    obtain ⟨y2, hy2⟩ : ∃ y, decide (60 < a3) = y := ⟨_, rfl⟩
    have hor : (y1 || y2) = true := by rw [← hy1, ← hy2]; simp; omega
    clear hk
    cases y1 <;> cases y2 <;> first
      | (simp at hor; done)
      | (go_wp2
         go_ret
         exact ⟨by simp, HR.out.below⟩)
  have d1 : decide (60 < (len2 : Int)) = false := by simp; omega
  have d2 : decide (60 < a3) = false := by simp; omega
  have hl260 : len2 ≤ 60 := by omega
  have ha3 : a3 ≤ 60 := by omega
  clear hk
  have CR := Lib.hid (cright_any (cap := cap2) HR.out.one ((H2.out.kept HR.out.below (Nat.le_refl _)).mono HR.out.below.size) (Nat.le_refl _) a3)
  go_upto_region 4 with fail
  revert HR CR
  generalize x2.alloc (.cells #[.slice X.wa zs.length X.wc, .slice X.ra zs.length X.rc] 29) = x3
  intro HR CR
  cases hr : rightP zs.length ms a3 with
  | false =>
    rw [hr] at CR
    clear hr
    go_wp2_with fail
    refine CR.out.mono ?_
    rintro e x4 ⟨rfl, hb⟩
    have HB4 := Lib.hid (HR.out.on hb).below
    clear hb
    go_wp2
    go_ret
    exact ⟨by simp, HB4.out⟩
  | true =>
    rw [hr] at CR
    have hrt := rightP_t hr
    have HRP := Lib.hid hr
    have HRT := Lib.hid hrt
    obtain ⟨kk, rfl⟩ : ∃ kk : Nat, a3 = (kk : Int) := ⟨a3.toNat, by omega⟩
    have hkk1 : 1 ≤ kk := by omega
    have hkk : kk ≤ 60 := by omega
    have HLn : Hid (len2 = zs.length) := Lib.hid (by rw [← HL2.out]; exact hrt.1)
    have HSum := Lib.hid (wtsT_all hrt.1 hrt.2.2)
    have HSb := Lib.hid (fun p => wtsT_bd ms HW.out zs.length (Nat.le_refl _) p)
    clear hr hrt
    go_wp2_with fail
    refine CR.out.mono ?_
    rintro e x4 ⟨rfl, hb⟩
    have HR4 := Lib.hid (HR.out.on hb)
    clear hb CR
    obtain ⟨n0, hi, hz0, hz1, hz2⟩ := info_parts Try.infoInt
    have HI := Lib.hid hi
    have HZ0 := Lib.hid hz0
    have HZ1 := Lib.hid hz1
    have HZ2 := Lib.hid hz2
    have hal := ((Below.refl x4.heap.size x4).alloc (Nat.le_refl _) (.cells #[] 3)).alloc (by simp) (.cells #[] 3)
    have HR5 := Lib.hid (HR4.out.on hal)
    clear hi hz0 hz1 hz2 hal
    go_upto_region 7 with fail
    generalize (x4.alloc (.cells #[] 3)).alloc (.cells #[] 3) = x5 at *
    have z5 := HR5.out.below.size
    go_wp2
    go_loopw [12, 13, 50] (fun tv uv i wr => ∃ (j : Nat) (bt bo : Option Nat), j ≤ len2 ∧ i = .int .i64 j ∧ Hid (TwR x5 x5.heap.size ((ms.take j).map (fun p => (kk : Int) - 1 - p)) ((ms.take j).map (fun p => p / 2)) tv uv bt bo wr)) (fun _ _ i _ => len2 - (intOf i).toNat)
    case atStart => exact ⟨0, none, none, Nat.zero_le _, rfl, Lib.hid ⟨gb_nil _ _ _ _ _, gb_nil _ _ _ _ _, fun g e => (by cases e), Below.refl _ _⟩⟩
    case round =>
      obtain ⟨j, bt, bo, hj, rfl, HT2⟩ := hrel
      have zr := HT2.out.below.size
      obtain ⟨at1, ct1, rfl⟩ := HT2.out.t.slice
      obtain ⟨ao1, co1, rfl⟩ := HT2.out.o.slice
      have hlt1 : ((ms.take j).map (fun p => (kk : Int) - 1 - p)).length = j := by rw [List.length_map, List.length_take, HL2.out]; omega
      have hlo1 : ((ms.take j).map (fun p => p / 2)).length = j := by rw [List.length_map, List.length_take, HL2.out]; omega
      by_cases hlt : j < len2
      · have hI := (H2.out.kept HR5.out.below (Nat.le_refl _)).kept (HT2.out.below.mono HR5.out.below.size) (Nat.le_refl _)
        have hcell := hI.cell j hlt
        obtain rfl : a2 = some ⟨b2, off2, none⟩ := H2.out.addr.resolve_left (by omega)
        have hjz : j < ms.length := by rw [HL2.out]; exact hlt
        have hp := HRT.out.2.2 (ms.getD j 0) (by rw [List.getD_eq_getElem?_getD, List.getElem?_eq_getElem hjz]; exact List.getElem_mem _)
        have HTk : Hid (ms.take (j + 1) = ms.take j ++ [ms.getD j 0]) := Lib.hid (by rw [List.take_succ_eq_append_getElem hjz, List.getD_eq_getElem?_getD, List.getElem?_eq_getElem hjz]; rfl)
        have HTa : Hid ((ms.take (j + 1)).map (fun p => (kk : Int) - 1 - p) = (ms.take j).map (fun p => (kk : Int) - 1 - p) ++ [(kk : Int) - 1 - ms.getD j 0]) := Lib.hid (by rw [HTk.out, List.map_append]; rfl)
        have HTb : Hid ((ms.take (j + 1)).map (fun p => p / 2) = (ms.take j).map (fun p => p / 2) ++ [ms.getD j 0 / 2]) := Lib.hid (by rw [HTk.out, List.map_append]; rfl)
        clear HTk
        generalize ms.getD j 0 = p at *
        generalize (ms.take j).map (fun p => (kk : Int) - 1 - p) = ta at *
        generalize (ms.take j).map (fun p => p / 2) = tb at *
        have hw1 : IntKind.i64.wrap ((kk : Int) - 1) = (kk : Int) - 1 := IntWalk.i64_in _ (by omega)
        have hw2 : IntKind.i64.wrap ((kk : Int) - 1 - p) = (kk : Int) - 1 - p := IntWalk.i64_in _ (by omega)
        have hw3 : IntKind.i64.wrap (p / 2) = p / 2 := IntWalk.i64_in _ (by omega)
        have hq : Int.tdiv p 2 = p / 2 := Int.tdiv_eq_ediv_of_nonneg (by omega)
        have hl1 : ta.length + 1 ≤ 100 := by omega
        have hl2 : tb.length + 1 ≤ 100 := by omega
        clear hI hjz hlt1 hlo1
        go_wp2_with (first
          | (at_builtin; refine wpList_append_GB _ rfl _ _ 24 rfl x5.heap.size 3 n0 (.int .i64 0) 1 8 Try.underlying24 HI.out HZ0.out HZ1.out HZ2.out rfl (by decide) _ _ _ bt rfl (HT2.out.t.alloc _) ⟨wr.heap.size, 0, none⟩ 1 1 [.int .i64 ((kk : Int) - 1 - p)] rfl rfl (cell_one _ _ _) (one_val rfl) (by decide) (by unfold maxLen; omega) (by omega) (by simp; omega) ?_; intro g5 cap5 w5 row5 hG5 hg5 hr5 hw5; have HT5 := Lib.hid (TwR.first (HT2.out.on ((Below.refl _ _).alloc (Nat.le_refl _) _) zr) (by simp; omega) hG5 hg5 hr5 hw5); have z6 := HT5.out.below.size; clear hG5 hg5 hr5 hw5 HT2)
          | (at_builtin; refine wpList_append_GB _ rfl _ _ 24 rfl x5.heap.size 3 n0 (.int .i64 0) 1 8 Try.underlying24 HI.out HZ0.out HZ1.out HZ2.out rfl (by decide) _ _ _ bo rfl (HT5.out.o.alloc _) ⟨w5.heap.size, 0, none⟩ 1 1 [.int .i64 (p / 2)] rfl rfl (cell_one _ _ _) (one_val rfl) (by decide) (by unfold maxLen; omega) (by omega) (by simp; omega) ?_; intro g7 cap7 w7 row7 hG7 hg7 hr7 hw7; have HT7 := Lib.hid (TwR.second (HT5.out.on ((Below.refl _ _).alloc (Nat.le_refl _) _) z6) (by simp; omega) hG7 hg7 hr7 hw7); clear hG7 hg7 hr7 hw7 HT5))
        go_roundw
        case rel =>
          refine ⟨j + 1, some g5, some g7, by omega, by go_num, ?_⟩
          rw [HTa.out, HTb.out]
          exact HT7
        case measure => simp [intOf]; omega
      · obtain rfl : j = len2 := by omega
        rw [List.take_of_length_le (by rw [HL2.out]; exact Nat.le_refl _)] at HT2 hlt1 hlo1 ⊢
        have hwfk : ∀ x ∈ ms.map (fun p => (kk : Int) - 1 - p), (Lit.int .i64 x).wf = true := fun x hx => by
          obtain ⟨q, hq, rfl⟩ := List.mem_map.1 hx
          have := HRT.out.2.2 q hq
          obtain ⟨d, hd⟩ : ∃ d : Nat, (kk : Int) - 1 - q = (d : Int) := ⟨((kk : Int) - 1 - q).toNat, by omega⟩
          simp only [hd]; exact wf_small d (by omega)
        have hwfh : ∀ x ∈ ms.map (fun p => p / 2), (Lit.int .i64 x).wf = true := fun x hx => by
          obtain ⟨q, hq, rfl⟩ := List.mem_map.1 hx
          have := HRT.out.2.2 q hq
          obtain ⟨d, hd⟩ : ∃ d : Nat, q / 2 = (d : Int) := ⟨(q / 2).toNat, by omega⟩
          simp only [hd]; exact wf_small d (by omega)
        obtain ⟨at3, ct3, bt3, et, _, _, _, hIt⟩ := Gath.ints (k := .i64) HT2.out.t.gath rfl hwfk
        obtain ⟨ao3, co3, bo3, eo, _, _, _, hIo⟩ := Gath.ints (k := .i64) HT2.out.o.gath rfl hwfh
        cases et
        cases eo
        rw [hlt1] at hIt ⊢
        rw [hlo1] at hIo ⊢
        have HR6 := Lib.hid (HR5.out.on HT2.out.below)
        have HIt := Lib.hid hIt
        have HIo := Lib.hid hIo
        have HRt := Lib.hid (turned_right HRP.out)
        have HRo := Lib.hid (half_right HRP.out)
        have HWt := Lib.hid (fun p hp => wtsT_turned HRT.out.1 HRT.out.2.2 zs.length (Nat.le_refl _) p hp)
        have HFt := Lib.hid (turned_fits HRP.out)
        have hDl := edges_onIx HT.out
        have HCt := Lib.hid (cuS_map (ms := ms) (f := fun p => (kk : Int) - 1 - p) (fun p q => by omega) (D := edgesD zs.length F) (by rw [HRT.out.1]; exact hDl))
        have HCo := Lib.hid (cuS_map_le (ms := ms) (fun p => p / 2) (D := edgesD zs.length F) (by rw [HRT.out.1]; exact hDl))
        clear hwfk hwfh hIt hIo hDl hlt1 hlo1 HT2
        generalize ms.map (fun p => (kk : Int) - 1 - p) = tms at *
        generalize ms.map (fun p => p / 2) = oms at *
        have CW := Lib.hid (weights_any (cap := cap2) HR6.out.one ((H2.out.kept HR6.out.below (Nat.le_refl _)).mono HR6.out.below.size) (kk : Int))
        go_wp2_with fail
        refine CW.out.mono ?_
        rintro e x7 (⟨h0, _⟩ | ⟨_, wb, rfl, hWt⟩)
        · rw [HRP.out] at h0; cases h0
        have HR7 := Lib.hid (HR6.out.on hWt.below)
        have HIt7 := Lib.hid ((HIt.out.kept hWt.below (Nat.le_refl _)).mono hWt.below.size)
        have HIo7 := Lib.hid ((HIo.out.kept hWt.below (Nat.le_refl _)).mono hWt.below.size)
        have HWa := Lib.hid hWt
        clear hWt CW HIt HIo
        rw [Int.toNat_natCast] at HWa ⊢
        have CW := Lib.hid (weights_any (cap := ct1) HR7.out.one HIt7.out (kk : Int))
        go_wp2_with fail
        refine CW.out.mono ?_
        rintro e x8 (⟨h0, _⟩ | ⟨_, wb2, rfl, hWt⟩)
        · rw [HRt.out] at h0; cases h0
        have HR8 := Lib.hid (HR7.out.on hWt.below)
        have HIt8 := Lib.hid ((HIt7.out.kept hWt.below (Nat.le_refl _)).mono hWt.below.size)
        have HIo8 := Lib.hid ((HIo7.out.kept hWt.below (Nat.le_refl _)).mono hWt.below.size)
        have HWb := Lib.hid hWt
        have HWa8 := Lib.hid (HWa.out.on hWt.below)
        clear hWt CW HIt7 HIo7 HWa
        rw [Int.toNat_natCast] at HWb ⊢
        go_wp2
        go_loopw [77] (fun i wr2 => ∃ j' : Nat, j' ≤ kk ∧ i = .int .i64 j' ∧ Hid (WtR wr wb kk (wtsT zs ms zs.length) wr2) ∧ Hid (WtR x7 wb2 kk (wtsT zs tms zs.length) wr2) ∧ Hid (Below x8.heap.size x8 wr2)) (fun i _ => kk - (intOf i).toNat)
        case atStart => exact ⟨0, Nat.zero_le _, rfl, HWa8, HWb, Lib.hid (Below.refl _ _)⟩
        case round =>
          obtain ⟨j', hj', rfl, HA, HB, HX⟩ := hrel
          by_cases hlt' : j' < kk
          · have hc1 := heap_cell HA.out.row (rowC_at (wtsT zs ms zs.length) hlt')
            obtain ⟨i2, hi2, hi2l, hi2n⟩ : ∃ i2 : Nat, (kk : Int) - 1 - (j' : Int) = (i2 : Int) ∧ i2 < kk ∧ i2 = kk - 1 - j' := ⟨kk - 1 - j', by omega, by omega, rfl⟩
            have hc2 := heap_cell HB.out.row (rowC_at (wtsT zs tms zs.length) hi2l)
            have he := HWt.out j' hlt'
            rw [← hi2n] at he
            rw [he] at hc2
            have hw1 : IntKind.i64.wrap ((kk : Int) - 1) = (kk : Int) - 1 := IntWalk.i64_in _ (by omega)
            have hw2 : IntKind.i64.wrap ((kk : Int) - 1 - (j' : Int)) = (i2 : Int) := by rw [hi2]; exact IntWalk.i64_in _ (by omega)
            generalize wtsT zs ms zs.length j' = y at *
            clear he hi2 hi2n
            go_wp2
            go_quiet (fail)
            have hdr : Below wr.heap.size wr (wr.drewN nq) := ⟨rfl, rfl, rfl, Nat.le_refl _, fun _ _ => rfl⟩
            have HA' := Lib.hid (HA.out.on hdr)
            have HB' := Lib.hid (HB.out.on hdr)
            have HX' := Lib.hid (HX.out.trans (hdr.mono HX.out.size))
            clear hdr hc1 hc2 hw1 hw2 HA HB HX
            go_wp2
            go_roundw
            case rel => exact ⟨j' + 1, by omega, by go_num, HA', HB', HX'⟩
            case measure => simp [intOf]; omega
          · obtain rfl : j' = kk := by omega
            have HR9 := Lib.hid (HR8.out.on HX.out)
            have HM9 := Lib.hid ((H2.out.kept HR9.out.below (Nat.le_refl _)).mono HR9.out.below.size)
            have HIt9 := Lib.hid ((HIt8.out.kept HX.out (Nat.le_refl _)).mono HX.out.size)
            have HIo9 := Lib.hid ((HIo8.out.kept HX.out (Nat.le_refl _)).mono HX.out.size)
            have HV1 : Hid (cutF zs.length F tms (j' : Int) = cuS ms (edgesD zs.length F)) := Lib.hid ((if_pos HRt.out).trans HCt.out)
            have HV2 : Hid (cutF zs.length F ms (j' : Int) = cuS ms (edgesD zs.length F)) := Lib.hid (if_pos HRP.out)
            have HV3 : Hid (cutF zs.length F oms (j' : Int) = cuS oms (edgesD zs.length F)) := Lib.hid (if_pos HRo.out)
            have hle : decide (cuS oms (edgesD zs.length F) ≤ cuS ms (edgesD zs.length F)) = true := decide_eq_true HCo.out
            have hn9 : zs.length ≤ 1000 := by rw [HL0.out]; omega
            have HN9 := Lib.hid hn9
            clear hn9 HA HB HX HCo HCt HWt HWa8 HWb HIt8 HIo8
            generalize cuS oms (edgesD zs.length F) = co at *
            generalize cuS ms (edgesD zs.length F) = cc at *
            obtain ⟨fv, hfv⟩ : ∃ fv, fitsF zs ms (j' : Int) = fv := ⟨_, rfl⟩
            rw [hfv] at HFt
            have HFv := Lib.hid hfv
            clear hfv
            have CP := Lib.hid (cut_any (cap := ct1) HR9.out.one HN9.out HIt9.out (j' : Int))
            rw [HV1.out] at CP
            go_wp2_with fail
            refine CP.out.mono ?_
            clear CP
            rintro e y1 ⟨rfl, hb⟩
            have HRa := Lib.hid (HR9.out.on hb)
            have HMa := Lib.hid ((HM9.out.kept hb (Nat.le_refl _)).mono hb.size)
            have HIta := Lib.hid ((HIt9.out.kept hb (Nat.le_refl _)).mono hb.size)
            have HIoa := Lib.hid ((HIo9.out.kept hb (Nat.le_refl _)).mono hb.size)
            clear hb HR9 HM9 HIt9 HIo9
            have CP := Lib.hid (cut_any (cap := cap2) HRa.out.one HN9.out HMa.out (j' : Int))
            rw [HV2.out] at CP
            go_wp2_with fail
            refine CP.out.mono ?_
            clear CP
            rintro e y2 ⟨rfl, hb⟩
            have HRb := Lib.hid (HRa.out.on hb)
            have HMb := Lib.hid ((HMa.out.kept hb (Nat.le_refl _)).mono hb.size)
            have HItb := Lib.hid ((HIta.out.kept hb (Nat.le_refl _)).mono hb.size)
            have HIob := Lib.hid ((HIoa.out.kept hb (Nat.le_refl _)).mono hb.size)
            clear hb HRa HMa HIta HIoa
            have CP := Lib.hid (cut_any (cap := co1) HRb.out.one HN9.out HIob.out (j' : Int))
            rw [HV3.out] at CP
            go_wp2_with fail
            refine CP.out.mono ?_
            clear CP
            rintro e y3 ⟨rfl, hb⟩
            have HRc := Lib.hid (HRb.out.on hb)
            have HMc := Lib.hid ((HMb.out.kept hb (Nat.le_refl _)).mono hb.size)
            have HItc := Lib.hid ((HItb.out.kept hb (Nat.le_refl _)).mono hb.size)
            clear hb HRb HMb HItb HIob
            have CP := Lib.hid (cut_any (cap := cap2) HRc.out.one HN9.out HMc.out (j' : Int))
            rw [HV2.out] at CP
            go_wp2_with fail
            refine CP.out.mono ?_
            clear CP
            rintro e y4 ⟨rfl, hb⟩
            have HRd := Lib.hid (HRc.out.on hb)
            have HMd := Lib.hid ((HMc.out.kept hb (Nat.le_refl _)).mono hb.size)
            have HItd := Lib.hid ((HItc.out.kept hb (Nat.le_refl _)).mono hb.size)
            clear hb HRc HMc HItc HV1 HV2 HV3
            have CP := Lib.hid (fits_any (cap := ct1) HRd.out.one HItd.out (j' : Int))
            rw [HFt.out] at CP
            go_wp2_with fail
            refine CP.out.mono ?_
            clear CP
            rintro e y5 ⟨rfl, hb⟩
            have HRe := Lib.hid (HRd.out.on hb)
            have HMe := Lib.hid ((HMd.out.kept hb (Nat.le_refl _)).mono hb.size)
            clear hb HRd HMd HItd HFt
            have CP := Lib.hid (fits_any (cap := cap2) HRe.out.one HMe.out (j' : Int))
            rw [HFv.out] at CP
            go_wp2_with fail
            refine CP.out.mono ?_
            clear CP
            rintro e y6 ⟨rfl, hb⟩
            have HRf := Lib.hid (HRe.out.on hb)
            clear hb HRe HMe HFv
            cases fv <;>
            · go_wp2
              go_ret
              exact ⟨by simp, HRf.out.below⟩
end Go.Proofs.Ytdbhnkccgbofhaa.L09
