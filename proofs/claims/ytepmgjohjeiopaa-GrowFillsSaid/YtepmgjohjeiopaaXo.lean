/- The walk of GrowFills. -/
import Derived.Test.YtepmgjohjeiopaaXl
import Derived.Test.YtepmgjohjeiopaaXm
set_option linter.unusedVariables false
set_option linter.unusedSectionVars false
namespace Go.Proofs.Ytepmgjohjeiopaa.L12
open Go.RowKit Go.Shelf Rk

theorem below_drewN (w : World) (nq : Nat) : Below w.heap.size w (w.drewN nq) := ⟨rfl, rfl, rfl, Nat.le_refl _, fun _ _ => rfl⟩
set_option maxRecDepth 100000 in
set_option maxHeartbeats 8000000 in
theorem walk_GrowFills (a0 : Option Addr) (len0 cap0 : Nat) (z0 : List Int) (a1 : Option Addr) (len1 cap1 : Nat) (z1 : List RopV) (a2 : Int) (w : World) (w0 : IsRow .i64 w a0 len0 cap0 z0) (w1 : IsRops w a1 len1 cap1 z1) (w2 : (Lit.int .i64 a2).wf = true) :
    Calls Try.prog 5 #[.slice a0 len0 cap0, .slice a1 len1 cap1, .int .i64 a2] w fun e w' => e = .returned (.bool true) ∧ Below w.heap.size w w' := by
  obtain ⟨b0, off0, zs, hi0, hn0⟩ := w0.zz
  obtain ⟨_, b1, off1, hi1⟩ := w1
  have H0 := Lib.hid hi0
  have HN := Lib.hid hn0
  have H1 := Lib.hid hi1
  obtain rfl := hi0.length
  clear w0 hi0 hn0 hi1
  go_enter Try.func5, Try.ntmps5
  go_wp2_with fail
  refine (alive_any _).mono ?_
  rintro e x1 ⟨rfl, hB1⟩
  have HB1 := Lib.hid hB1
  have HBd := Lib.hid (build_any (cap0 := cap0) (cap1 := cap1) ((H0.out.kept hB1 (Nat.le_refl _)).mono hB1.size) HN.out ((H1.out.kept hB1 (Nat.le_refl _)).mono hB1.size))
  have z1s := hB1.size
  clear hB1
  go_wp2_with fail
  refine HBd.out.mono ?_
  rintro e x2 ⟨hB, hc⟩
  have HB2 := Lib.hid (HB1.out.trans (hB.mono z1s))
  clear hB HBd
  rcases hc with ⟨_, rfl⟩ | ⟨⟨hl30, _⟩, g, nb, lo, Bx, X, rfl, hR, _, _⟩
  · have HB3 := Lib.hid (HB2.out.alloc HB2.out.size (.cells #[.slice none 0 0, .slice none 0 0] 29))
    go_wp2
    go_ret
    exact ⟨by simp, HB3.out⟩
  have hR' := hR.base HB1.out
  have hal := (Below.refl x2.heap.size x2).alloc (Nat.le_refl _) (.cells #[.slice X.wa zs.length X.wc, .slice X.ra zs.length X.rc] 29)
  have HR := Lib.hid (hR'.on hal)
  have HW := Lib.hid hR.one.wts
  have HTab := Lib.hid hR.one.tab
  clear hR hR' hal HB2 HB1 z1s
  unfold XD.val
  go_upto_region 4 with fail
  revert HR
  generalize x2.alloc (.cells #[.slice X.wa zs.length X.wc, .slice X.ra zs.length X.rc] 29) = x3
  intro HR
  obtain ⟨ms, hms⟩ : ∃ ms, halveF zs zs.length (joins zs.length noTab z1) a2 = ms := ⟨_, rfl⟩
  obtain ⟨hml, h01, hz, hwt, hfit⟩ := halveF_facts HW.out _ a2 hms
  obtain ⟨ha2, ha2'⟩ := bounds_i64 w2
  have hsum := sum_bd HW.out
  have C1 := Lib.hid (halveI_any HR.out.one hl30 a2 ha2 ha2')
  rw [hms] at C1
  have HR2 : Hid (rightP zs.length ms 2 = true) := Lib.hid (rightP_mk hml (by omega) (by omega) (fun p hp => by
    obtain ⟨i, hi, rfl⟩ := List.getElem_of_mem hp
    have := h01 i (by omega)
    rw [List.getD_eq_getElem?_getD, List.getElem?_eq_getElem hi] at this
    simp only [Option.getD_some] at this
    omega))
  have H01 := Lib.hid h01
  have HF := Lib.hid hfit
  have HML := Lib.hid hml
  have HS2 := Lib.hid (sideL_both h01 zs.length (Nat.le_refl _))
  have HAll := Lib.hid (sideL_all (halveF_all HW.out (joins zs.length noTab z1) rfl))
  clear hms h01 hz hfit hml w2
  go_wp2_with fail
  refine C1.out.mono ?_
  rintro e x4 ⟨pb, rfl, hp, hpl, hb⟩
  have HR4 := Lib.hid (HR.out.on hb)
  have HP4 := Lib.hid hp
  clear hp hpl hb C1 HR
  have CW := Lib.hid (weights_any (cap := zs.length) HR4.out.one HP4.out 2)
  go_wp2_with fail
  refine CW.out.mono ?_
  rintro e x5 (⟨h0, _⟩ | ⟨_, wb, rfl, hWt⟩)
  · rw [HR2.out] at h0; cases h0
  have HR5 := Lib.hid (HR4.out.on hWt.below)
  have HP5 := Lib.hid ((HP4.out.kept hWt.below (Nat.le_refl _)).mono hWt.below.size)
  have hcw : x5.cell? ⟨wb, 0, none⟩ = some (.int .i64 (wtsT zs ms zs.length 0)) := heap_cell hWt.row (rowC_at _ (by decide))
  have hwb : wb < x5.heap.size := heap_lt hWt.row
  clear CW HP4 HR4 hWt
  have hw0 := (wtsT_bd ms HW.out zs.length (Nat.le_refl _) 0).1
  generalize wtsT zs ms zs.length 0 = w0 at *
  dsimp only [Int.toNat]
  go_wp2
  all_goals
    go_loopw [50] (fun i wr => ∃ j : Nat, j ≤ zs.length ∧ i = .int .i64 j ∧ Hid (Below x5.heap.size x5 wr)) (fun i _ => zs.length - (intOf i).toNat)
    case atStart => exact ⟨0, Nat.zero_le _, rfl, Lib.hid (Below.refl _ _)⟩
    case round =>
      obtain ⟨j, hj, rfl, HX⟩ := hrel
      by_cases hlt : j < zs.length
      · have hp := (HP5.out.kept HX.out (Nat.le_refl _)).cell j hlt
        have hc := (HX.out.cell (p := ⟨wb, 0, none⟩) hwb).trans hcw
        rw [Nat.zero_add] at hp
        have hm01 := H01.out j hlt
        have hf := HF.out j hlt
        obtain ⟨y, hy⟩ : ∃ y, zs.getD j 0 = y := ⟨_, rfl⟩
        have HWt : Hid (∀ nq : Nat, Calls Try.prog 37 #[.pointer (some ⟨g, 0, none⟩), .int .i64 (j : Int)] (wr.drewN nq) (fun e w' => e = .returned (.int .i64 y) ∧ wr.drewN nq = w')) := Lib.hid (fun nq => weight_lit ((HR5.out.one.below HX.out).below (below_drewN wr nq)) (j : Int) ((show wtOf zs (j : Int) = zs.getD j 0 by unfold wtOf; rw [if_pos ⟨by omega, by omega⟩, Int.toNat_natCast]).trans hy))
        rw [hy] at hf
        generalize ms.getD j 0 = p at *
        have hdr : ∀ nq, Below x5.heap.size x5 (wr.drewN nq) := fun nq => HX.out.trans ((below_drewN wr nq).mono HX.out.size)
        have HDr := Lib.hid hdr
        clear hdr hy
        rcases hm01 with rfl | rfl
        · clear hf
          go_wp2
          go_quiet (fail)
          go_wp2
          go_roundw
          case rel => exact ⟨j + 1, by omega, by go_num, Lib.hid (HDr.out _)⟩
          case measure => simp [intOf]; omega
        · have hf := hf rfl
          by_cases h2 : 0 < a2
          · have d2 : decide (0 < a2) = true := by simpa using h2
            have hs : IntKind.i64.wrap (a2 - w0) = a2 - w0 := IntWalk.i64_in _ (by omega)
            have d3 : decide (y ≤ a2 - w0) = false := by simp; omega
            clear hf
            go_wp2
            go_quiet ((go_at_call 37; exact Calls.quiet_of_same ((HWt.out _).mono (fun e w' h => ⟨h.1, h.2.symm⟩))))
            go_wp2
            go_roundw
            case rel => exact ⟨j + 1, by omega, by go_num, Lib.hid (HDr.out _)⟩
            case measure => simp [intOf]; omega
          · have d2 : decide (0 < a2) = false := by simpa using h2
            clear hf
            go_wp2
            go_quiet (fail)
            go_wp2
            go_roundw
            case rel => exact ⟨j + 1, by omega, by go_num, Lib.hid (HDr.out _)⟩
            case measure => simp [intOf]; omega
      · obtain rfl : j = zs.length := by omega
        have HR6 := Lib.hid (HR5.out.on HX.out)
        have HP6 := Lib.hid ((HP5.out.kept HX.out (Nat.le_refl _)).mono HX.out.size)
        clear HX HR5 HP5 hcw hwb
        have CT := Lib.hid (total_any HR6.out.one)
        have C2 := Lib.hid (halveI_any HR6.out.one hl30 zs.sum (by omega) (by omega))
        go_wp2_with fail
        refine CT.out.mono ?_
        rintro e w' ⟨rfl, rfl⟩
        go_wp2_with fail
        refine C2.out.mono ?_
        rintro e x7 ⟨qb, rfl, hq, hql, hb⟩
        have HR7 := Lib.hid (HR6.out.on hb)
        have HP7 := Lib.hid ((HP6.out.kept hb (Nat.le_refl _)).mono hb.size)
        have HL := Lib.hid (lside_any (cap := zs.length) hq (fun e => by cases e) (by omega) 0 100 (by decide))
        clear hq hql hb C2 CT HR6 HP6
        go_wp2_with fail
        refine HL.out.mono ?_
        rintro e x8 ⟨v, rfl, hg, hb⟩
        obtain ⟨a5, cap5, rfl⟩ := hg.slice
        have HR8 := Lib.hid (HR7.out.on hb)
        have HP8 := Lib.hid ((HP7.out.kept hb (Nat.le_refl _)).mono hb.size)
        have hl1 : ((sideL (halveF zs zs.length (joins zs.length noTab z1) zs.sum) 0 (halveF zs zs.length (joins zs.length noTab z1) zs.sum).length).take (100 : Int).toNat).length = zs.length := by
          have h1 : (halveF zs zs.length (joins zs.length noTab z1) zs.sum).length = zs.length := parts_length _ _
          rw [List.length_take, HAll.out, h1]
          exact Nat.min_eq_right (by show zs.length ≤ 100; omega)
        rw [hl1]
        clear hg hb HL hl1 HAll HR7 HP7
        have HL := Lib.hid (lside_any (cap := zs.length) HP8.out (fun e => by cases e) (by omega) 0 100 (by decide))
        have hS := HS2.out
        rw [HML.out, List.take_of_length_le (by have := sideL_length ms 0 zs.length; show _ ≤ 100; omega)] at HL
        go_wp2_with fail
        refine HL.out.mono ?_
        rintro e x9 ⟨v, rfl, hg, hb⟩
        obtain ⟨a6, cap6, rfl⟩ := hg.slice
        have HR9 := Lib.hid (HR8.out.on hb)
        have HP9 := Lib.hid ((HP8.out.kept hb (Nat.le_refl _)).mono hb.size)
        clear hg hb HL HR8 HP8
        have HL := Lib.hid (lside_any (cap := zs.length) HP9.out (fun e => by cases e) (by omega) 1 100 (by decide))
        rw [HML.out, List.take_of_length_le (by have := sideL_length ms 1 zs.length; show _ ≤ 100; omega)] at HL
        go_wp2_with fail
        refine HL.out.mono ?_
        rintro e x10 ⟨v, rfl, hg, hb⟩
        obtain ⟨a7, cap7, rfl⟩ := hg.slice
        have HB10 := Lib.hid (HR9.out.on hb).below
        clear hg hb HL HR9 HP9
        generalize (sideL ms 0 zs.length).length = l0 at *
        generalize (sideL ms 1 zs.length).length = l1 at *
        have hs : IntKind.i64.wrap ((l0 : Int) + (l1 : Int)) = (zs.length : Int) := by rw [show (l0 : Int) + (l1 : Int) = (zs.length : Int) by omega]; exact IntWalk.i64_in _ (by omega)
        go_wp2
        go_ret
        exact ⟨by simp, HB10.out⟩
end Go.Proofs.Ytepmgjohjeiopaa.L12
