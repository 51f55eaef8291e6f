/- The walk of GrowFirst. -/
import Derived.Test.YtepmgjohjeiopaaXl
import Derived.Test.YtepmgjohjeiopaaXm
set_option linter.unusedVariables false
set_option linter.unusedSectionVars false
namespace Go.Proofs.Ytepmgjohjeiopaa.L12
open Go.RowKit Go.Shelf Rk

set_option maxRecDepth 100000 in
set_option maxHeartbeats 8000000 in
theorem walk_GrowFirst (a0 : Option Addr) (len0 cap0 : Nat) (z0 : List Int) (a1 : Option Addr) (len1 cap1 : Nat) (z1 : List RopV) (w : World) (w0 : IsRow .i64 w a0 len0 cap0 z0) (w1 : IsRops w a1 len1 cap1 z1) :
    Calls Try.prog 7 #[.slice a0 len0 cap0, .slice a1 len1 cap1] w fun e w' => e = .returned (.bool true) ∧ Below w.heap.size w w' := by
  obtain ⟨b0, off0, zs, hi0, hn0⟩ := w0.zz
  obtain ⟨_, b1, off1, hi1⟩ := w1
  have H0 := Lib.hid hi0
  have HN := Lib.hid hn0
  have H1 := Lib.hid hi1
  obtain rfl := hi0.length
  clear w0 hi0 hn0 hi1
  go_enter Try.func7, Try.ntmps7
  go_wp2_with fail
  refine (alive_any _).mono ?_
  rintro e x1 ⟨rfl, hB1⟩
  have HB1 := Lib.hid hB1
  have HBd := Lib.hid (build_any (cap0 := cap0) (cap1 := cap1) ((H0.out.kept hB1 (Nat.le_refl _)).mono hB1.size) HN.out ((H1.out.kept hB1 (Nat.le_refl _)).mono hB1.size))
  have z1s := hB1.size
  clear hB1
  go_wp2_with fail
  refine HBd.out.mono ?_
  rintro e x2 ⟨hB, hc⟩
  have HB2 := Lib.hid (HB1.out.trans (hB.mono z1s))
  clear hB HBd
  rcases hc with ⟨_, rfl⟩ | ⟨⟨hl30, _⟩, g, nb, lo, Bx, X, rfl, hR, _, _⟩
  · have HB3 := Lib.hid (HB2.out.alloc HB2.out.size (.cells #[.slice none 0 0, .slice none 0 0] 29))
    go_wp2
    go_ret
    exact ⟨by simp, HB3.out⟩
  have hR' := hR.base HB1.out
  have hal := (Below.refl x2.heap.size x2).alloc (Nat.le_refl _) (.cells #[.slice X.wa zs.length X.wc, .slice X.ra zs.length X.rc] 29)
  have HR := Lib.hid (hR'.on hal)
  have HW := Lib.hid hR.one.wts
  have HTab := Lib.hid hR.one.tab
  clear hR hR' hal HB2 HB1 z1s
  unfold XD.val
  go_upto_region 4 with fail
  revert HR
  generalize x2.alloc (.cells #[.slice X.wa zs.length X.wc, .slice X.ra zs.length X.rc] 29) = x3
  intro HR
  by_cases h0 : zs.length = 0
  · have d0 : ((zs.length : Int) == 0) = true := by simpa using h0
    go_wp2
    go_ret
    exact ⟨by simp, HR.out.below⟩
  have d0 : ((zs.length : Int) == 0) = false := by simpa using h0
  have hI := H0.out.kept HR.out.below (Nat.le_refl _)
  have hcell := hI.cell 0 (by omega)
  rw [Nat.add_zero] at hcell
  obtain rfl : a0 = some ⟨b0, off0, none⟩ := H0.out.addr.resolve_left h0
  have hw0 := getD_wts HW.out (k := 0) (by omega)
  have HP := Lib.hid (halveF_first HW.out (joins zs.length noTab z1) (by omega))
  have HQ := Lib.hid (halveF_zero HW.out (joins zs.length noTab z1))
  obtain ⟨m0, hm0⟩ : ∃ m, zs.getD 0 0 = m := ⟨_, rfl⟩
  rw [hm0] at hcell HP hw0
  have C1 := Lib.hid (halveI_any HR.out.one hl30 m0 (by omega) (by omega))
  clear hI hm0
  go_wp2_with fail
  refine C1.out.mono ?_
  rintro e x4 ⟨pb, rfl, hp, hpl, hb⟩
  have HR4 := Lib.hid (HR.out.on hb)
  have HP4 := Lib.hid hp
  clear hp hb C1 hpl
  have C2 := Lib.hid (halveI_any HR4.out.one hl30 0 (by decide) (by decide))
  go_wp2_with fail
  refine C2.out.mono ?_
  rintro e x5 ⟨qb, rfl, hq, hql, hb⟩
  have HP5 := Lib.hid ((HP4.out.kept hb (Nat.le_refl _)).mono hb.size)
  have HQ5 := Lib.hid hq
  have HB5 := Lib.hid (HR4.out.on hb).below
  clear hq hql hb C2
  go_wp2
  go_loop [36] (fun i => ∃ j : Nat, j ≤ zs.length ∧ i = .int .i64 j) (fun i => zs.length - (intOf i).toNat)
  case atStart => exact ⟨0, Nat.zero_le _, rfl⟩
  case round =>
    obtain ⟨j, hj, rfl⟩ := hrel
    by_cases hlt : j < zs.length
    · have hp := HP5.out.cell j hlt
      have hq := HQ5.out.cell j hlt
      rw [HP.out j hlt] at hp
      rw [HQ.out j hlt] at hq
      rw [Nat.zero_add] at hp hq
      by_cases hj0 : j = 0
      · subst hj0
        clear hp
        go_wp2
        go_round
        case rel => exact ⟨1, by omega, by go_num⟩
        case measure => simp [intOf]; omega
      · rw [if_neg hj0] at hp
        have hg : decide ((0 : Int) < (j : Int)) = true := by simp; omega
        go_wp2
        go_round
        case rel => exact ⟨j + 1, by omega, by go_num⟩
        case measure => simp [intOf]; omega
    · obtain rfl : j = zs.length := by omega
      have hp := HP5.out.cell 0 (by omega)
      rw [HP.out 0 (by omega), if_pos rfl] at hp
      go_wp2
      go_ret
      exact ⟨by simp, HB5.out⟩
end Go.Proofs.Ytepmgjohjeiopaa.L12
