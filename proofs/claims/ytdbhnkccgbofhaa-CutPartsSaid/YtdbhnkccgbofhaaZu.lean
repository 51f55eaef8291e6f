/- The walk of CutParts. -/
import Derived.Test.YtdbhnkccgbofhaaZp
set_option linter.unusedVariables false
set_option linter.unusedSectionVars false
namespace Go.Proofs.Ytdbhnkccgbofhaa.L09
open Go.RowKit Rk

theorem and_15 (n : Int) : bits .and .i64 n 15 = n % 16 := by
  have h511 : (BitVec.ofInt 64 15).toNat = 2 ^ 4 - 1 := by decide
  have key : (BitVec.ofInt 64 n &&& BitVec.ofInt 64 15).toNat = (n % ((2 ^ 64 : Nat) : Int)).toNat % 2 ^ 4 := by
    rw [BitVec.toNat_and, BitVec.toNat_ofInt, h511, Nat.and_two_pow_sub_one_eq_mod]
  show IntKind.i64.wrap ((BitVec.ofInt 64 n &&& BitVec.ofInt 64 15).toNat : Nat) = n % 16
  rw [key, IntKind.wrap_i64]
  omega
theorem overs_succ (f : Nat → Int) (j : Nat) (k : Int) : overs f (j + 1) k = (overs f j k || decide (k < f j)) := by
  unfold overs
  rw [List.range_succ, List.any_append]
  simp
/-- What lies while the answers are compared. -/
structure PtR (w : World) (g nb lo xb : Nat) (X : XD) (zs : List Int) (F : Nat → Nat → Int) (W : World) : Prop where
  one : IsG W g nb zs F
  two : IsX W X lo zs F
  box : W.heap[xb]? = some (.cells #[.slice X.wa zs.length X.wc, .slice X.ra zs.length X.rc] 29 (0, 0))
  below : Below w.heap.size w W
theorem PtR.on {w W W' : World} {g nb lo xb : Nat} {X : XD} {zs : List Int} {F : Nat → Nat → Int} (h : PtR w g nb lo xb X zs F W) (hb : Below W.heap.size W W') : PtR w g nb lo xb X zs F W' :=
  ⟨h.one.below hb, h.two.below hb, heap_below h.box hb (heap_lt h.box), h.below.trans (hb.mono h.below.size)⟩
theorem PtR.d0 {w W : World} {g nb lo xb : Nat} {X : XD} {zs : List Int} {F : Nat → Nat → Int} (h : PtR w g nb lo xb X zs F W) : W.cell? ⟨xb, 0, none⟩ = some (.slice X.wa zs.length X.wc) := heap_cell h.box rfl
theorem PtR.d1 {w W : World} {g nb lo xb : Nat} {X : XD} {zs : List Int} {F : Nat → Nat → Int} (h : PtR w g nb lo xb X zs F W) : W.cell? ⟨xb, 1, none⟩ = some (.slice X.ra zs.length X.rc) := heap_cell h.box rfl

set_option maxRecDepth 100000 in
set_option maxHeartbeats 8000000 in
theorem walk_CutParts (a0 : Option Addr) (len0 cap0 : Nat) (z0 : List Int) (a1 : Option Addr) (len1 cap1 : Nat) (z1 : List RopV) (a2 : Option Addr) (len2 cap2 : Nat) (z2 : List Int) (a3 a4 a5 a6 : Int) (w : World) (w0 : IsRow .i64 w a0 len0 cap0 z0) (w1 : IsRops w a1 len1 cap1 z1) (w2 : IsRow .i64 w a2 len2 cap2 z2) (w3 : (Lit.int .i64 a3).wf = true) (w4 : (Lit.int .i64 a4).wf = true) (w5 : (Lit.int .i64 a5).wf = true) (w6 : (Lit.int .i64 a6).wf = true) :
    Calls Try.prog 3 #[.slice a0 len0 cap0, .slice a1 len1 cap1, .slice a2 len2 cap2, .int .i64 a3, .int .i64 a4, .int .i64 a5, .int .i64 a6] w fun e w' => e = .returned (.bool true) ∧ Below w.heap.size w w' := by
  obtain ⟨b0, off0, zs, hi0, hn0⟩ := w0.zs
  obtain ⟨_, b1, off1, hi1⟩ := w1
  obtain ⟨b2, off2, ms, hi2, hn2⟩ := w2.zs
  have H0 := Lib.hid hi0
  have HN := Lib.hid hn0
  have H1 := Lib.hid hi1
  have H2 := Lib.hid hi2
  have HL0 := Lib.hid hi0.length
  have HL2 := Lib.hid hi2.length
  clear w0 w2 hi0 hn0 hi1 hi2 hn2 w3 w4 w5 w6
  go_enter Try.func3, Try.ntmps3
  go_wp2_with fail
  refine (alive_any _).mono ?_
  rintro e x1 ⟨rfl, hB1⟩
  have HB1 := Lib.hid hB1
  have HBd := Lib.hid (build_any (cap0 := cap0) (cap1 := cap1) ((H0.out.kept hB1 (Nat.le_refl _)).mono hB1.size) HN.out ((H1.out.kept hB1 (Nat.le_refl _)).mono hB1.size))
  have z1s := hB1.size
  clear hB1
  go_wp2_with fail
  refine HBd.out.mono ?_
  rintro e x2 ⟨hB, hc⟩
  have HB2 := Lib.hid (HB1.out.trans (hB.mono z1s))
  clear hB HBd HB1
  rcases hc with ⟨_, rfl⟩ | ⟨⟨hl30, _⟩, g, nb, lo, Bx, X, rfl, hR, _, _⟩
  · have HB3 := Lib.hid (HB2.out.alloc HB2.out.size (.cells #[.slice none 0 0, .slice none 0 0] 29))
    go_wp2
    go_ret
    exact ⟨by simp, HB3.out⟩
  have hal := (Below.refl x2.heap.size x2).alloc (Nat.le_refl _) (.cells #[.slice X.wa zs.length X.wc, .slice X.ra zs.length X.rc] 29)
  have HR : Hid (PtR w g nb lo x2.heap.size X zs (joins zs.length noTab z1) (x2.alloc (.cells #[.slice X.wa zs.length X.wc, .slice X.ra zs.length X.rc] 29))) := Lib.hid ⟨hR.one.below hal, hR.two.below hal, heap_new (w := x2) _ rfl, HB2.out.trans (hal.mono HB2.out.size)⟩
  have HW := Lib.hid hR.one.wts
  have HT := Lib.hid hR.one.tab
  have HZ30 := Lib.hid hl30
  clear hR HB2 hal
  rw [HL0.out] at hl30
  generalize joins zs.length noTab z1 = F at *
  unfold XD.val
  by_cases hk : 60 < len2 ∨ (60 < a3 ∧ a3 ≤ 4096)
  · obtain ⟨y1, hy1⟩ : ∃ y, decide (60 < (len2 : Int)) = y := ⟨_, rfl⟩
    obtain ⟨y2, hy2⟩ : ∃ y, decide (60 < a3) = y := ⟨_, rfl⟩
    obtain ⟨y3, hy3⟩ : ∃ y, decide (a3 ≤ 4096) = y := ⟨_, rfl⟩
    have hor : (y1 || (y2 && y3)) = true := by rw [← hy1, ← hy2, ← hy3]; simp; omega
    clear hk
    cases y1 <;> cases y2 <;> cases y3 <;> first
      | (simp at hor; done)
      | (go_wp2
         go_ret
         exact ⟨by simp, HR.out.below⟩)
  have d1 : decide (60 < (len2 : Int)) = false := by simp; omega
  have hl260 : len2 ≤ 60 := by omega
  have CR := Lib.hid (xright_any (cap := cap2) HR.out.two (H2.out.kept HR.out.below (Nat.le_refl _)) (HR.out.below.size) a3)
  unfold XD.val at CR
  have d0 := HR.out.d0
  have d2 := HR.out.d1
  by_cases hk2 : 4096 < a3
  · have d3 : decide (60 < a3) = true := by simp; omega
    have d4 : decide (a3 ≤ 4096) = false := by simp; omega
    have d5 : decide (1 ≤ a3) = true := by simp; omega
    have d6 : decide (a3 ≤ 60) = false := by simp; omega
    have HRP : Hid (rightP zs.length ms a3 = false) := Lib.hid (by cases hr : rightP zs.length ms a3 with | false => rfl | true => exact absurd (rightP_t hr).2.1.2 (by omega))
    have HBD : Hid (boundF zs a3 = 0) := Lib.hid (if_neg (by unfold withinF; simp; omega))
    rw [HRP.out] at CR
    clear hk hk2
    go_wp2_with fail
    refine CR.out.mono ?_
    rintro e x4 ⟨rfl, hb⟩
    have HR4 := Lib.hid (HR.out.on hb)
    clear hb CR d0 d2
    have CC := Lib.hid (cright_any (cap := cap2) HR4.out.one (H2.out.kept HR4.out.below (Nat.le_refl _)) HR4.out.below.size a3)
    rw [HRP.out] at CC
    go_wp2_with fail
    refine CC.out.mono ?_
    clear CC
    rintro e x5 ⟨rfl, hb⟩
    have HR5 := Lib.hid (HR4.out.on hb)
    clear hb
    have CC := Lib.hid (bound_any HR5.out.one a3)
    rw [HBD.out] at CC
    go_wp2_with fail
    refine CC.out.mono ?_
    clear CC
    rintro e _ ⟨rfl, rfl⟩
    have HRn := HR5
    clear HR5 HR4 HR
    have CC := Lib.hid (cut_any (cap := cap2) HRn.out.one (by have := HZ30.out; omega) ((H2.out.kept HRn.out.below (Nat.le_refl _)).mono HRn.out.below.size) a3)
    rw [show cutF zs.length F ms a3 = 0 from if_neg (by rw [HRP.out]; simp)] at CC
    go_wp2_with fail
    refine CC.out.mono ?_
    clear CC
    rintro e y1 ⟨rfl, hb⟩
    have HRo := Lib.hid (HRn.out.on hb)
    clear hb HRn
    have CC := Lib.hid (weights_any (cap := cap2) HRo.out.one ((H2.out.kept HRo.out.below (Nat.le_refl _)).mono HRo.out.below.size) a3)
    go_wp2_with fail
    refine CC.out.mono ?_
    clear CC
    rintro e y2 hh
    obtain ⟨_, rfl, hb⟩ := hh.resolve_right (fun h => by have h0 := h.1; rw [HRP.out] at h0; cases h0)
    clear hh
    have HRp := Lib.hid (HRo.out.on hb)
    clear hb HRo
    have CC := Lib.hid (gain_any (cap := cap2) HRp.out.one ((H2.out.kept HRp.out.below (Nat.le_refl _)).mono HRp.out.below.size) a3 a4 a5)
    rw [show gainF zs.length F ms a3 a4 a5 = 0 from if_neg (by rw [HRP.out]; simp)] at CC
    go_wp2_with fail
    refine CC.out.mono ?_
    clear CC
    rintro e y3 ⟨rfl, hb⟩
    have HRq := Lib.hid (HRp.out.on hb)
    clear hb HRp
    have CC := Lib.hid (fits_any (cap := cap2) HRq.out.one ((H2.out.kept HRq.out.below (Nat.le_refl _)).mono HRq.out.below.size) a3)
    rw [show fitsF zs ms a3 = false from by unfold fitsF; rw [HRP.out]; rfl] at CC
    go_wp2_with fail
    refine CC.out.mono ?_
    clear CC
    rintro e y4 ⟨rfl, hb⟩
    have HRr := Lib.hid (HRq.out.on hb)
    clear hb HRq
    go_wp2
    go_ret
    exact ⟨by simp, HRr.out.below⟩
  have hk60 : a3 ≤ 60 := by omega
  have d3 : decide (60 < a3) = false := by simp; omega
  clear hk hk2
  go_upto_region 6 with fail
  revert HR CR d0 d2
  generalize x2.heap.size = xb
  generalize x2.alloc (.cells #[.slice X.wa zs.length X.wc, .slice X.ra zs.length X.rc] 29) = x3
  intro HR CR d0 d2
  go_wp2_with fail
  refine CR.out.mono ?_
  rintro e x4 ⟨rfl, hb⟩
  have HR4 := Lib.hid (HR.out.on hb)
  clear hb CR d0 d2 HR
  obtain ⟨r, hr⟩ : ∃ r, rightP zs.length ms a3 = r := ⟨_, rfl⟩
  rw [hr]
  have HRP := Lib.hid hr
  clear hr
  obtain ⟨bd, hbd⟩ : ∃ bd, boundF zs a3 = bd := ⟨_, rfl⟩
  have HBD := Lib.hid hbd
  clear hbd
  go_upto_region 8 with fail
  go_cut [61] from 56 to 61 (fun s61 wx => s61 = .bool (decide (1 ≤ a3)) ∧ wx = x4)
  case first =>
    by_cases h1 : 1 ≤ a3
    · have e1 : decide (1 ≤ a3) = true := by simpa using h1
      have e2 : decide (a3 ≤ 4096) = true := by simp; omega
      go_wp2_with fail
      go_meet
      exact ⟨by rw [e1], rfl⟩
    · have e1 : decide (1 ≤ a3) = false := by simpa using h1
      go_wp2_with fail
      go_meet
      exact ⟨by rw [e1], rfl⟩
  case rest =>
    obtain ⟨rfl, rfl⟩ := hcut
    go_upto_if 61 with fail
    go_cut [19] from 61 to 64 (fun s19 wx => s19 = .int .i64 bd ∧ Hid (PtR w g nb lo xb X zs F wx))
    case first =>
      by_cases h1 : 1 ≤ a3
      · have CB := Lib.hid (xbound_any HR4.out.two HW.out h1 (by omega))
        unfold XD.val at CB
        rw [HBD.out] at CB
        have e1 : decide (1 ≤ a3) = true := by simpa using h1
        have d0 := HR4.out.d0
        have d2 := HR4.out.d1
        go_wp2_with fail
        refine CB.out.mono ?_
        rintro e x5 ⟨rfl, hb⟩
        have HR5 := Lib.hid (HR4.out.on hb)
        clear hb CB d0 d2
        go_wp2_with fail
        go_meet
        exact ⟨rfl, HR5⟩
      · have e1 : decide (1 ≤ a3) = false := by simpa using h1
        have hz : Value.int .i64 0 = .int .i64 bd := by rw [← HBD.out, show boundF zs a3 = 0 from if_neg (by unfold withinF; simp; omega)]
        have HZ := Lib.hid hz
        clear hz
        go_wp2_with fail
        go_meet
        exact ⟨HZ.out, HR4⟩
    case rest =>
      obtain ⟨rfl, HR5⟩ := hcut
      clear HR4
      have CC := Lib.hid (cright_any (cap := cap2) HR5.out.one (H2.out.kept HR5.out.below (Nat.le_refl _)) HR5.out.below.size a3)
      rw [HRP.out] at CC
      go_wp2_with fail
      refine CC.out.mono ?_
      clear CC
      rintro e x5 ⟨rfl, hb⟩
      have HR6 := Lib.hid (HR5.out.on hb)
      clear hb HR5
      have CC := Lib.hid (bound_any HR6.out.one a3)
      rw [HBD.out] at CC
      go_wp2_with fail
      refine CC.out.mono ?_
      clear CC
      rintro e _ ⟨rfl, rfl⟩
      have e6 : decide (a3 ≤ 60) = true := by simpa using hk60
      have CC := Lib.hid (xempty_any (cap := cap2) ((H2.out.kept HR6.out.below (Nat.le_refl _)).mono HR6.out.below.size) a3 hk60)
      have HQ : Hid (∀ W, w.heap.size ≤ W.heap.size → Below w.heap.size w W → ∀ m : Int, m ≤ 100 → Calls Try.prog 23 #[.slice a2 len2 cap2, .int .i64 a3, .int .i64 m] W (L09.ListPost W ((emptyL (fun x => decide (x ∈ ms)) a3.toNat).take m.toNat))) := Lib.hid (fun W hz hW m hm => lempty_any ((H2.out.kept hW (Nat.le_refl _)).mono hz) (by omega) a3 (by omega) m (by omega))
      have hLl := emptyL_length (fun x => decide (x ∈ ms)) a3.toNat
      have HLm : Hid (∀ x ∈ emptyL (fun x => decide (x ∈ ms)) a3.toNat, (Lit.int .i64 x).wf = true) := Lib.hid (fun x hx => by
        obtain ⟨d, hd, rfl⟩ := emptyL_mem _ hx
        exact wf_small d (by omega))
      generalize emptyL (fun x => decide (x ∈ ms)) a3.toNat = L at *
      obtain ⟨nL, hnL⟩ : ∃ nL, L.length = nL := ⟨_, rfl⟩
      have HnL := Lib.hid hnL
      rw [hnL] at CC hLl
      have hL60 : nL ≤ 60 := by omega
      clear hnL hLl
      go_wp2_with fail
      refine CC.out.mono ?_
      clear CC
      rintro e x7 ⟨⟨gb, go', sp⟩, c3, b3, rfl, hc3, hI, hb⟩
      have HR7 := Lib.hid (HR6.out.on hb)
      have HI := Lib.hid hI
      clear hb hI HR6
      obtain ⟨c, hc⟩ : ∃ c : Nat, bits .and .i64 a6 15 = (c : Int) := ⟨(a6 % 16).toNat, by rw [and_15]; omega⟩
      have hc15 : c ≤ 15 := by have := and_15 a6; omega
      obtain ⟨m, hm⟩ : ∃ m, min c nL = m := ⟨_, rfl⟩
      have hmi : (if nL < c then (nL : Int) else (c : Int)) = (m : Int) := by split <;> omega
      have hmn : m ≤ nL := by omega
      have HTk : Hid (L.take c = L.take m) := Lib.hid (by
        by_cases h : c ≤ nL
        · rw [show m = c by omega]
        · rw [List.take_of_length_le (by rw [HnL.out]; omega), List.take_of_length_le (by rw [HnL.out]; omega)])
      have HTl : Hid ((L.take m).length = m) := Lib.hid (by rw [List.length_take, HnL.out]; omega)
      have HE1 : Hid (∀ W, Below x7.heap.size x7 W → Calls Try.prog 23 #[.slice a2 len2 cap2, .int .i64 a3, .int .i64 100] W (fun e w7 => ∃ a7 c7, e = .returned (.slice a7 nL c7) ∧ Hid (Below x7.heap.size x7 w7) ∧ Hid (∀ W8, Below w7.heap.size w7 W8 → Calls Try.prog 22 #[.slice a7 nL c7, .slice (some ⟨gb, go', sp⟩) nL c3] W8 (fun e w9 => e = .returned (.bool true) ∧ Below W8.heap.size W8 w9)))) := Lib.hid (fun W hW => by
        have hWw := HR7.out.below.trans (hW.mono HR7.out.below.size)
        refine (HQ.out W hWw.size hWw 100 (by omega)).mono ?_
        rintro e w7 ⟨v7, rfl, hg7, hb7⟩
        rw [List.take_of_length_le (by rw [HnL.out]; show nL ≤ 100; omega), HnL.out] at hg7
        obtain ⟨a7, c7, b7, rfl, _, _, _, hI7⟩ := Gath.ints (k := .i64) hg7 HnL.out HLm.out
        have h7 := hW.trans (hb7.mono hW.size)
        refine ⟨a7, c7, rfl, Lib.hid h7, Lib.hid fun W8 hW8 => ?_⟩
        have h := sameints_any (cap := c7) (cap' := c3) (hI7.kept hW8 (Nat.le_refl _)) (HI.out.kept (h7.trans (hW8.mono h7.size)) (Nat.le_refl _))
        simp only [decide_true] at h
        exact h)
      have HE2 : Hid (∀ W, Below x7.heap.size x7 W → Calls Try.prog 23 #[.slice a2 len2 cap2, .int .i64 a3, .int .i64 (c : Int)] W (fun e w7 => ∃ a7 c7, e = .returned (.slice a7 m c7) ∧ Hid (Below x7.heap.size x7 w7) ∧ Hid (∀ W8, Below w7.heap.size w7 W8 → ∀ cx, Calls Try.prog 22 #[.slice a7 m c7, .slice (some ⟨gb, go', sp⟩) m cx] W8 (fun e w9 => e = .returned (.bool true) ∧ Below W8.heap.size W8 w9)))) := Lib.hid (fun W hW => by
        have hWw := HR7.out.below.trans (hW.mono HR7.out.below.size)
        refine (HQ.out W hWw.size hWw (c : Int) (by omega)).mono ?_
        rintro e w7 ⟨v7, rfl, hg7, hb7⟩
        rw [Int.toNat_natCast, HTk.out, HTl.out] at hg7
        obtain ⟨a7, c7, b7, rfl, _, _, _, hI7⟩ := Gath.ints (k := .i64) hg7 HTl.out (fun x hx => HLm.out x (List.mem_of_mem_take hx))
        have h7 := hW.trans (hb7.mono hW.size)
        refine ⟨a7, c7, rfl, Lib.hid h7, Lib.hid fun W8 hW8 cx => ?_⟩
        have hIk := HI.out.kept (h7.trans (hW8.mono h7.size)) (Nat.le_refl _)
        have hIt : IntsAt .i64 x7.heap.size W8 (some ⟨gb, go', sp⟩) b3 0 m (L.take m) := ⟨hIk.addr.imp (fun e => by omega) id, HTl.out, by unfold maxLen; omega, hIk.below.imp (fun e => by omega) id, fun i hi => by
          rw [show (L.take m).getD i 0 = L.getD i 0 by simp [List.getD, hi]]
          exact hIk.cell i (by omega), fun x hx => hIk.fits x (List.mem_of_mem_take hx)⟩
        have h := sameints_any (cap := c7) (cap' := cx) (hI7.kept hW8 (Nat.le_refl _)) hIt
        simp only [decide_true] at h
        exact h)
      go_upto_region 15 with fail
      go_cut [105] from 88 to 105 (fun s105 wx => s105 = .bool false ∧ Hid (Below x7.heap.size x7 wx))
      case first =>
        have hki : (m : Int) ≤ (c3 : Int) := by omega
        have hk0 : (0 : Int) ≤ (m : Int) := by omega
        clear hm
        go_region_held3 (fun W => Below x7.heap.size x7 W) (first | exact Below.refl _ _ | exact (Below.refl _ _).drew | exact hB10.out | exact hB10.out.drew | exact hB9.out | exact hB9.out.drew | exact hB8.out | exact hB8.out.drew | exact hB7.out | exact hB7.out.drew) (first
          | (go_at_call 23; refine (HE1.out _ (by first | exact Below.refl _ _ | exact (Below.refl _ _).drew)).mono ?_; clear HE1; rintro e w7 ⟨a7, c7, rfl, hB7, hSM⟩)
          | (go_at_call 22; refine (hSM.out _ (by first | exact Below.refl _ _ | exact (Below.refl _ _).drew)).mono ?_; clear hSM; rintro e w8 ⟨rfl, hb⟩; have hB8 := Lib.hid (hB7.out.trans ((show Below w7.heap.size w7 w8 by first | exact hb | exact ((Below.refl w7.heap.size w7).drew).trans hb).mono hB7.out.size)); clear hb)
          | (go_at_call 23; refine (HE2.out _ (by first | exact hB8.out | exact hB8.out.drew)).mono ?_; clear HE2; rintro e w9 ⟨a9, c9, rfl, hB9, hSM2⟩)
          | (go_at_call 22; refine (hSM2.out _ (by first | exact Below.refl _ _ | exact (Below.refl _ _).drew) _).mono ?_; clear hSM2; rintro e w10 ⟨rfl, hb⟩; have hB10 := Lib.hid (hB9.out.trans ((show Below w9.heap.size w9 w10 by first | exact hb | exact ((Below.refl w9.heap.size w9).drew).trans hb).mono hB9.out.size)); clear hb))
        all_goals
          go_wp2_with fail
          go_meet
          exact ⟨rfl, by first | exact hB10 | exact Lib.hid hB10.out.drew⟩
      case rest =>
        obtain ⟨rfl, HB8⟩ := hcut
        have HR8 := Lib.hid (HR7.out.on HB8.out)
        clear HB8 HE1 HE2 HQ HTk HTl hmi hmn hc15 HI HR7
        cases r with
        | false =>
          have HRn := HR8
          clear HR8
          have CC := Lib.hid (cut_any (cap := cap2) HRn.out.one (by have := HZ30.out; omega) ((H2.out.kept HRn.out.below (Nat.le_refl _)).mono HRn.out.below.size) a3)
          rw [show cutF zs.length F ms a3 = 0 from if_neg (by rw [HRP.out]; simp)] at CC
          go_wp2_with fail
          refine CC.out.mono ?_
          clear CC
          rintro e y1 ⟨rfl, hb⟩
          have HRo := Lib.hid (HRn.out.on hb)
          clear hb HRn
          have CC := Lib.hid (weights_any (cap := cap2) HRo.out.one ((H2.out.kept HRo.out.below (Nat.le_refl _)).mono HRo.out.below.size) a3)
          go_wp2_with fail
          refine CC.out.mono ?_
          clear CC
          rintro e y2 hh
          obtain ⟨_, rfl, hb⟩ := hh.resolve_right (fun h => by have h0 := h.1; rw [HRP.out] at h0; cases h0)
          clear hh
          have HRp := Lib.hid (HRo.out.on hb)
          clear hb HRo
          have CC := Lib.hid (gain_any (cap := cap2) HRp.out.one ((H2.out.kept HRp.out.below (Nat.le_refl _)).mono HRp.out.below.size) a3 a4 a5)
          rw [show gainF zs.length F ms a3 a4 a5 = 0 from if_neg (by rw [HRP.out]; simp)] at CC
          go_wp2_with fail
          refine CC.out.mono ?_
          clear CC
          rintro e y3 ⟨rfl, hb⟩
          have HRq := Lib.hid (HRp.out.on hb)
          clear hb HRp
          have CC := Lib.hid (fits_any (cap := cap2) HRq.out.one ((H2.out.kept HRq.out.below (Nat.le_refl _)).mono HRq.out.below.size) a3)
          rw [show fitsF zs ms a3 = false from by unfold fitsF; rw [HRP.out]; rfl] at CC
          go_wp2_with fail
          refine CC.out.mono ?_
          clear CC
          rintro e y4 ⟨rfl, hb⟩
          have HRr := Lib.hid (HRq.out.on hb)
          clear hb HRq
          go_wp2
          go_ret
          exact ⟨by simp, HRr.out.below⟩
        | true =>
          obtain ⟨kk, rfl⟩ : ∃ kk : Nat, a3 = (kk : Int) := ⟨a3.toNat, by have := (rightP_t HRP.out).2.1.1; omega⟩
          have hrt := rightP_t HRP.out
          have HRT := Lib.hid hrt
          have hkk1 : 1 ≤ kk := by omega
          have hkk : kk ≤ 60 := by omega
          have HLn : Hid (len2 = zs.length) := Lib.hid (by rw [← HL2.out]; exact hrt.1)
          have HSb := Lib.hid (fun p => wtsT_bd ms HW.out zs.length (Nat.le_refl _) p)
          clear hrt hc hm HnL HLm hc3 hL60 e6
          obtain ⟨cc, hcc⟩ : ∃ cc, cuS ms (edgesD zs.length F) = cc := ⟨_, rfl⟩
          obtain ⟨gv, hgv⟩ : ∃ gv, gainF zs.length F ms (kk : Int) a4 a5 = gv := ⟨_, rfl⟩
          have HC1 : Hid (cutF zs.length F ms (kk : Int) = cc) := Lib.hid ((if_pos HRP.out).trans hcc)
          have HCC := Lib.hid hcc
          have HGV := Lib.hid hgv
          have CX := Lib.hid (xcut_any (cap := cap2) HR8.out.two HZ30.out (H2.out.kept HR8.out.below (Nat.le_refl _)) HR8.out.below.size HLn.out)
          unfold XD.val at CX
          rw [hcc] at CX
          clear hcc hgv
          have d0 := HR8.out.d0
          have d2 := HR8.out.d1
          go_wp2_with fail
          refine CX.out.mono ?_
          rintro e x9 ⟨rfl, hb⟩
          have HR9 := Lib.hid (HR8.out.on hb)
          clear hb HR8 CX d0 d2
          go_upto_region 21 with fail
          go_cut [156] from 140 to 156 (fun s156 wx => s156 = .bool (decide (0 ≤ a4 ∧ a4 < (len2 : Int) ∧ 0 ≤ a5 ∧ a5 < (kk : Int))) ∧ x9 = wx)
          case first =>
            by_cases p1 : 0 ≤ a4
            · have e1 : decide (0 ≤ a4) = true := by simpa using p1
              by_cases p2 : a4 < (len2 : Int)
              · have e2 : decide (a4 < (len2 : Int)) = true := by simpa using p2
                by_cases p3 : 0 ≤ a5
                · have e3 : decide (0 ≤ a5) = true := by simpa using p3
                  by_cases p4 : a5 < (kk : Int)
                  · have e4 : decide (a5 < (kk : Int)) = true := by simpa using p4
                    go_wp2_with fail
                    go_meet
                    exact ⟨congrArg Value.bool (decide_eq_true (p := 0 ≤ a4 ∧ a4 < (len2 : Int) ∧ 0 ≤ a5 ∧ a5 < (kk : Int)) ⟨p1, p2, p3, p4⟩).symm, rfl⟩
                  · have e4 : decide (a5 < (kk : Int)) = false := by simpa using p4
                    go_wp2_with fail
                    go_meet
                    exact ⟨congrArg Value.bool (decide_eq_false (p := 0 ≤ a4 ∧ a4 < (len2 : Int) ∧ 0 ≤ a5 ∧ a5 < (kk : Int)) (by omega)).symm, rfl⟩
                · have e3 : decide (0 ≤ a5) = false := by simpa using p3
                  go_wp2_with fail
                  go_meet
                  exact ⟨congrArg Value.bool (decide_eq_false (p := 0 ≤ a4 ∧ a4 < (len2 : Int) ∧ 0 ≤ a5 ∧ a5 < (kk : Int)) (by omega)).symm, rfl⟩
              · have e2 : decide (a4 < (len2 : Int)) = false := by simpa using p2
                go_wp2_with fail
                go_meet
                exact ⟨congrArg Value.bool (decide_eq_false (p := 0 ≤ a4 ∧ a4 < (len2 : Int) ∧ 0 ≤ a5 ∧ a5 < (kk : Int)) (by omega)).symm, rfl⟩
            · have e1 : decide (0 ≤ a4) = false := by simpa using p1
              go_wp2_with fail
              go_meet
              exact ⟨congrArg Value.bool (decide_eq_false (p := 0 ≤ a4 ∧ a4 < (len2 : Int) ∧ 0 ≤ a5 ∧ a5 < (kk : Int)) (by omega)).symm, rfl⟩
          case rest =>
            obtain ⟨rfl, rfl⟩ := hcut
            obtain ⟨q, hq⟩ : ∃ q, decide (0 ≤ a4 ∧ a4 < (len2 : Int) ∧ 0 ≤ a5 ∧ a5 < (kk : Int)) = q := ⟨_, rfl⟩
            rw [hq]
            have HQ := Lib.hid hq
            clear hq
            go_upto_if 156 with fail
            go_cut [23] from 156 to 164 (fun s23 wx => s23 = .int .i64 gv ∧ Hid (PtR w g nb lo xb X zs F wx))
            case first =>
              cases q with
              | false =>
                have hz : Value.int .i64 0 = .int .i64 gv := by
                  rw [← HGV.out, show gainF zs.length F ms (kk : Int) a4 a5 = 0 from if_neg (fun h => by
                    have h1 := of_decide_eq_true h.2.1
                    have h2 := of_decide_eq_true h.2.2
                    have h3 := of_decide_eq_false HQ.out
                    have h4 := HLn.out
                    exact h3 ⟨h1.1, by omega, h2.1, h2.2⟩)]
                have HZ := Lib.hid hz
                clear hz
                go_wp2_with fail
                go_meet
                exact ⟨HZ.out, HR9⟩
              | true =>
                have hg := of_decide_eq_true HQ.out
                obtain ⟨i4, rfl⟩ : ∃ i4 : Nat, a4 = (i4 : Int) := ⟨a4.toNat, by omega⟩
                obtain ⟨i5, rfl⟩ : ∃ i5 : Nat, a5 = (i5 : Int) := ⟨a5.toNat, by omega⟩
                have hi4l : i4 < len2 := by omega
                have hi5l : i5 < kk := by omega
                obtain rfl : a2 = some ⟨b2, off2, none⟩ := H2.out.addr.resolve_left (by omega)
                have hMs := set_mOf (ms := ms) (i := i4) (by rw [HL2.out]; exact hi4l) (i5 : Int)
                have hcg := cut_gain HT.out (ms := ms) (ms' := ms.set i4 (i5 : Int)) (i := i4) (tq := (i5 : Int)) (by rw [← HLn.out]; exact hi4l) hMs.1 hMs.2
                have hgg : gnS ms i4 (i5 : Int) (rowOf zs.length (F i4)) = gv := by
                  rw [← HGV.out]
                  exact ((if_pos ⟨HRP.out, decide_eq_true ⟨by omega, by rw [← HLn.out]; omega⟩, decide_eq_true ⟨by omega, by omega⟩⟩).trans (by rw [Int.toNat_natCast])).symm
                rw [HCC.out, hgg] at hcg
                have hDl : (edgesD zs.length F).length ≤ 900 := Nat.le_trans (upTo_len _ _ _) (by rw [HL0.out]; have := Nat.mul_le_mul hl30 hl30; omega)
                have hEb : ∀ x ∈ edgesD zs.length F, 0 ≤ x.2.2 ∧ x.2.2 ≤ 1099511627776 := fun x hx => by
                  obtain ⟨p, q, _, _, _, e, _⟩ := mem_upTo _ hx
                  rw [e]; exact ⟨HT.out.lo p q, HT.out.hi p q⟩
                have hb1 := cuS_bd ms (edgesD zs.length F) hEb
                have hb2 := cuS_bd (ms.set i4 (i5 : Int)) (edgesD zs.length F) hEb
                rw [HCC.out] at hb1
                obtain ⟨c2, hc2⟩ : ∃ c2, cuS (ms.set i4 (i5 : Int)) (edgesD zs.length F) = c2 := ⟨_, rfl⟩
                rw [hc2] at hcg hb2
                have hw : IntKind.i64.wrap (cc - c2) = gv := by rw [← hcg]; exact IntWalk.i64_in _ (by omega)
                have HMv : Hid (∀ W, Below x9.heap.size x9 W → Calls Try.prog 29 #[.slice (some ⟨b2, off2, none⟩) len2 cap2, .int .i64 (i4 : Int), .int .i64 (i5 : Int)] W (fun e w7 => ∃ g7 c7, e = .returned (.slice (some ⟨g7, 0, none⟩) len2 c7) ∧ Hid (Below x9.heap.size x9 w7) ∧ Hid (∀ W8, Below w7.heap.size w7 W8 → Calls Try.prog 28 #[.agg #[.slice X.wa zs.length X.wc, .slice X.ra zs.length X.rc], .slice (some ⟨g7, 0, none⟩) len2 c7] W8 (fun e w9 => e = .returned (.int .i64 c2) ∧ Below W8.heap.size W8 w9)))) := Lib.hid (fun W hW => by
                  have hWw := HR9.out.below.trans (hW.mono HR9.out.below.size)
                  refine (xmove_any (cap := cap2) ((H2.out.kept hWw (Nat.le_refl _)).mono hWw.size) hl260 hi4l (v := i5) (by omega)).mono ?_
                  rintro e w7 ⟨g7, c7, rfl, hI7, hb7⟩
                  have h7 := hW.trans (hb7.mono hW.size)
                  refine ⟨g7, c7, rfl, Lib.hid h7, Lib.hid fun W8 hW8 => ?_⟩
                  have h := xcut_any (cap := c7) (HR9.out.on (h7.trans (hW8.mono h7.size))).two HZ30.out (hI7.kept hW8 (Nat.le_refl _)) hW8.size HLn.out
                  unfold XD.val at h
                  rw [hc2] at h
                  exact h)
                have s0 : ∀ W, Below x9.heap.size x9 W → W.cell? ⟨xb, 0, none⟩ = some (.slice X.wa zs.length X.wc) := fun W hW => (HR9.out.on hW).d0
                have s1 : ∀ W, Below x9.heap.size x9 W → W.cell? ⟨xb, 1, none⟩ = some (.slice X.ra zs.length X.rc) := fun W hW => (HR9.out.on hW).d1
                clear hMs hcg hgg hDl hEb hb1 hb2 hc2 hg HQ
                go_upto_region 22 with fail
                go_region_held3 (fun W => Below x9.heap.size x9 W) (first | exact Below.refl _ _ | exact (Below.refl _ _).drew | exact hB8.out | exact hB8.out.drew | exact hB7.out | exact hB7.out.drew) (first
                  | (go_at_call 29; refine (HMv.out _ (by first | exact Below.refl _ _ | exact (Below.refl _ _).drew)).mono ?_; clear HMv; rintro e w7 ⟨a7, c7, rfl, hB7, hSM⟩)
                  | (go_at_call 28; refine (hSM.out _ (by first | exact Below.refl _ _ | exact (Below.refl _ _).drew)).mono ?_; clear hSM; rintro e w8 ⟨rfl, hb⟩; have hB8 := Lib.hid (hB7.out.trans ((show Below w7.heap.size w7 w8 by first | exact hb | exact ((Below.refl w7.heap.size w7).drew).trans hb).mono hB7.out.size)); clear hb))
                all_goals
                  go_wp2_with fail
                  go_meet
                  exact ⟨rfl, by first | exact Lib.hid (HR9.out.on hB8.out) | exact Lib.hid (HR9.out.on hB8.out.drew)⟩
            case rest =>
              obtain ⟨rfl, HR10⟩ := hcut
              clear HR9 HQ
              have CC := Lib.hid (xweights_any (cap := cap2) HR10.out.two HW.out (H2.out.kept HR10.out.below (Nat.le_refl _)) HR10.out.below.size HRP.out)
              unfold XD.val at CC
              have d0 := HR10.out.d0
              have d2 := HR10.out.d1
              go_wp2_with fail
              refine CC.out.mono ?_
              clear CC
              rintro e x11 ⟨wb, rfl, hWt⟩
              have HR11 := Lib.hid (HR10.out.on hWt.below)
              have HWa := Lib.hid hWt
              clear hWt HR10 d0 d2
              have CC := Lib.hid (weights_any (cap := cap2) HR11.out.one ((H2.out.kept HR11.out.below (Nat.le_refl _)).mono HR11.out.below.size) (kk : Int))
              go_wp2_with fail
              refine CC.out.mono ?_
              clear CC
              rintro e x12 (⟨h0, _⟩ | ⟨_, wb2, rfl, hWt⟩)
              · rw [HRP.out] at h0; cases h0
              rw [Int.toNat_natCast] at hWt ⊢
              have HR12 := Lib.hid (HR11.out.on hWt.below)
              have HWb := Lib.hid hWt
              have HWa2 := Lib.hid (HWa.out.on hWt.below)
              clear hWt HR11 HWa
              have CC := Lib.hid (cut_any (cap := cap2) HR12.out.one (by have := HZ30.out; omega) ((H2.out.kept HR12.out.below (Nat.le_refl _)).mono HR12.out.below.size) (kk : Int))
              rw [HC1.out] at CC
              go_wp2_with fail
              refine CC.out.mono ?_
              clear CC
              rintro e x13 ⟨rfl, hb⟩
              have HR13 := Lib.hid (HR12.out.on hb)
              have HWb3 := Lib.hid (HWb.out.on hb)
              have HWa3 := Lib.hid (HWa2.out.on hb)
              clear hb HR12 HWb HWa2
              have CC := Lib.hid (gain_any (cap := cap2) HR13.out.one ((H2.out.kept HR13.out.below (Nat.le_refl _)).mono HR13.out.below.size) (kk : Int) a4 a5)
              rw [HGV.out] at CC
              go_wp2_with fail
              refine CC.out.mono ?_
              clear CC
              rintro e x14 ⟨rfl, hb⟩
              have HR14 := Lib.hid (HR13.out.on hb)
              have HWb4 := Lib.hid (HWb3.out.on hb)
              have HWa4 := Lib.hid (HWa3.out.on hb)
              clear hb HR13 HWb3 HWa3
              go_wp2
              have HO := Lib.hid (fun j => overs_succ (wtsT zs ms zs.length) j bd)
              go_loopw [26, 198] (fun fv i wr => ∃ j : Nat, i = .int .i64 j ∧ j ≤ kk ∧ fv = .bool (!overs (wtsT zs ms zs.length) j bd) ∧ Hid (Below x14.heap.size x14 wr)) (fun _ i _ => kk - (intOf i).toNat)
              case atStart => exact ⟨0, rfl, Nat.zero_le _, rfl, Lib.hid (Below.refl _ _)⟩
              case round =>
                obtain ⟨j, rfl, hj, rfl, HX⟩ := hrel
                by_cases hlt : j < kk
                · have hc1 := heap_cell (HWb4.out.on HX.out).row (rowC_at (wtsT zs ms zs.length) hlt)
                  have hc2 := heap_cell (HWa4.out.on HX.out).row (rowC_at (wtsT zs ms zs.length) hlt)
                  have hO := HO.out j
                  generalize wtsT zs ms zs.length j = y at *
                  generalize overs (wtsT zs ms zs.length) j bd = ov at *
                  have HOv := Lib.hid hO
                  clear hO
                  cases ov with
                  | true =>
                    have HS : Hid (overs (wtsT zs ms zs.length) (j + 1) bd = true) := Lib.hid (by rw [HOv.out]; rfl)
                    clear HOv
                    go_wp2
                    go_quiet (fail)
                    have hdr : Below wr.heap.size wr (wr.drewN nq) := ⟨rfl, rfl, rfl, Nat.le_refl _, fun _ _ => rfl⟩
                    have HX' := Lib.hid (HX.out.trans (hdr.mono HX.out.size))
                    clear hdr
                    go_wp2
                    go_roundw
                    case rel => exact ⟨j + 1, by go_num, by omega, by rw [HS.out]; rfl, HX'⟩
                    case measure => simp [intOf]; omega
                  | false =>
                    by_cases hy : y ≤ bd
                    · have hd : decide (y ≤ bd) = true := by simpa using hy
                      have HS : Hid (overs (wtsT zs ms zs.length) (j + 1) bd = false) := Lib.hid (by rw [HOv.out]; simp; omega)
                      clear HOv hy
                      go_wp2
                      go_quiet (fail)
                      have hdr : Below wr.heap.size wr (wr.drewN nq) := ⟨rfl, rfl, rfl, Nat.le_refl _, fun _ _ => rfl⟩
                      have HX' := Lib.hid (HX.out.trans (hdr.mono HX.out.size))
                      have hc3 : (wr.drewN nq).cell? ⟨wb, j, none⟩ = some (.int .i64 y) := hc2
                      clear hdr
                      go_wp2
                      go_roundw
                      case rel => exact ⟨j + 1, by go_num, by omega, by rw [HS.out]; rfl, HX'⟩
                      case measure => simp [intOf]; omega
                    · have hd : decide (y ≤ bd) = false := by simpa using hy
                      have HS : Hid (overs (wtsT zs ms zs.length) (j + 1) bd = true) := Lib.hid (by rw [HOv.out]; simp; omega)
                      clear HOv hy
                      go_wp2
                      go_quiet (fail)
                      have hdr : Below wr.heap.size wr (wr.drewN nq) := ⟨rfl, rfl, rfl, Nat.le_refl _, fun _ _ => rfl⟩
                      have HX' := Lib.hid (HX.out.trans (hdr.mono HX.out.size))
                      have hc3 : (wr.drewN nq).cell? ⟨wb, j, none⟩ = some (.int .i64 y) := hc2
                      clear hdr
                      go_wp2
                      go_roundw
                      case rel => exact ⟨j + 1, by go_num, by omega, by rw [HS.out]; rfl, HX'⟩
                      case measure => simp [intOf]; omega
                · obtain rfl : j = kk := by omega
                  have HRe := Lib.hid (HR14.out.on HX.out)
                  have CC := Lib.hid (fits_any (cap := cap2) HRe.out.one ((H2.out.kept HRe.out.below (Nat.le_refl _)).mono HRe.out.below.size) (j : Int))
                  rw [show fitsF zs ms (j : Int) = !overs (wtsT zs ms zs.length) j bd from by unfold fitsF; rw [HRP.out, HBD.out, Int.toNat_natCast]; rfl] at CC
                  generalize overs (wtsT zs ms zs.length) j bd = ov at *
                  go_wp2_with fail
                  refine CC.out.mono ?_
                  clear CC
                  rintro e y4 ⟨rfl, hb⟩
                  have HRf := Lib.hid (HRe.out.on hb)
                  clear hb HRe
                  cases ov <;>
                  · go_wp2
                    go_ret
                    exact ⟨by simp, HRf.out.below⟩

end Go.Proofs.Ytdbhnkccgbofhaa.L09
