/- The walk of GrowHalves. -/
import Derived.Test.YtepmgjohjeiopaaXs
import Derived.Test.YtepmgjohjeiopaaXl
set_option linter.unusedVariables false
set_option linter.unusedSectionVars false
namespace Go.Proofs.Ytepmgjohjeiopaa.L12
open Go.RowKit Go.Shelf Rk

theorem and_15 (n : Int) : bits .and .i64 n 15 = n % 16 := by
  have h511 : (BitVec.ofInt 64 15).toNat = 2 ^ 4 - 1 := by decide
  have key : (BitVec.ofInt 64 n &&& BitVec.ofInt 64 15).toNat = (n % ((2 ^ 64 : Nat) : Int)).toNat % 2 ^ 4 := by
    rw [BitVec.toNat_and, BitVec.toNat_ofInt, h511, Nat.and_two_pow_sub_one_eq_mod]
  show IntKind.i64.wrap ((BitVec.ofInt 64 n &&& BitVec.ofInt 64 15).toNat : Nat) = n % 16
  rw [key, IntKind.wrap_i64]
  omega
/-- Both halvings, and that they are the same. -/
theorem gh_two {w0 x : World} {g nb Bx lo : Nat} {X : XD} {zs : List Int} {F : Nat → Nat → Int} (h : BothR w0 g nb Bx lo X zs F x) (hn30 : zs.length ≤ 30) (most : Int) (hm1 : -9223372036854775808 ≤ most) (hm2 : most ≤ 9223372036854775807) :
    ∀ W, Below x.heap.size x W → Calls Try.prog 33 #[.pointer (some ⟨g, 0, none⟩), .int .i64 most] W (fun e w7 => ∃ pb, e = .returned (.slice (some ⟨pb, 0, none⟩) zs.length zs.length) ∧ Hid (Below x.heap.size x w7) ∧ Hid (∀ W8, Below w7.heap.size w7 W8 → Calls Try.prog 34 #[.agg #[.slice X.wa zs.length X.wc, .slice X.ra zs.length X.rc], .int .i64 most] W8 (fun e w8 => ∃ ad c, e = .returned (.slice (some ad) zs.length c) ∧ Hid (Below x.heap.size x w8) ∧ Hid (∀ W9, Below w8.heap.size w8 W9 → Calls Try.prog 20 #[.slice (some ⟨pb, 0, none⟩) zs.length zs.length, .slice (some ad) zs.length c] W9 (fun e w9 => e = .returned (.bool true) ∧ Hid (Below x.heap.size x w9)))))) := fun W hW => by
  refine (halveI_any (h.on hW).one hn30 most hm1 hm2).mono ?_
  rintro e w7 ⟨pb, rfl, hp, _, hb⟩
  have h7 := hW.trans (hb.mono hW.size)
  refine ⟨pb, rfl, Lib.hid h7, Lib.hid fun W8 hW8 => ?_⟩
  have h8 := h7.trans (hW8.mono h7.size)
  refine (xhalve_any (h.on h8).two h.one.wts hn30 most).mono ?_
  rintro e w8 ⟨ad, c, b', rfl, _, hi, hb8⟩
  have h9 := h8.trans (hb8.mono h8.size)
  refine ⟨ad, c, rfl, Lib.hid h9, Lib.hid fun W9 hW9 => ?_⟩
  have hs := sameints_any (cap := zs.length) (cap' := c) (((hp.kept hW8 (Nat.le_refl _)).mono hW8.size |>.kept hb8 (Nat.le_refl _)).mono hb8.size |>.kept hW9 (Nat.le_refl _)) (hi.kept hW9 (Nat.le_refl _))
  rw [decide_eq_true rfl] at hs
  exact hs.mono (fun e w' ⟨he, hb⟩ => ⟨he, Lib.hid (h9.trans ((hW9.trans (hb.mono hW9.size)).mono h9.size))⟩)
/-- What is in a part, up to so many, and that it is what lies in a row. -/
theorem gh_side {x : World} {a : Option Addr} {b off len cap : Nat} {ms : List Int} (hms : IntsAt .i64 x.heap.size x a b off len ms) (h0 : a = none → len = 0 ∧ cap = 0) (hlen : len ≤ 60) (k m : Int) (hm : m ≤ 100000) {T : List Int} {t : Nat} (hT : (sideL ms k ms.length).take m.toNat = T) (ht : T.length = t) {ad : Addr} {b3 : Nat} (hI : IntsAt .i64 x.heap.size x (some ad) b3 0 t T) :
    ∀ W, Below x.heap.size x W → Calls Try.prog 36 #[.slice a len cap, .int .i64 k, .int .i64 m] W (fun e w7 => ∃ a7 c7, e = .returned (.slice a7 t c7) ∧ Hid (Below x.heap.size x w7) ∧ Hid (∀ W8, Below w7.heap.size w7 W8 → ∀ cx, Calls Try.prog 20 #[.slice a7 t c7, .slice (some ad) t cx] W8 (fun e w8 => e = .returned (.bool true) ∧ Hid (Below x.heap.size x w8)))) := fun W hW => by
  refine (lside_any ((hms.kept hW (Nat.le_refl _)).mono hW.size) h0 (by omega) k m hm).mono ?_
  rintro e w7 ⟨v7, rfl, hg7, hb7⟩
  rw [hT, ht] at hg7
  have hwf : ∀ y ∈ T, (Lit.int .i64 y).wf = true := fun y hy => by
    rw [← hT] at hy
    obtain ⟨d, hd, _, rfl⟩ := mem_sideL.1 (List.mem_of_mem_take hy)
    exact wf_small d (by have := hms.length; omega)
  obtain ⟨a7, c7, b7, rfl, _, _, _, hI7⟩ := Gath.ints (k := .i64) hg7 ht hwf
  have h7 := hW.trans (hb7.mono hW.size)
  refine ⟨a7, c7, rfl, Lib.hid h7, Lib.hid fun W8 hW8 cx => ?_⟩
  have h8 := h7.trans (hW8.mono h7.size)
  have hs := sameints_any (cap := c7) (cap' := cx) (hI7.kept hW8 (Nat.le_refl _)) (hI.kept h8 (Nat.le_refl _))
  rw [decide_eq_true rfl] at hs
  exact hs.mono (fun e w' ⟨he, hb⟩ => ⟨he, Lib.hid (h8.trans (hb.mono h8.size))⟩)
set_option maxRecDepth 100000 in
set_option maxHeartbeats 8000000 in
theorem walk_GrowHalves (a0 : Option Addr) (len0 cap0 : Nat) (z0 : List Int) (a1 : Option Addr) (len1 cap1 : Nat) (z1 : List RopV) (a2 : Int) (a3 : Option Addr) (len3 cap3 : Nat) (z3 : List Int) (a4 a5 a6 : Int) (w : World) (w0 : IsRow .i64 w a0 len0 cap0 z0) (w1 : IsRops w a1 len1 cap1 z1) (w2 : (Lit.int .i64 a2).wf = true) (w3 : IsRow .i64 w a3 len3 cap3 z3) (w4 : (Lit.int .i64 a4).wf = true) (w5 : (Lit.int .i64 a5).wf = true) (w6 : (Lit.int .i64 a6).wf = true) :
    Calls Try.prog 4 #[.slice a0 len0 cap0, .slice a1 len1 cap1, .int .i64 a2, .slice a3 len3 cap3, .int .i64 a4, .int .i64 a5, .int .i64 a6] w fun e w' => e = .returned (.bool true) ∧ Below w.heap.size w w' := by
  obtain ⟨b0, off0, zs, hi0, hn0⟩ := w0.zz
  obtain ⟨_, b1, off1, hi1⟩ := w1
  have H0 := Lib.hid hi0
  have HN := Lib.hid hn0
  have H1 := Lib.hid hi1
  obtain rfl := hi0.length
  clear w0 hi0 hn0 hi1
  go_enter Try.func4, Try.ntmps4
  go_wp2_with fail
  refine (alive_any _).mono ?_
  rintro e x1 ⟨rfl, hB1⟩
  have HB1 := Lib.hid hB1
  have HBd := Lib.hid (build_any (cap0 := cap0) (cap1 := cap1) ((H0.out.kept hB1 (Nat.le_refl _)).mono hB1.size) HN.out ((H1.out.kept hB1 (Nat.le_refl _)).mono hB1.size))
  have z1s := hB1.size
  clear hB1
  go_wp2_with fail
  refine HBd.out.mono ?_
  rintro e x2 ⟨hB, hc⟩
  have HB2 := Lib.hid (HB1.out.trans (hB.mono z1s))
  clear hB HBd
  rcases hc with ⟨_, rfl⟩ | ⟨⟨hl30, _⟩, g, nb, lo, Bx, X, rfl, hR, _, _⟩
  · have HB3 := Lib.hid (HB2.out.alloc HB2.out.size (.cells #[.slice none 0 0, .slice none 0 0] 29))
    go_wp2
    go_ret
    exact ⟨by simp, HB3.out⟩
  have hR' := hR.base HB1.out
  have hal := (Below.refl x2.heap.size x2).alloc (Nat.le_refl _) (.cells #[.slice X.wa zs.length X.wc, .slice X.ra zs.length X.rc] 29)
  have HR := Lib.hid (hR'.on hal)
  have HW := Lib.hid hR.one.wts
  have HTab := Lib.hid hR.one.tab
  clear hR hR' hal HB2 HB1 z1s
  unfold XD.val
  obtain ⟨b3, off3, ms, hi3, hn3⟩ := w3.zz
  obtain rfl := hi3.length
  have H3 := Lib.hid hi3
  have HN3 := Lib.hid hn3
  obtain ⟨ha2, ha2'⟩ := bounds_i64 w2
  have HXb : Hid ((x2.alloc (.cells #[.slice X.wa zs.length X.wc, .slice X.ra zs.length X.rc] 29)).heap[x2.heap.size]? = some (.cells #[.slice X.wa zs.length X.wc, .slice X.ra zs.length X.rc] 29 (0, 0))) := Lib.hid (heap_new (w := x2) _ rfl)
  clear w2 w3 w4 w5 w6 hi3 hn3
  go_upto_region 4 with fail
  revert HR HXb
  generalize x2.heap.size = xb
  generalize x2.alloc (.cells #[.slice X.wa zs.length X.wc, .slice X.ra zs.length X.rc] 29) = x3
  intro HR HXb
  by_cases h60 : 60 < ms.length
  · have d0 : decide (60 < (ms.length : Int)) = true := by simp; omega
    go_wp2
    go_ret
    exact ⟨by simp, HR.out.below⟩
  have d0 : decide (60 < (ms.length : Int)) = false := by simp; omega
  have HXc : Hid (∀ W, Below x3.heap.size x3 W → W.cell? ⟨xb, 0, none⟩ = some (.slice X.wa zs.length X.wc) ∧ W.cell? ⟨xb, 1, none⟩ = some (.slice X.ra zs.length X.rc)) := Lib.hid (fun W hW => ⟨heap_cell (heap_below HXb.out hW (heap_lt HXb.out)) rfl, heap_cell (heap_below HXb.out hW (heap_lt HXb.out)) rfl⟩)
  obtain ⟨k0, k1⟩ := HXc.out _ (Below.refl _ _)
  obtain ⟨F, hF⟩ : ∃ F, joins zs.length noTab z1 = F := ⟨_, rfl⟩
  rw [hF] at HR HTab
  obtain ⟨pv, hpv⟩ : ∃ v, pullA zs.length F ms a4 = v := ⟨_, rfl⟩
  have HPv := Lib.hid hpv
  clear hpv hF
  go_upto_region 7 with fail
  go_cut [51] from 37 to 51 (fun s51 wx => s51 = .bool (decide (ms.length = zs.length ∧ 0 ≤ a4 ∧ a4 < (ms.length : Int))) ∧ x3 = wx)
  case first =>
    by_cases h1 : ms.length = zs.length
    · have e1 : ((ms.length : Int) == (zs.length : Int)) = true := by simp; omega
      have HH1 := Lib.hid h1
      clear h1
      by_cases h2 : 0 ≤ a4
      · have e2 : decide (0 ≤ a4) = true := by simpa using h2
        by_cases h3 : a4 < (ms.length : Int)
        · have e3 : decide (a4 < (ms.length : Int)) = true := by simpa using h3
          go_wp2_with fail
          go_meet
          exact ⟨congrArg Value.bool (decide_eq_true (p := ms.length = zs.length ∧ 0 ≤ a4 ∧ a4 < (ms.length : Int)) ⟨HH1.out, h2, h3⟩).symm, rfl⟩
        · have e3 : decide (a4 < (ms.length : Int)) = false := by simpa using h3
          go_wp2_with fail
          go_meet
          exact ⟨congrArg Value.bool (decide_eq_false (p := ms.length = zs.length ∧ 0 ≤ a4 ∧ a4 < (ms.length : Int)) (by omega)).symm, rfl⟩
      · have e2 : decide (0 ≤ a4) = false := by simpa using h2
        go_wp2_with fail
        go_meet
        exact ⟨congrArg Value.bool (decide_eq_false (p := ms.length = zs.length ∧ 0 ≤ a4 ∧ a4 < (ms.length : Int)) (by omega)).symm, rfl⟩
    · have e1 : ((ms.length : Int) == (zs.length : Int)) = false := by simp; omega
      go_wp2_with fail
      go_meet
      exact ⟨congrArg Value.bool (decide_eq_false (p := ms.length = zs.length ∧ 0 ≤ a4 ∧ a4 < (ms.length : Int)) (by omega)).symm, rfl⟩
  case rest =>
  obtain ⟨rfl, rfl⟩ := hcut
  obtain ⟨qc, hqc⟩ : ∃ q, decide (ms.length = zs.length ∧ 0 ≤ a4 ∧ a4 < (ms.length : Int)) = q := ⟨_, rfl⟩
  rw [hqc]
  have HQ := Lib.hid hqc
  clear hqc
  go_upto_if 51 with fail
  go_cut [18] from 51 to 55 (fun s18 wx => s18 = .int .i64 pv ∧ Hid (Below x3.heap.size x3 wx))
  case first =>
    cases qc with
    | false =>
      have hz : Value.int .i64 0 = .int .i64 pv := by
        rw [← HPv.out]
        have h3 := of_decide_eq_false HQ.out
        by_cases h1 : ms.length = zs.length
        · rw [pullA_out (fun h => h3 ⟨h1, h.1, by omega⟩)]
        · rw [show pullA zs.length F ms a4 = 0 from if_neg h1]
      have HZ := Lib.hid hz
      clear hz
      go_wp2_with fail
      go_meet
      exact ⟨HZ.out, Lib.hid (Below.refl _ _)⟩
    | true =>
      obtain ⟨h1, h2, h3⟩ := of_decide_eq_true HQ.out
      obtain ⟨i, rfl⟩ : ∃ i : Nat, a4 = (i : Int) := ⟨a4.toNat, by omega⟩
      have CX := xpull_any (cap := cap3) HR.out.two hl30 ((H3.out.kept HR.out.below (Nat.le_refl _)).mono HR.out.below.size) (Nat.le_refl _) h1 (i := i) (by omega)
      unfold XD.val at CX
      rw [← pullA_nat HTab.out h1 (by omega), HPv.out] at CX
      have CX := Lib.hid CX
      clear h1 h2 h3
      go_wp2_with fail
      refine CX.out.mono ?_
      rintro e y ⟨rfl, hb⟩
      have HY := Lib.hid hb
      clear hb
      go_wp2_with fail
      go_meet
      exact ⟨rfl, HY⟩
  case rest =>
    obtain ⟨rfl, HB4⟩ := hcut
    rename World => x4
    have HR4 := Lib.hid (HR.out.on HB4.out)
    have HM4 := Lib.hid ((H3.out.kept HR4.out.below (Nat.le_refl _)).mono HR4.out.below.size)
    have CS := Lib.hid (xside_any (cap := cap3) HM4.out (by omega) a5)
    go_wp2_with fail
    refine CS.out.mono ?_
    rintro e x5 ⟨⟨gb, go', sp⟩, c3, b5, rfl, hc3, hI, hb⟩
    have HR5 := Lib.hid (HR4.out.on hb)
    have HM5 := Lib.hid ((HM4.out.kept hb (Nat.le_refl _)).mono hb.size)
    have HX5 : Hid (∀ W, Below x5.heap.size x5 W → W.cell? ⟨xb, 0, none⟩ = some (.slice X.wa zs.length X.wc) ∧ W.cell? ⟨xb, 1, none⟩ = some (.slice X.ra zs.length X.rc) ∧ Hid (Below x5.heap.size x5 W)) := Lib.hid (fun W hW => by
      have h5 := HB4.out.trans (hb.mono HB4.out.size)
      obtain ⟨k0, k1⟩ := HXc.out _ (h5.trans (hW.mono h5.size))
      exact ⟨k0, k1, Lib.hid hW⟩)
    have HI := Lib.hid hI
    have hL60 := sideL_length ms a5 ms.length
    obtain ⟨L, hL⟩ : ∃ L, sideL ms a5 ms.length = L := ⟨_, rfl⟩
    rw [hL] at HI hL60 hc3 ⊢
    obtain ⟨nL, hnL⟩ : ∃ nL, L.length = nL := ⟨_, rfl⟩
    rw [hnL] at HI hL60 hc3 ⊢
    obtain ⟨c, hc⟩ : ∃ c : Nat, bits .and .i64 a6 15 = (c : Int) := ⟨(a6 % 16).toNat, by rw [and_15]; omega⟩
    have hc15 : c ≤ 15 := by have := and_15 a6; omega
    obtain ⟨m, hm⟩ : ∃ m, min c nL = m := ⟨_, rfl⟩
    have hmi : (if nL < c then (nL : Int) else (c : Int)) = (m : Int) := by split <;> omega
    have hmn : m ≤ nL := by omega
    have hTk : L.take c = L.take m := by
      by_cases h : c ≤ nL
      · rw [show m = c by omega]
      · rw [List.take_of_length_le (by omega), List.take_of_length_le (by omega)]
    have hTl : (L.take m).length = m := by rw [List.length_take, hnL]; omega
    have hIt : IntsAt .i64 x5.heap.size x5 (some ⟨gb, go', sp⟩) b5 0 m (L.take m) := ⟨HI.out.addr.imp (fun e => by omega) id, hTl, by unfold maxLen; omega, HI.out.below.imp (fun e => by omega) id, fun i hi => by
      rw [show (L.take m).getD i 0 = L.getD i 0 by simp [List.getD, hi]]
      exact HI.out.cell i (by omega), fun x hx => HI.out.fits x (List.mem_of_mem_take hx)⟩
    have HT := Lib.hid (gh_two HR5.out hl30 a2 ha2 ha2')
    have HE1 := Lib.hid (gh_side HM5.out HN3.out (by omega) a5 100 (by decide) (T := L) (by rw [hL]; exact List.take_of_length_le (by rw [hnL]; show nL ≤ 100; omega)) hnL HI.out)
    have HE2 := Lib.hid (gh_side HM5.out HN3.out (by omega) a5 (c : Int) (by omega) (by rw [hL, Int.toNat_natCast]; exact hTk) hTl hIt)
    have CP : Hid (∀ W, Below x5.heap.size x5 W → Calls Try.prog 35 #[.pointer (some ⟨g, 0, none⟩), .slice a3 ms.length cap3, .int .i64 a4] W (fun e w' => e = .returned (.int .i64 pv) ∧ Hid (Below x5.heap.size x5 w'))) := Lib.hid (fun W hW => (pull_lit (cap := cap3) (HR5.out.on hW).one hl30 ((HM5.out.kept hW (Nat.le_refl _)).mono hW.size) a4 HPv.out).mono (fun e w' ⟨he, hb⟩ => ⟨he, Lib.hid (hW.trans (hb.mono hW.size))⟩))
    have hki : (m : Int) ≤ (c3 : Int) := by omega
    have hk0 : (0 : Int) ≤ (m : Int) := by omega
    obtain ⟨q0, q1, _⟩ := HX5.out _ (Below.refl _ _)
    clear hb hI hIt hTk hTl hnL hL HI HR4 HM4 CS HB4 HXc HXb H3 HN3 hm
    go_upto_region 11 with fail
    go_region_held3 (fun W => W.cell? ⟨xb, 0, none⟩ = some (.slice X.wa zs.length X.wc) ∧ W.cell? ⟨xb, 1, none⟩ = some (.slice X.ra zs.length X.rc) ∧ Hid (Below x5.heap.size x5 W)) (first | exact HX5.out _ (Below.refl _ _) | exact HX5.out _ (Below.refl _ _).drew | exact HX5.out _ hB8.out | exact HX5.out _ hB8.out.drew | exact HX5.out _ hB7.out | exact HX5.out _ hB7.out.drew | exact HX5.out _ hB6.out | exact HX5.out _ hB6.out.drew | exact HX5.out _ hB5.out | exact HX5.out _ hB5.out.drew | exact HX5.out _ hB4.out | exact HX5.out _ hB4.out.drew | exact HX5.out _ hB3.out | exact HX5.out _ hB3.out.drew | exact HX5.out _ hB2.out | exact HX5.out _ hB2.out.drew | exact HX5.out _ hB1.out | exact HX5.out _ hB1.out.drew) (first
      | (go_at_call 33; refine (HT.out _ (by first | exact Below.refl _ _ | exact (Below.refl _ _).drew)).mono ?_; clear HT; rintro e u1 ⟨hpb, rfl, hB1, hT1⟩)
      | (go_at_call 34; refine (hT1.out _ (by first | exact Below.refl _ _ | exact (Below.refl _ _).drew)).mono ?_; clear hT1; rintro e u2 ⟨ad2, c2, rfl, hB2, hT2⟩)
      | (go_at_call 20; refine (hT2.out _ (by first | exact Below.refl _ _ | exact (Below.refl _ _).drew)).mono ?_; clear hT2; rintro e u3 ⟨rfl, hB3⟩)
      | (go_at_call 35; refine (CP.out _ (by first | exact hB3.out | exact hB3.out.drew)).mono ?_; clear CP; rintro e u4 ⟨rfl, hB4⟩)
      | (go_at_call 36; refine (HE1.out _ (by first | exact hB4.out | exact hB4.out.drew)).mono ?_; clear HE1; rintro e u5 ⟨a7, c7, rfl, hB5, hS1⟩)
      | (go_at_call 20; refine (hS1.out _ (by first | exact Below.refl _ _ | exact (Below.refl _ _).drew) _).mono ?_; clear hS1; rintro e u6 ⟨rfl, hB6⟩)
      | (go_at_call 36; refine (HE2.out _ (by first | exact hB6.out | exact hB6.out.drew)).mono ?_; clear HE2; rintro e u7 ⟨a8, c8, rfl, hB7, hS2⟩)
      | (go_at_call 20; refine (hS2.out _ (by first | exact Below.refl _ _ | exact (Below.refl _ _).drew) _).mono ?_; clear hS2; rintro e u8 ⟨rfl, hB8⟩))
    all_goals
      go_wp2_with fail
      go_ret
      exact ⟨rfl, (HR5.out.on (by first | exact hB8.out | exact hB8.out.drew)).below⟩
end Go.Proofs.Ytepmgjohjeiopaa.L12
