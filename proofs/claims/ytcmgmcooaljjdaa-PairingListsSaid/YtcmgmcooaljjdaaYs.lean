/- The walk of PairingLists. -/
import Derived.Test.YtcmgmcooaljjdaaYk
import Derived.Test.YtcmgmcooaljjdaaYi
import Derived.Test.YtcmgmcooaljjdaaYr
import Derived.Deep.RegionHeld3
set_option linter.unusedVariables false
set_option linter.unusedSectionVars false
set_option linter.unusedSimpArgs false
namespace Go.Proofs.Ytcmgmcooaljjdaa.L10
open Go.RowKit Go.Shelf Rk

theorem and_15 (n : Int) : bits .and .i64 n 15 = n % 16 := by
  have h511 : (BitVec.ofInt 64 15).toNat = 2 ^ 4 - 1 := by decide
  have key : (BitVec.ofInt 64 n &&& BitVec.ofInt 64 15).toNat = (n % ((2 ^ 64 : Nat) : Int)).toNat % 2 ^ 4 := by
    rw [BitVec.toNat_and, BitVec.toNat_ofInt, h511, Nat.and_two_pow_sub_one_eq_mod]
  show IntKind.i64.wrap ((BitVec.ofInt 64 n &&& BitVec.ofInt 64 15).toNat : Nat) = n % 16
  rw [key, IntKind.wrap_i64]
  omega
/-- Both answers, and that they are the same. -/
theorem gh_two {w0 x : World} {g nb Bx lo : Nat} {X : XD} {zs : List Int} {F : Nat → Nat → Int} (h : BothR w0 g nb Bx lo X zs F x) :
    ∀ W, Below x.heap.size x W → Calls Try.prog 14 #[.pointer (some ⟨g, 0, none⟩)] W (fun e w7 => ∃ pb, e = .returned (.slice (some ⟨pb, 0, none⟩) zs.length zs.length) ∧ Hid (Below x.heap.size x w7) ∧ Hid (∀ W8, Below w7.heap.size w7 W8 → Calls Try.prog 15 #[.agg #[.slice X.wa zs.length X.wc, .slice X.ra zs.length X.rc]] W8 (fun e w8 => ∃ ad c, e = .returned (.slice ad zs.length c) ∧ Hid (Below x.heap.size x w8) ∧ Hid (∀ W9, Below w8.heap.size w8 W9 → Calls Try.prog 13 #[.slice (some ⟨pb, 0, none⟩) zs.length zs.length, .slice ad zs.length c] W9 (fun e w9 => e = .returned (.bool true) ∧ Hid (Below x.heap.size x w9)))))) := fun W hW => by
  refine (heavy_any (h.on hW).one).mono ?_
  rintro e w7 ⟨pb, rfl, hp, _, hb⟩
  have h7 := hW.trans (hb.mono hW.size)
  refine ⟨pb, rfl, Lib.hid h7, Lib.hid fun W8 hW8 => ?_⟩
  have h8 := h7.trans (hW8.mono h7.size)
  refine (xheavy_any (h.on h8).two).mono ?_
  rintro e w8 ⟨ad, c, b', rfl, hi, hb8⟩
  have h9 := h8.trans (hb8.mono h8.size)
  refine ⟨ad, c, rfl, Lib.hid h9, Lib.hid fun W9 hW9 => ?_⟩
  have hs := sameints_any (cap := zs.length) (cap' := c) (((hp.kept hW8 (Nat.le_refl _)).mono hW8.size |>.kept hb8 (Nat.le_refl _)).mono hb8.size |>.kept hW9 (Nat.le_refl _)) (hi.kept hW9 (Nat.le_refl _))
  rw [decide_eq_true rfl] at hs
  exact hs.mono (fun e w' ⟨he, hb⟩ => ⟨he, Lib.hid (h9.trans ((hW9.trans (hb.mono hW9.size)).mono h9.size))⟩)
/-- Two rows of the same numbers are told so. -/
theorem same_lit {x : World} {a a' : Option Addr} {b off b' off' len : Nat} {zs zs' : List Int} (h : IntsAt .i64 x.heap.size x a b off len zs) (h' : IntsAt .i64 x.heap.size x a' b' off' len zs') (he : zs = zs') :
    ∀ W, Below x.heap.size x W → ∀ c c', Calls Try.prog 13 #[.slice a len c, .slice a' len c'] W (fun e w' => e = .returned (.bool true) ∧ Hid (Below x.heap.size x w')) := fun W hW c c' => by
  have hs := sameints_any (cap := c) (cap' := c') (h.kept hW (Nat.le_refl _)) (h'.kept hW (Nat.le_refl _))
  rw [decide_eq_true he] at hs
  exact hs.mono (fun e w' ⟨h1, hb⟩ => ⟨h1, Lib.hid (hW.trans (hb.mono hW.size))⟩)
theorem IntsAt.first {B : Nat} {w : World} {a : Option Addr} {b off len : Nat} {zs : List Int} (h : IntsAt .i64 B w a b off len zs) {m : Nat} (hm : m ≤ len) : IntsAt .i64 B w a b off m (zs.take m) :=
  ⟨h.addr.imp (fun e => by omega) id, by rw [List.length_take, h.length]; omega, by have := h.small; omega, h.below.imp (fun e => by omega) id, fun i hi => by
    rw [show (zs.take m).getD i 0 = zs.getD i 0 by simp [List.getD, hi]]
    exact h.cell i (by omega), fun x hx => h.fits x (List.mem_of_mem_take hx)⟩
set_option maxRecDepth 100000 in
set_option maxHeartbeats 8000000 in
theorem walk_PairingLists (a0 : Option Addr) (len0 cap0 : Nat) (z0 : List Int) (a1 : Option Addr) (len1 cap1 : Nat) (z1 : List RopV) (a2 : Option Addr) (len2 cap2 : Nat) (z2 : List Int) (a3 : Int) (w : World) (w0 : IsRow .i64 w a0 len0 cap0 z0) (w1 : IsRops w a1 len1 cap1 z1) (w2 : IsRow .i64 w a2 len2 cap2 z2) (w3 : (Lit.int .i64 a3).wf = true) :
    Calls Try.prog 3 #[.slice a0 len0 cap0, .slice a1 len1 cap1, .slice a2 len2 cap2, .int .i64 a3] w fun e w' => e = .returned (.bool true) ∧ Below w.heap.size w w' := by
  obtain ⟨b0, off0, zs, hi0, hn0⟩ := w0.zz
  obtain ⟨_, b1, off1, hi1⟩ := w1
  obtain ⟨b2, off2, ms, hi2, hn2⟩ := w2.zz
  have H0 := Lib.hid hi0
  have HN := Lib.hid hn0
  have H1 := Lib.hid hi1
  have H2 := Lib.hid hi2
  have HN2 := Lib.hid hn2
  obtain rfl := hi0.length
  obtain rfl := hi2.length
  clear w0 hi0 hn0 hi1 w2 hi2 hn2 w3
  go_enter Try.func3, Try.ntmps3
  go_wp2_with fail
  refine (alive_any _).mono ?_
  rintro e x1 ⟨rfl, hB1⟩
  have HB1 := Lib.hid hB1
  have HBd := Lib.hid (build_any (cap0 := cap0) (cap1 := cap1) ((H0.out.kept hB1 (Nat.le_refl _)).mono hB1.size) HN.out ((H1.out.kept hB1 (Nat.le_refl _)).mono hB1.size))
  have z1s := hB1.size
  clear hB1
  go_wp2_with fail
  refine HBd.out.mono ?_
  rintro e x2 ⟨hB, hc⟩
  have HB2 := Lib.hid (HB1.out.trans (hB.mono z1s))
  clear hB HBd
  rcases hc with ⟨_, rfl⟩ | ⟨⟨hl30, _⟩, g, nb, lo, Bx, X, rfl, hR, _, _⟩
  · have HB3 := Lib.hid (HB2.out.alloc HB2.out.size (.cells #[.slice none 0 0, .slice none 0 0] 29))
    go_wp2
    go_ret
    exact ⟨rfl, HB3.out⟩
  have hR' := hR.base HB1.out
  have hal := (Below.refl x2.heap.size x2).alloc (Nat.le_refl _) (.cells #[.slice X.wa zs.length X.wc, .slice X.ra zs.length X.rc] 29)
  have HR := Lib.hid (hR'.on hal)
  have HXb : Hid ((x2.alloc (.cells #[.slice X.wa zs.length X.wc, .slice X.ra zs.length X.rc] 29)).heap[x2.heap.size]? = some (.cells #[.slice X.wa zs.length X.wc, .slice X.ra zs.length X.rc] 29 (0, 0))) := Lib.hid (heap_new (w := x2) _ rfl)
  clear hR hR' hal HB2 HB1 z1s
  unfold XD.val
  go_upto_region 4 with fail
  revert HR HXb
  generalize x2.heap.size = xb
  generalize x2.alloc (.cells #[.slice X.wa zs.length X.wc, .slice X.ra zs.length X.rc] 29) = x3
  intro HR HXb
  by_cases h60 : 60 < ms.length
  · have d0 : decide (60 < (ms.length : Int)) = true := by simp; omega
    go_wp2
    go_ret
    exact ⟨rfl, HR.out.below⟩
  have d0 : decide (60 < (ms.length : Int)) = false := by simp; omega
  have HX3 : Hid (∀ W, Below x3.heap.size x3 W → W.cell? ⟨xb, 0, none⟩ = some (.slice X.wa zs.length X.wc) ∧ W.cell? ⟨xb, 1, none⟩ = some (.slice X.ra zs.length X.rc) ∧ Hid (Below x3.heap.size x3 W)) := Lib.hid (fun W hW => ⟨heap_cell (heap_below HXb.out hW (heap_lt HXb.out)) rfl, heap_cell (heap_below HXb.out hW (heap_lt HXb.out)) rfl, Lib.hid hW⟩)
  have HM3 := Lib.hid ((H2.out.kept HR.out.below (Nat.le_refl _)).mono HR.out.below.size)
  have HT := Lib.hid (gh_two HR.out)
  obtain ⟨rt, hrt⟩ : ∃ r, mateR ms = r := ⟨_, rfl⟩
  have CR : Hid (∀ W, Below x3.heap.size x3 W → Calls Try.prog 16 #[.slice a2 ms.length cap2] W (fun e w' => e = .returned (.bool rt) ∧ W = w')) := Lib.hid (fun W hW => mright_lit (HM3.out.kept hW (Nat.le_refl _)) hrt)
  have CX : Hid (∀ W, Below x3.heap.size x3 W → Calls Try.prog 17 #[.slice a2 ms.length cap2] W (fun e w' => e = .returned (.bool rt) ∧ W = w')) := Lib.hid (fun W hW => by have := xmright_any (cap := cap2) (HM3.out.kept hW (Nat.le_refl _)); rwa [hrt] at this)
  have HRt := Lib.hid hrt
  obtain ⟨k0, k1, _⟩ := HX3.out _ (Below.refl _ _)
  have hrr : (rt == rt) = true := by simp
  have hrn : (rt != rt) = false := by simp
  clear hrt
  go_upto_region 6 with fail
  go_region_held3 (fun W => W.cell? ⟨xb, 0, none⟩ = some (.slice X.wa zs.length X.wc) ∧ W.cell? ⟨xb, 1, none⟩ = some (.slice X.ra zs.length X.rc) ∧ Hid (Below x3.heap.size x3 W)) (first | exact HX3.out _ (Below.refl _ _) | exact HX3.out _ (Below.refl _ _).drew | exact HX3.out _ hB3.out | exact HX3.out _ hB3.out.drew | exact HX3.out _ hB2.out | exact HX3.out _ hB2.out.drew | exact HX3.out _ hB1.out | exact HX3.out _ hB1.out.drew) (first
    | (go_at_call 14; refine (HT.out _ (by first | exact Below.refl _ _ | exact (Below.refl _ _).drew)).mono ?_; clear HT; rintro e u1 ⟨hpb, rfl, hB1, hT1⟩)
    | (go_at_call 15; refine (hT1.out _ (by first | exact Below.refl _ _ | exact (Below.refl _ _).drew)).mono ?_; clear hT1; rintro e u2 ⟨ad2, c2, rfl, hB2, hT2⟩)
    | (go_at_call 13; refine (hT2.out _ (by first | exact Below.refl _ _ | exact (Below.refl _ _).drew)).mono ?_; clear hT2; rintro e u3 ⟨rfl, hB3⟩)
    | (go_at_call 16; refine (CR.out _ (by first | exact hB3.out | exact hB3.out.drew)).mono ?_; rintro e u4 ⟨rfl, rfl⟩)
    | (go_at_call 17; refine (CX.out _ (by first | exact hB3.out | exact hB3.out.drew)).mono ?_; rintro e u5 ⟨rfl, rfl⟩))
  have HM6 := Lib.hid ((HM3.out.kept hB3.out (Nat.le_refl _)).mono hB3.out.size)
  have HB6 := Lib.hid (HR.out.below.trans (hB3.out.mono HR.out.below.size))
  have hTl := pairsD_length ms
  have HFit := Lib.hid (pairs_fits HM6.out (by omega))
  have CA := Lib.hid (lpairs_any (cap := cap2) HM6.out HN2.out (by omega) 100 (by decide))
  have hT : (pairsD ms).take (100 : Int).toNat = pairsD ms := List.take_of_length_le (by show _ ≤ 100; omega)
  rw [hT] at CA
  have HLeft : Hid (leftN ms = if rt = true then ms.length - (pairsD ms).length else 0) := Lib.hid (by
    unfold leftN pairsD
    rw [HRt.out]
    cases rt <;> rfl)
  clear hT CR k0 k1 HX3 HXb HR hrr hrn
  go_wp2_with fail
  refine CA.out.mono ?_
  rintro e y1 ⟨vA, vB, rfl, hgA, hgB, hb⟩
  obtain ⟨aA, cA, bA, rfl, _, _, _, hiA⟩ := Gath.ints (k := .i64) hgA (List.length_map _) HFit.out.1
  obtain ⟨aB, cB, bB, rfl, _, _, _, hiB⟩ := Gath.ints (k := .i64) hgB (List.length_map _) HFit.out.2
  have HIA := Lib.hid hiA
  have HIB := Lib.hid hiB
  have HM7 := Lib.hid ((HM6.out.kept hb (Nat.le_refl _)).mono hb.size)
  have HB7 := Lib.hid (HB6.out.trans (hb.mono HB6.out.size))
  have HBx := Lib.hid (hB3.out.trans (hb.mono hB3.out.size))
  have CU := Lib.hid (xmpairs_any (cap := cap2) HM7.out (by omega))
  clear hgA hgB hiA hiB hb CA HM6 HB6 hB3
  go_wp2_with fail
  refine CU.out.mono ?_
  rintro e y2 ⟨vU, vV, rfl, hgU, hgV, hb, ⟨adU, nU, kU, eU⟩, ⟨adV, nV, kV, eV⟩⟩
  obtain ⟨aU, cU, bU, e9, hcU, _, _, hiU⟩ := Gath.ints (k := .i64) hgU (List.length_map _) HFit.out.1
  rw [eU] at e9 ⊢
  cases e9
  obtain ⟨aV, cV, bV, e9, hcV, _, _, hiV⟩ := Gath.ints (k := .i64) hgV (List.length_map _) HFit.out.2
  rw [eV] at e9 ⊢
  cases e9
  have HIU := Lib.hid hiU
  have HIV := Lib.hid hiV
  have HIA2 := Lib.hid ((HIA.out.kept hb (Nat.le_refl _)).mono hb.size)
  have HIB2 := Lib.hid ((HIB.out.kept hb (Nat.le_refl _)).mono hb.size)
  have HM8 := Lib.hid ((HM7.out.kept hb (Nat.le_refl _)).mono hb.size)
  have HB8 := Lib.hid (HB7.out.trans (hb.mono HB7.out.size))
  have CX2 := Lib.hid (CX.out _ (HBx.out.trans (hb.mono HBx.out.size)))
  obtain ⟨c, hc⟩ : ∃ c : Nat, bits .and .i64 a3 15 = (c : Int) := ⟨(a3 % 16).toNat, by rw [and_15]; omega⟩
  have hc15 : c ≤ 15 := by have := and_15 a3; omega
  have CC := Lib.hid (lpairs_any (cap := cap2) HM8.out HN2.out (by omega) (c : Int) (by omega))
  clear hgU hgV hiU hiV hb CU HM7 HB7 CX HIA HIB HBx eU eV vU vV
  rw [Int.toNat_natCast] at CC
  obtain ⟨T, hT⟩ : ∃ T, pairsD ms = T := ⟨_, rfl⟩
  rw [hT] at CC HIU HIV HIA2 HIB2 HLeft HFit hTl hcU hcV ⊢
  obtain ⟨L, hL⟩ : ∃ L, T.length = L := ⟨_, rfl⟩
  obtain ⟨m, hm⟩ : ∃ m, min c L = m := ⟨_, rfl⟩
  have hmi : (if L < c then (L : Int) else (c : Int)) = (m : Int) := by split <;> omega
  have hmL : m ≤ L := by omega
  have hkU : (m : Int) ≤ (kU : Int) := by omega
  have hkV : (m : Int) ≤ (kV : Int) := by omega
  have hm0 : (0 : Int) ≤ (m : Int) := by omega
  have hTk : T.take c = T.take m := by
    by_cases h : c ≤ L
    · rw [show m = c by omega]
    · rw [List.take_of_length_le (by omega), List.take_of_length_le (by omega)]
  have hTm : (T.take m).length = m := by rw [List.length_take, hL]; omega
  rw [hTk] at CC
  have HTm := Lib.hid hTm
  have HE1 : Hid ((T.take m).map (·.1) = (T.map (·.1)).take m) := Lib.hid List.map_take
  have HE2 : Hid ((T.take m).map (·.2) = (T.map (·.2)).take m) := Lib.hid List.map_take
  have HFc : Hid ((∀ x ∈ (T.take m).map (·.1), (Lit.int .i64 x).wf = true) ∧ ∀ x ∈ (T.take m).map (·.2), (Lit.int .i64 x).wf = true) := Lib.hid (by
    rw [HE1.out, HE2.out]
    exact ⟨fun x hx => HFit.out.1 x (List.mem_of_mem_take hx), fun x hx => HFit.out.2 x (List.mem_of_mem_take hx)⟩)
  rw [hL] at HIU HIV HIA2 HIB2 HLeft hTl hcU hcV ⊢
  clear hTk hTm hT hL hm hcU hcV
  have hnw : (ms.length : Int) - (L : Int) = ((ms.length - L : Nat) : Int) := by omega
  have hwn : IntKind.i64.wrap ((ms.length : Int) - (L : Int)) = ((ms.length - L : Nat) : Int) := by rw [hnw]; exact IntWalk.i64_in _ (by omega)
  have HNW := Lib.hid hnw
  clear hnw
  obtain ⟨N, hN⟩ : ∃ N, ms.length - L = N := ⟨_, rfl⟩
  rw [hN] at HLeft hwn HNW
  have hNb : N ≤ 60 := by omega
  have g4 : ((N : Int) == (ms.length : Int) - (L : Int)) = true := by rw [HNW.out]; simp
  clear hN HNW
  cases rt
  all_goals
    simp only [Bool.false_eq_true, if_false, if_true] at HLeft
    go_wp2_with (go_at_call 17; refine CX2.out.mono ?_; clear CX2; rintro e w' ⟨rfl, rfl⟩)
    refine CC.out.mono ?_
    rintro e y3 ⟨vC, vD, rfl, hgC, hgD, hb⟩
    obtain ⟨aC, cC, bC, rfl, _, _, _, hiC⟩ := Gath.ints (k := .i64) hgC (List.length_map _) HFc.out.1
    obtain ⟨aD, cD, bD, rfl, _, _, _, hiD⟩ := Gath.ints (k := .i64) hgD (List.length_map _) HFc.out.2
    rw [HTm.out] at hiC hiD ⊢
    have HB9 := Lib.hid (HB8.out.trans (hb.mono HB8.out.size))
    have HM9 := Lib.hid ((HM8.out.kept hb (Nat.le_refl _)).mono hb.size)
    have k1 := (HIA2.out.kept hb (Nat.le_refl _)).mono hb.size
    have k2 := (HIB2.out.kept hb (Nat.le_refl _)).mono hb.size
    have k3 := (HIU.out.kept hb (Nat.le_refl _)).mono hb.size
    have k4 := (HIV.out.kept hb (Nat.le_refl _)).mono hb.size
    have C1 := Lib.hid (same_lit k1 k3 rfl)
    have C2 := Lib.hid (same_lit k2 k4 rfl)
    have C3 := Lib.hid (same_lit hiC (IntsAt.first k3 hmL) HE1.out)
    have C4 := Lib.hid (same_lit hiD (IntsAt.first k4 hmL) HE2.out)
    have C5 : Hid (∀ W, Below y3.heap.size y3 W → Calls Try.prog 20 #[.slice a2 ms.length cap2] W (fun e w' => e = .returned (.int .i64 ((leftN ms : Nat) : Int)) ∧ Hid (Below w.heap.size w w'))) := Lib.hid (fun W hW => (mcount_any (cap := cap2) ((HM9.out.kept hW (Nat.le_refl _)).mono hW.size) HN2.out (by omega)).mono (fun e w' ⟨he, hb⟩ => ⟨he, Lib.hid ((HB9.out.trans (hW.mono HB9.out.size)).trans (hb.mono (HB9.out.trans (hW.mono HB9.out.size)).size))⟩))
    rw [HLeft.out] at C5
    clear hgC hgD hiC hiD hb CC k1 k2 k3 k4 HIA2 HIB2 HIU HIV HM8 HB8
    go_wp2_with (first
      | (go_at_call 13; refine (C1.out _ (Below.refl _ _) _ _).mono ?_; clear C1; rintro e q1 ⟨rfl, hq1⟩)
      | (go_at_call 13; refine (C2.out _ hq1.out _ _).mono ?_; clear C2; rintro e q2 ⟨rfl, hq2⟩)
      | (go_at_call 13; refine (C3.out _ hq2.out _ _).mono ?_; clear C3; rintro e q3 ⟨rfl, hq3⟩)
      | (go_at_call 13; refine (C4.out _ hq3.out _ _).mono ?_; clear C4; rintro e q4 ⟨rfl, hq4⟩)
      | (go_at_call 20; refine (C5.out _ hq4.out).mono ?_; clear C5; rintro e q5 ⟨rfl, hq5⟩))
    go_ret
    exact ⟨by simp, hq5.out⟩
end Go.Proofs.Ytcmgmcooaljjdaa.L10
