/- The walk of IdentChecks. -/
import Derived.Test.YtmilchkemobchaaDoorNo
import Derived.Test.YtmilchkemobchaaDoorNh
import Derived.Deep.RegionHeld3
import Derived.Deep.Cut
set_option linter.unusedVariables false
set_option linter.unusedSectionVars false
set_option linter.unusedSimpArgs false
namespace Go.Proofs.YtmilchkemobchaaDoor
open Go.RowKit Go.Shelf Ss

theorem strs_first {B : Nat} {w : World} {a : Option Addr} {b off len : Nat} {zs : List ByteArray} (h : StrsAt B w a b off len zs) {m : Nat} (hm : m ≤ len) : StrsAt B w a b off m (zs.take m) :=
  ⟨h.addr.imp (fun e => by omega) id, by rw [List.length_take, h.length]; omega, by have := h.small; omega, h.below.imp (fun e => by omega) id, fun i hi => by
    rw [show (zs.take m).getD i ByteArray.empty = zs.getD i ByteArray.empty by simp [List.getD, hi]]
    exact h.cell i (by omega), fun x hx => h.fits x (List.mem_of_mem_take hx)⟩
theorem takeM_fits {ss : List ByteArray} (h : ∀ s ∈ ss, s.size ≤ maxLen) (mo : Int) : ∀ s ∈ takeM (distD ss) mo, s.size ≤ maxLen := fun s hs => by
  unfold takeM at hs
  split at hs
  · exact distD_fits h s (List.mem_of_mem_take hs)
  · exact distD_fits h s hs
theorem dist_same {x : World} {a : Option Addr} {b off len cap : Nat} {ss : List ByteArray} (hm : StrsAt x.heap.size x a b off len ss) (h0 : a = none → len = 0 ∧ cap = 0) (hlen : len ≤ 60000) {mo : Int} (hmo : mo ≤ 100000) {T : List ByteArray} (hT : takeM (distD ss) mo = T)
    {aU : Option Addr} {bU offU mU : Nat} (hU : StrsAt x.heap.size x aU bU offU mU T) :
    ∀ W, Below x.heap.size x W → Calls Tryd.prog 19 #[.slice a len cap, .int .i64 mo] W (fun e w7 => ∃ ad c, e = .returned (.slice ad mU c) ∧ Hid (Below x.heap.size x w7) ∧ Hid (∀ W8, Below w7.heap.size w7 W8 → ∀ cU, Calls Tryd.prog 18 #[.slice ad mU c, .slice aU mU cU] W8 (fun e w8 => e = .returned (.bool true) ∧ Hid (Below x.heap.size x w8)))) := fun W hW => by
  refine (ldistinct_any (StrsAt.mono (hm.kept hW (Nat.le_refl _)) hW.size) h0 hlen mo hmo).mono ?_
  rintro e w7 ⟨v, rfl, hg, hb⟩
  rw [hT] at hg
  obtain ⟨ad, c, b', rfl, _, _, _, hst⟩ := Gath.strs hg rfl (by rw [← hT]; exact takeM_fits hm.fits mo)
  have hl := hU.length
  rw [hl] at hst ⊢
  have h7 := hW.trans (hb.mono hW.size)
  refine ⟨ad, c, rfl, Lib.hid h7, Lib.hid fun W8 hW8 cU => ?_⟩
  have h8 := h7.trans (hW8.mono h7.size)
  refine (xsame_any (hst.kept hW8 (Nat.le_refl _)) (hU.kept h8 (Nat.le_refl _))).mono ?_
  rintro e w8 ⟨rfl, n, rfl⟩
  exact ⟨nretb (decide_eq_true rfl), Lib.hid (below_drewN h8 n)⟩
set_option maxRecDepth 100000 in
set_option maxHeartbeats 4000000 in
theorem walk_IdentChecks (a0 : ByteArray) (a1 : Option Addr) (len1 cap1 : Nat) (z1 : List ByteArray) (a2 : Int) (w : World) (w0 : a0.size ≤ maxLen) (w1 : IsStrs w a1 len1 cap1 z1) (w2 : (Lit.int .i64 a2).wf = true) :
    Calls Tryd.prog 3 #[.string a0, .slice a1 len1 cap1, .int .i64 a2] w fun e w' => e = .returned (.bool true) ∧ Below w.heap.size w w' := by
  obtain ⟨b, off, zs, hi, hn⟩ := IsStrs.zz w1
  have H0 := Lib.hid hi
  have HN := Lib.hid hn
  obtain rfl := hi.length
  have hw2 : -9223372036854775808 ≤ a2 ∧ a2 ≤ 9223372036854775807 := by
    have h := w2
    unfold Lit.wf at h
    rw [Bool.and_eq_true, decide_eq_true_eq, decide_eq_true_eq] at h
    have e1 : IntKind.i64.min = -9223372036854775808 := by decide
    have e2 : IntKind.i64.max = 9223372036854775807 := by decide
    omega
  have hz := w0
  unfold maxLen at hz
  have HZ := Lib.hid w0
  clear w0 w1 w2 hi hn
  go_enter Tryd.func3, Tryd.ntmps3
  go_wp2_with fail
  refine (alive_any _).mono ?_
  rintro e x1 ⟨rfl, hB1⟩
  have HB1 := Lib.hid hB1
  have H1 := Lib.hid (StrsAt.mono (H0.out.kept hB1 (Nat.le_refl _)) hB1.size)
  clear hB1 H0
  by_cases h100 : 100 < a0.size
  · have d0 : decide (100 < (a0.size : Int)) = true := by simp; omega
    go_wp2
    go_ret
    exact ⟨rfl, HB1.out⟩
  have d0 : decide (100 < (a0.size : Int)) = false := by simp; omega
  by_cases h40 : 40 < zs.length
  · have d1 : decide (40 < (zs.length : Int)) = true := by simp; omega
    go_wp2
    go_ret
    exact ⟨rfl, HB1.out⟩
  have d1 : decide (40 < (zs.length : Int)) = false := by simp; omega
  obtain ⟨N, hN⟩ := fr_exists zs a0 (by omega)
  have CF := Lib.hid (fresh_any (cap := cap1) H1.out (by omega) a0 (by omega) hN)
  have CG : Hid (∀ W, Below x1.heap.size x1 W → Calls Tryd.prog 9 #[.slice a1 zs.length cap1, .string a0] W fun e w' => e = .returned (.tuple #[.string (frS a0 N), .int .i64 (frE a0 N)]) ∧ W = w') := Lib.hid (fun W hW => xfresh_any (cap := cap1) (StrsAt.mono (H1.out.kept hW (Nat.le_refl _)) hW.size) (by omega) a0 (by omega) hN)
  unfold FreshPost at CF
  clear hN
  generalize frS a0 N = sf at *
  generalize frE a0 N = cf at *
  go_wp2_with fail
  refine CF.out.mono ?_
  rintro e x2 ⟨rfl, hB2⟩
  have HB2 := Lib.hid (below_on HB1.out hB2)
  have H2 := Lib.hid (StrsAt.mono (H1.out.kept hB2 (Nat.le_refl _)) hB2.size)
  have CG2 := Lib.hid (CG.out _ hB2)
  clear hB2 CF CG H1 HB1
  have CD := Lib.hid (xdistinct_any (cap := cap1) H2.out (by omega))
  go_wp2_with (go_at_call 9; refine CG2.out.mono ?_; clear CG2; rintro e w' ⟨rfl, rfl⟩)
  refine CD.out.mono ?_
  rintro e x3 ⟨v, rfl, hg, hB3, ⟨adU, nU, cU, eU⟩⟩
  obtain ⟨aU, cU', bU, e9, hcU, _, _, hiU⟩ := Gath.strs hg rfl (distD_fits H2.out.fits)
  rw [eU] at e9 ⊢
  cases e9
  have HB3 := Lib.hid (below_on HB2.out hB3)
  have H3 := Lib.hid (StrsAt.mono (H2.out.kept hB3 (Nat.le_refl _)) hB3.size)
  have HU := Lib.hid hiU
  have hDl : (distD zs).length ≤ 40 := by have := distL_length zs zs.length; unfold distD; omega
  have CH := Lib.hid (held_any a2 (distD zs).length hw2.1 hw2.2 (by omega) x3)
  clear hg hB3 eU v hiU HB2 H2 CD hw2
  obtain ⟨D, hD⟩ : ∃ D, distD zs = D := ⟨_, rfl⟩
  have HD := Lib.hid hD
  rw [hD] at hcU HU hDl CH ⊢
  clear hD
  go_wp2_with fail
  refine CH.out.mono ?_
  rintro e x4 ⟨⟨m, hmD, rfl⟩, rfl⟩
  have hkU : (m : Int) ≤ (cU : Int) := by omega
  have hm0 : (0 : Int) ≤ (m : Int) := by omega
  have hmN : m ≤ D.length := hmD
  have D1 := Lib.hid (dist_same (cap := cap1) H3.out HN.out (by omega) (mo := 1000) (by decide) (T := D) (by unfold takeM; rw [HD.out, if_pos (by decide)]; exact List.take_of_length_le (by show _ ≤ 1000; omega)) HU.out)
  have D2 := Lib.hid (dist_same (cap := cap1) H3.out HN.out (by omega) (mo := (m : Int)) (by omega) (T := D.take m) (by unfold takeM; rw [HD.out, if_pos (by omega), Int.toNat_natCast]) (strs_first HU.out hmD))
  have CK : Hid (∀ W, _) := Lib.hid (fun W => check_any a0 HZ.out W)
  have CX : Hid (∀ W, _) := Lib.hid (fun W => xcheck_any a0 HZ.out W)
  have CS : Hid (∀ W, Below x3.heap.size x3 W → Calls Tryd.prog 14 #[.slice a1 zs.length cap1] W (fun e w' => e = .returned (.bool (sortedB zs)) ∧ Hid (Below x3.heap.size x3 w'))) := Lib.hid (fun W hW => (sorted_any (cap := cap1) (H3.out.kept hW (Nat.le_refl _))).mono (fun e w' ⟨he, n, hn⟩ => ⟨he, Lib.hid (by rw [hn]; exact below_drewN hW n)⟩))
  have CT : Hid (∀ W, Below x3.heap.size x3 W → Calls Tryd.prog 15 #[.slice a1 zs.length cap1] W (fun e w' => e = .returned (.bool (sortedB zs)) ∧ Hid (Below x3.heap.size x3 w'))) := Lib.hid (fun W hW => (xsorted_any (cap := cap1) (H3.out.kept hW (Nat.le_refl _))).mono (fun e w' ⟨he, n, hn⟩ => ⟨he, Lib.hid (by rw [hn]; exact below_drewN hW n)⟩))
  have CN : Hid (∀ W, Below x3.heap.size x3 W → Calls Tryd.prog 16 #[.slice a1 zs.length cap1, .string a0] W (fun e w' => e = .returned (.int .i64 (findI zs a0)) ∧ W = w')) := Lib.hid (fun W hW => find_any (cap := cap1) (H3.out.kept hW (Nat.le_refl _)) a0)
  have CM : Hid (∀ W, Below x3.heap.size x3 W → Calls Tryd.prog 17 #[.slice a1 zs.length cap1, .string a0] W (fun e w' => e = .returned (.int .i64 (findI zs a0)) ∧ W = w')) := Lib.hid (fun W hW => xfind_any (cap := cap1) (H3.out.kept hW (Nat.le_refl _)) a0)
  generalize chkE a0 = ck at *
  generalize sortedB zs = q at *
  generalize findI zs a0 = fi at *
  clear CH H3 HD HN HZ
  generalize D.length = dl at *
  go_upto_region 9 with fail
  go_region_held3 (fun W => Hid (Below x3.heap.size x3 W)) (first | assumption | exact Lib.hid (Below.refl _ _) | exact Lib.hid (Below.refl _ _).drew | exact Lib.hid hB9.out.drew | exact Lib.hid hB8.out.drew | exact Lib.hid hB7.out.drew | exact Lib.hid hB6.out.drew | exact Lib.hid hB5.out.drew) (first
    | (go_at_call 12; refine (CK.out _).mono ?_; clear CK; rintro e w' ⟨rfl, rfl⟩)
    | (go_at_call 13; refine (CX.out _).mono ?_; clear CX; rintro e w' ⟨rfl, rfl⟩)
    | (go_at_call 14; refine (CS.out _ (by first | exact Below.refl _ _ | exact (Below.refl _ _).drew | exact hB9.out | exact hB9.out.drew | exact hB8.out | exact hB8.out.drew | exact hB7.out | exact hB7.out.drew | exact hB6.out | exact hB6.out.drew | exact hB5.out | exact hB5.out.drew)).mono ?_; clear CS; rintro e w5 ⟨rfl, hB5⟩)
    | (go_at_call 15; refine (CT.out _ (by first | exact Below.refl _ _ | exact (Below.refl _ _).drew | exact hB9.out | exact hB9.out.drew | exact hB8.out | exact hB8.out.drew | exact hB7.out | exact hB7.out.drew | exact hB6.out | exact hB6.out.drew | exact hB5.out | exact hB5.out.drew)).mono ?_; clear CT; rintro e w6 ⟨rfl, hB6⟩)
    | (go_at_call 16; refine (CN.out _ (by first | exact Below.refl _ _ | exact (Below.refl _ _).drew | exact hB9.out | exact hB9.out.drew | exact hB8.out | exact hB8.out.drew | exact hB7.out | exact hB7.out.drew | exact hB6.out | exact hB6.out.drew | exact hB5.out | exact hB5.out.drew)).mono ?_; clear CN; rintro e w' ⟨rfl, rfl⟩)
    | (go_at_call 17; refine (CM.out _ (by first | exact Below.refl _ _ | exact (Below.refl _ _).drew | exact hB9.out | exact hB9.out.drew | exact hB8.out | exact hB8.out.drew | exact hB7.out | exact hB7.out.drew | exact hB6.out | exact hB6.out.drew | exact hB5.out | exact hB5.out.drew)).mono ?_; clear CM; rintro e w' ⟨rfl, rfl⟩)
    | (go_at_call 19; refine (D1.out _ (by first | exact Below.refl _ _ | exact (Below.refl _ _).drew | exact hB9.out | exact hB9.out.drew | exact hB8.out | exact hB8.out.drew | exact hB7.out | exact hB7.out.drew | exact hB6.out | exact hB6.out.drew | exact hB5.out | exact hB5.out.drew)).mono ?_; clear D1; rintro e w7 ⟨ad7, c7, rfl, hB7, hS7⟩)
    | (go_at_call 18; refine (hS7.out _ (by first | exact Below.refl _ _ | exact (Below.refl _ _).drew) _).mono ?_; clear hS7; rintro e w8 ⟨rfl, hB8⟩)
    | (go_at_call 19; refine (D2.out _ (by first | exact Below.refl _ _ | exact (Below.refl _ _).drew | exact hB9.out | exact hB9.out.drew | exact hB8.out | exact hB8.out.drew | exact hB7.out | exact hB7.out.drew | exact hB6.out | exact hB6.out.drew | exact hB5.out | exact hB5.out.drew)).mono ?_; clear D2; rintro e w9 ⟨ad9, c9, rfl, hB9, hS9⟩)
    | (go_at_call 18; refine (hS9.out _ (by first | exact Below.refl _ _ | exact (Below.refl _ _).drew) _).mono ?_; clear hS9; rintro e w10 ⟨rfl, hB10⟩))
  go_wp2_with fail
  go_ret
  exact ⟨by simp, below_on HB3.out hB10.out⟩
end Go.Proofs.YtmilchkemobchaaDoor
