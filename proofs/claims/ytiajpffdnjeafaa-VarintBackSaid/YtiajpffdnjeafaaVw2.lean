/- The walk of VarintBack. -/
import Derived.Test.YtiajpffdnjeafaaVi
import Derived.Test.YtiajpffdnjeafaaVr
import Derived.Test.YtiajpffdnjeafaaVn
import Derived.Deep.RegionWith
import Derived.Deep.RegionHeld3
set_option linter.unusedVariables false
namespace Go.Proofs.Ytiajpffdnjeafaa
open Go.RowKit

theorem putF_wf {n : Nat} (hn : n ≤ 18446744073709551615) : ∀ x ∈ putF n, (Lit.int .u8 x).wf = true :=
  fun x hx => WalkArith.wf_u8 (putL_bytes 9 n (by rw [show (128 : Nat) ^ (9 + 1) = 1180591620717411303424 by decide]; omega) x hx)

set_option maxHeartbeats 1000000 in
theorem back_main (a1 a2 : Option Addr) (n len1 cap1 len2 cap2 b1 o1 b2 o2 : Nat) (z1 z2 : List Int) (w : World) (hn : n ≤ 18446744073709551615)
    (I1 : Hid (IntsAt .u8 w.heap.size w a1 b1 o1 len1 z1)) (I2 : Hid (IntsAt .u8 w.heap.size w a2 b2 o2 len2 z2)) (N1 : Hid (a1 = none → len1 = 0 ∧ cap1 = 0)) (hc2 : len2 ≤ cap2) (h1 : len1 ≤ 300) (h2 : len2 ≤ 300) :
    Calls Try.prog 14 #[.int .u64 n, .slice a1 len1 cap1, .slice a2 len2 cap2] w fun e w' => e = .returned (.bool true) ∧ Below w.heap.size w w' := by
  have HP := Lib.hid (fun W => put_any n W hn)
  have HWF := Lib.hid (putF_wf hn)
  have hl := putL_length 9 n
  have hL : (putF n).length = (putL 9 n).length := rfl
  rw [← hL] at hl
  have HGP := Lib.hid (get_putF n z1 hn)
  have hni : (n : Int) ≤ 18446744073709551615 := by omega
  have hun := unfold_bd (n := (n : Int)) (by omega) hni
  have hwb := wrap64_in_bd (n : Int)
  have hfb := fold_bd hwb.1 hwb.2
  have HU := Lib.hid (fun W => unfold_any (n : Int) W (by omega) hni)
  have HFU := Lib.hid (fun W => fold_any (unfoldF (n : Int)) W hun.1 hun.2)
  rw [fold_unfold (by omega)] at HFU
  have HF := Lib.hid (fun W => fold_any (wrap64 (n : Int)) W hwb.1 hwb.2)
  have HUF := Lib.hid (fun W => unfold_any (foldF (wrap64 (n : Int))) W hfb.1 hfb.2)
  rw [unfold_fold] at HUF
  have HLH := Lib.hid (fun W => len_any (n / 2) W (by omega))
  rw [show ((n / 2 : Nat) : Int) = (n : Int) / 2 by omega] at HLH
  have hhl := half_len n hn
  have hby : ∀ x ∈ z2, 0 ≤ x ∧ x ≤ 255 := fun x hx => bounds_u8 (I2.out.fits x hx)
  have HPG := Lib.hid (fun n s e h => put_getF z2 hby n s e h)
  have HLZ2 := Lib.hid I2.out.length
  clear hL hun hwb hfb hni hby
  generalize foldF (wrap64 (n : Int)) = fo at *
  generalize unfoldF (n : Int) = un at *
  generalize (putF (n / 2)).length = L2 at *
  generalize hLL : (putF n).length = L at *
  have HLL := Lib.hid hLL
  clear hLL
  obtain ⟨i0, hi, hz0, hz1, hz2⟩ := info_parts Try.infoU8
  have HI := Lib.hid hi
  have HZ0 := Lib.hid hz0
  have HZ1 := Lib.hid hz1
  have HZ2 := Lib.hid hz2
  clear hi hz0 hz1 hz2
  have HN := Lib.hid hn
  clear hn
  go_enter Try.func14, Try.ntmps14
  go_wp2_with (go_at_call 28; refine (valive_any _).mono ?_; rintro e w0 ⟨rfl, hB0⟩)
  refine (HP.out _).mono ?_
  rintro e w1 ⟨v, rfl, hg, hB1⟩
  obtain ⟨a5, cap5, b5, rfl, hc5, hc6, hb5, HS⟩ := hg.ints rfl HWF.out
  rw [HLL.out] at hc5 HS
  have HS1 := Lib.hid HS
  have HB1 := Lib.hid hB1
  have hsz1 := hB1.size
  have N5 : Hid (a5 = none → L = 0 ∧ cap5 = 0) := Lib.hid (fun h => by
    subst h
    rcases HS.addr with h | h
    · omega
    · cases h)
  clear HS hg hb5 hB1
  unfold maxLen at hc6
  rw [HLL.out]
  go_wp2_with (first
    | (at_builtin; refine wpList_append_ints _ rfl (.tmp 27) (.tmp 28) 33 rfl w1.heap.size 5 i0 (.int .u8 0) 1 Try.underlying33 HI.out HZ0.out HZ1.out HZ2.out rfl (.slice (some ⟨w1.heap.size, 0, none⟩) 0 0) 0 [] rfl (World.ownsRow_made w1 #[] 0 (Nat.le_refl _) (Nat.zero_le _) rfl) .u8 w1.heap.size w1.heap.size w1 a5 b5 0 L cap5 (putF n) rfl N5.out HS1.out ((Below.refl _ w1).alloc (Nat.le_refl _) _) (Nat.le_refl _) (by unfold maxLen; omega) (by omega) (by simp) ?_; intro v2 w2 hown2 hbel2; rw [Nat.zero_add, List.nil_append] at hown2; have HOWN2 := Lib.hid hown2; have HW2 := Lib.hid (((Below.refl w1.heap.size w1).alloc (Nat.le_refl _) (.cells #[] 5)).trans hbel2); clear hown2 hbel2)
    | (at_builtin; refine wpList_append_ints _ rfl (.tmp 29) (.tmp 30) 33 rfl w1.heap.size 5 i0 (.int .u8 0) 1 Try.underlying33 HI.out HZ0.out HZ1.out HZ2.out rfl v2 L (ivals .u8 (putF n)) rfl HOWN2.out .u8 w.heap.size w.heap.size w a1 b1 o1 len1 cap1 z1 rfl N1.out I1.out (hB0.trans ((HB1.out.trans (HW2.out.mono hsz1)).mono hB0.size)) (Nat.le_refl _) (by unfold maxLen; omega) (by omega) HW2.out.size ?_; intro v3 w3 hown3 hbel3; rw [← ivals_append] at hown3; obtain ⟨a7, cap7, b7, rfl, hc7, hc8, hb7, HS3⟩ := Gath.ints (.inr hown3) (by rw [List.length_append, HLL.out, I1.out.length]) (fun x hx => (List.mem_append.1 hx).elim (HWF.out x) (I1.out.fits x)); have HG7 := Lib.hid (get_any _ _ _ _ _ _ cap7 _ HS3 hc7); rw [HGP.out] at HG7; have HW3 := Lib.hid (hB0.trans ((HB1.out.trans ((HW2.out.trans hbel3).mono hsz1)).mono hB0.size)); clear hown3 hbel3 hb7 HS3; unfold maxLen at hc8))
  refine HG7.out.mono ?_
  rintro e w4 ⟨rfl, rfl⟩
  go_wp2_with fail
  refine (HU.out _).mono ?_
  rintro e w4 ⟨rfl, rfl⟩
  go_wp2_with fail
  refine (HFU.out _).mono ?_
  rintro e w4 ⟨rfl, rfl⟩
  go_wp2_with fail
  refine (HF.out _).mono ?_
  rintro e w4 ⟨rfl, rfl⟩
  go_wp2_with fail
  refine (HUF.out _).mono ?_
  rintro e w4 ⟨rfl, rfl⟩
  go_wp2_with fail
  refine (HLH.out _).mono ?_
  rintro e w4 ⟨rfl, rfl⟩
  have HG2 := Lib.hid (get_any z2 _ _ _ _ _ cap2 _ (I2.out.kept HW3.out (Nat.le_refl _)) hc2)
  obtain ⟨x, s, f, hr⟩ : ∃ x s f, getF z2 = (x, s, f) := ⟨_, _, _, rfl⟩
  have HPG2 := Lib.hid (HPG.out x s f hr)
  rw [hr] at HG2
  clear hr
  by_cases hf : f = 0
  · subst hf
    obtain ⟨hs1, hs2, hs3, hx, hput⟩ := HPG2.out.1 rfl
    rw [HLZ2.out] at hs2
    have HX := Lib.hid hx
    have HPUT := Lib.hid hput
    clear hx hput
    go_wp2_with fail
    refine HG2.out.mono ?_
    rintro e w4 ⟨rfl, rfl⟩
    go_wp2_with fail
    have HPX := Lib.hid (fun W => put_any x W HX.out)
    have I2T := Lib.hid (I2.out.take s hs2)
    have hcs : s ≤ cap2 := by omega
    have HLS : Hid ((putF x).length = s) := Lib.hid (by rw [HPUT.out, List.length_take, HLZ2.out]; omega)
    have HWX := Lib.hid (putF_wf HX.out)
    clear HP HWF HGP HU HFU HF HUF HLH HPG HLL HPG2 HG2 HG7 HOWN2 HS1 N5 I1 N1 hhl HN
    have q1 : decide ((1 : Int) ≤ (s : Int)) = true := by simp; omega
    have q2 : decide (1 ≤ s) = true := by simp; omega
    have q3 : decide ((s : Int) ≤ (len2 : Int)) = true := by simp; omega
    have q4 : decide (s ≤ len2) = true := by simp; omega
    go_region_held3 (fun w' => Below w.heap.size w w') (first | exact HW3.out | exact HW3.out.drew | (first | exact HB5.out | exact HB5.out.drew)) (first
      | (go_at_call 31; refine (HPX.out _).mono ?_; rintro e w5 ⟨v5, rfl, hg5, hB5⟩; obtain ⟨a9, cap9, b9, rfl, hc9, hc10, hb9, HS9⟩ := hg5.ints rfl HWX.out; rw [HLS.out] at hc9 HS9; rw [HPUT.out] at HS9; have HB5 := Lib.hid (HW3.out.drew.trans (hB5.mono (HW3.out.drew.size))); have HSM := Lib.hid (same_yes HS9 (I2T.out.kept HB5.out (Nat.le_refl _)) cap9 cap2); clear hg5 hB5 hb9 HS9; unfold maxLen at hc10; rw [HLS.out])
      | (go_at_call 32; refine HSM.out.mono ?_; rintro e w6 ⟨rfl, rfl⟩))
    go_wp2
    go_ret
    exact ⟨rfl, HB5.out⟩
  · obtain ⟨rfl, rfl⟩ := HPG2.out.2 hf
    have hfb : ((f : Int) != 0) = true := by simp; exact hf
    clear hf
    go_wp2_with fail
    refine HG2.out.mono ?_
    rintro e w4 ⟨rfl, rfl⟩
    go_wp2
    go_ret
    exact ⟨rfl, HW3.out⟩
theorem walk_VarintBack (a0 : Int) (a1 : Option Addr) (len1 cap1 : Nat) (z1 : List Int) (a2 : Option Addr) (len2 cap2 : Nat) (z2 : List Int) (w : World) (w0 : (Lit.int .u64 a0).wf = true) (w1 : IsRow .u8 w a1 len1 cap1 z1) (w2 : IsRow .u8 w a2 len2 cap2 z2) :
    Calls Try.prog 14 #[.int .u64 a0, .slice a1 len1 cap1, .slice a2 len2 cap2] w fun e w' => e = .returned (.bool true) ∧ Below w.heap.size w w' := by
  have ⟨b1, b2⟩ := bounds_u64 w0
  clear w0
  obtain ⟨n, rfl⟩ := Int.eq_ofNat_of_zero_le b1
  have hc2 := w2.cap
  have hn1 : a1 = none → len1 = 0 ∧ cap1 = 0 := fun h => by subst h; exact w1.nil
  obtain ⟨p1, o1, i1⟩ := w1.ints
  obtain ⟨p2, o2, i2⟩ := w2.ints
  clear w1 w2
  by_cases h1 : 300 < len1
  · have hm1 := i1.small
    have hm2 := i2.small
    unfold maxLen at hm1 hm2
    clear i1 i2 hn1 b1 b2
    go_enter Try.func14, Try.ntmps14
    go_wp2_with (go_at_call 28; refine (valive_any _).mono ?_; rintro e w' ⟨rfl, hB⟩)
    go_ret
    exact ⟨rfl, by assumption⟩
  · by_cases h2 : 300 < len2
    · have hm1 := i1.small
      have hm2 := i2.small
      unfold maxLen at hm1 hm2
      clear i1 i2 hn1 b1 b2
      go_enter Try.func14, Try.ntmps14
      go_wp2_with (go_at_call 28; refine (valive_any _).mono ?_; rintro e w' ⟨rfl, hB⟩)
      go_ret
      exact ⟨rfl, by assumption⟩
    · exact back_main a1 a2 n len1 cap1 len2 cap2 p1 o1 p2 o2 _ _ w (by omega) (Lib.hid i1) (Lib.hid i2) (Lib.hid hn1) hc2 (by omega) (by omega)
end Go.Proofs.Ytiajpffdnjeafaa
