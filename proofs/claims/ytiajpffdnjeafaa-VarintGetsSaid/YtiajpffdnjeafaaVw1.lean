/- The walks of VarintGets and VarintPuts. -/
import Derived.Test.YtiajpffdnjeafaaVi
import Derived.Test.YtiajpffdnjeafaaVr
set_option linter.unusedVariables false
namespace Go.Proofs.Ytiajpffdnjeafaa
open Go.RowKit

theorem walk_VarintGets (a0 : Option Addr) (len0 cap0 : Nat) (z0 : List Int) (w : World) (w0 : IsRow .u8 w a0 len0 cap0 z0) :
    Calls Try.prog 11 #[.slice a0 len0 cap0] w fun e w' => e = .returned (.bool true) ∧ Below w.heap.size w w' := by
  have hcap := w0.cap
  obtain ⟨b, off, hi⟩ := w0.ints
  clear w0
  have hm := hi.small
  unfold maxLen at hm
  have H := Lib.hid (fun (W : World) (hB : Below w.heap.size w W) => get_any _ _ _ _ _ _ cap0 W (hi.kept hB (Nat.le_refl _)) hcap)
  have HR := Lib.hid (fun (W : World) (hB : Below w.heap.size w W) => rget_any _ _ _ _ _ _ cap0 W (hi.kept hB (Nat.le_refl _)))
  clear hi
  generalize getF (z0.take len0) = r at *
  by_cases h3 : 300 < len0
  · go_enter Try.func11, Try.ntmps11
    go_wp2_with (go_at_call 28; refine (valive_any _).mono ?_; rintro e w' ⟨rfl, hB⟩)
    go_ret
    exact ⟨rfl, by assumption⟩
  · go_enter Try.func11, Try.ntmps11
    go_wp2_with (first
      | (go_at_call 28; refine (valive_any _).mono ?_; rintro e w' ⟨rfl, hB⟩)
      | (go_at_call 29; refine (H.out _ hB).mono ?_; rintro e w2 ⟨rfl, rfl⟩)
      | (go_at_call 30; refine (HR.out _ hB).mono ?_; rintro e w2 ⟨rfl, rfl⟩))
    go_ret
    exact ⟨rfl, by assumption⟩

theorem walk_VarintPuts (a0 : Int) (w : World) (w0 : (Lit.int .u64 a0).wf = true) :
    Calls Try.prog 12 #[.int .u64 a0] w fun e w' => e = .returned (.bool true) ∧ Below w.heap.size w w' := by
  have ⟨b1, b2⟩ := bounds_u64 w0
  clear w0
  obtain ⟨n, rfl⟩ := Int.eq_ofNat_of_zero_le b1
  have hn : n ≤ 18446744073709551615 := by omega
  have hl := putL_length 9 n
  have hL : (putF n).length = (putL 9 n).length := rfl
  have HP := Lib.hid (fun W => put_any n W hn)
  have HRP := Lib.hid (fun W => rput_any n W hn)
  have HLEN := Lib.hid (fun W => len_any n W hn)
  have HU := Lib.hid (fun W => unfold_any (n : Int) W b1 b2)
  have HRU := Lib.hid (fun W => runfold_any (n : Int) W b1 b2)
  have hwb := wrap64_in_bd (n : Int)
  have HF := Lib.hid (fun W => fold_any (wrap64 (n : Int)) W hwb.1 hwb.2)
  have HRF := Lib.hid (fun W => rfold_any (wrap64 (n : Int)) W hwb.1 hwb.2)
  have hby : ∀ x ∈ putF n, (Lit.int .u8 x).wf = true := fun x hx => WalkArith.wf_u8 (putL_bytes 9 n (by rw [show (128 : Nat) ^ (9 + 1) = 1180591620717411303424 by decide]; omega) x hx)
  have HBY := Lib.hid hby
  clear hwb hn hL hby b1 b2
  generalize foldF (wrap64 (n : Int)) = fo at *
  generalize unfoldF (n : Int) = un at *
  go_enter Try.func12, Try.ntmps12
  go_wp2_with (go_at_call 28; refine (valive_any _).mono ?_; rintro e w0 ⟨rfl, hB0⟩)
  refine (HP.out _).mono ?_
  rintro e w1 ⟨v, rfl, hg, hB1⟩
  obtain ⟨a5, cap5, b5, rfl, hc1, hc2, hb5, HS⟩ := hg.ints rfl HBY.out
  have HS1 := Lib.hid HS
  have HB1 := Lib.hid hB1
  clear HS hg hb5 hB1
  unfold maxLen at hc2
  go_wp2_with fail
  refine (HRP.out _).mono ?_
  rintro e w2 ⟨v, rfl, hg, hB2⟩
  obtain ⟨a6, cap6, b6, rfl, hc3, hc4, hb6, HS⟩ := hg.ints rfl HBY.out
  have HSAME := Lib.hid (same_yes (HS1.out.kept hB2 (Nat.le_refl _)) HS cap5 cap6)
  have HB2 := Lib.hid (hB0.trans ((HB1.out.trans (hB2.mono HB1.out.size)).mono hB0.size))
  clear HS hg hb6 hB2 hB0
  unfold maxLen at hc4
  generalize (putF n).length = L at *
  go_wp2_with fail
  refine HSAME.out.mono ?_
  rintro e w3 ⟨rfl, rfl⟩
  go_wp2_with (first
    | (go_at_call 34; refine (HLEN.out _).mono ?_; rintro e w3 ⟨rfl, rfl⟩)
    | (go_at_call 35; refine (HF.out _).mono ?_; rintro e w3 ⟨rfl, rfl⟩)
    | (go_at_call 36; refine (HRF.out _).mono ?_; rintro e w3 ⟨rfl, rfl⟩)
    | (go_at_call 37; refine (HU.out _).mono ?_; rintro e w3 ⟨rfl, rfl⟩)
    | (go_at_call 38; refine (HRU.out _).mono ?_; rintro e w3 ⟨rfl, rfl⟩))
  go_ret
  exact ⟨rfl, HB2.out⟩
end Go.Proofs.Ytiajpffdnjeafaa
