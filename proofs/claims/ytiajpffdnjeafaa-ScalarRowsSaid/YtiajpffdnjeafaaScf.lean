/- Contracts: the sum of a row of numbers, in the program (of either type) and in the reference. -/
import Derived.Test.YtiajpffdnjeafaaSce
set_option linter.unusedVariables false
namespace Go.Proofs.Ytiajpffdnjeafaa
open Go.RowKit

theorem sum_end {zs : List Int} {t : Int} (h : sumGo zs 0 = some t) : sumV zs = t ∧ sumOk zs = true := by
  unfold sumV sumOk; rw [h]; exact ⟨rfl, rfl⟩
theorem sum_stop {zs : List Int} {k : Nat} {t : Int} (hk : k < zs.length) (h : sumGo (zs.take k) 0 = some t) (hn : inR (t + zs.getD k 0) = false) : sumV zs = 0 ∧ sumOk zs = false := by
  have : sumGo zs 0 = none := by rw [take_drop' zs k hk]; exact sumGo_none _ _ _ _ _ h hn
  unfold sumV sumOk; rw [this]; exact ⟨rfl, rfl⟩
theorem sum_next {zs : List Int} {k : Nat} {t : Int} (hk : k < zs.length) (h : sumGo (zs.take k) 0 = some t) (hy : inR (t + zs.getD k 0) = true) : sumGo (zs.take (k + 1)) 0 = some (t + zs.getD k 0) := by
  rw [take_snoc' zs k hk, sumGo_snoc _ _ _ _ h, if_pos hy]
theorem wf_getD {zs : List Int} (hwz : ∀ n ∈ zs, (Lit.int .i64 n).wf = true) (k : Nat) : -9223372036854775808 ≤ zs.getD k 0 ∧ zs.getD k 0 ≤ 9223372036854775807 := by
  rw [List.getD_eq_getElem?_getD]
  cases h : zs[k]? with
  | none => decide
  | some x => exact bounds_i64 (hwz x (List.mem_of_getElem? h))

theorem sum_any (zs : List Int) (a : Option Addr) (b off len cap : Nat) (w : World) (ha : len = 0 ∨ a = some ⟨b, off, none⟩) (hz : zs.length = len) (hm : len ≤ maxLen)
    (hc : ∀ i, i < len → w.cell? ⟨b, off + i, none⟩ = some (.int .i64 (zs.getD i 0))) (hwz : ∀ n ∈ zs, (Lit.int .i64 n).wf = true) :
    Calls Try.prog 26 #[.slice a len cap] w fun e w' => e = .returned (.tuple #[.int .i64 (sumV zs), .bool (sumOk zs)]) ∧ w = w' := by
  unfold maxLen at hm
  have HC := Lib.hid hc
  have HW := Lib.hid hwz
  have HZ := Lib.hid hz
  have HA := Lib.hid ha
  clear hc hwz hz ha
  go_enter Try.func26, Try.ntmps26
  go_wp2
  go_loop [4, 11] (fun tot i => ∃ (k : Nat) (t : Int), k ≤ len ∧ i = .int .i64 k ∧ tot = .int .i64 t ∧ Hid (sumGo (zs.take k) 0 = some t)) (fun _ i => len - (intOf i).toNat)
  case atStart => exact ⟨0, 0, Nat.zero_le _, rfl, rfl, Lib.hid rfl⟩
  case round =>
    obtain ⟨k, t, hk, rfl, rfl, hs⟩ := hrel
    by_cases hlt : k < len
    · have hkz : k < zs.length := by have := HZ.out; omega
      have hcell := HC.out k hlt
      have hbd := wf_getD HW.out k
      have htb := inR_t (sumGo_inR _ _ _ rfl hs.out)
      have HN := Lib.hid (fun h => sum_next hkz hs.out h)
      have HS := Lib.hid (fun h => sum_stop hkz hs.out h)
      obtain rfl : a = some ⟨b, off, none⟩ := HA.out.resolve_left (by omega)
      generalize zs.getD k 0 = x at *
      clear hkz
      cases hr : inR (t + x)
      · have HR := Lib.hid hr
        clear hr
        go_wp2_with (go_at_call 16; refine (add_no _ _ _ htb.1 htb.2 hbd.1 hbd.2 HR.out).mono ?_; rintro e w' ⟨rfl, rfl⟩)
        go_ret2
        have := HS.out HR.out
        exact ⟨ret2 this.1.symm this.2.symm, rfl⟩
      · have HR := Lib.hid hr
        clear hr
        go_wp2_with (go_at_call 16; refine (add_yes _ _ _ htb.1 htb.2 HR.out).mono ?_; rintro e w' ⟨rfl, rfl⟩)
        go_round
        case rel => exact ⟨k + 1, t + x, by omega, by go_num, rfl, Lib.hid (HN.out HR.out)⟩
        case measure => simp [intOf]; omega
    · have hfin := sum_end (zs := zs) (t := t) (by have h1 := hs.out; rwa [List.take_of_length_le (by have := HZ.out; omega)] at h1)
      have HF := Lib.hid hfin
      clear hfin
      go_wp2
      go_ret2
      exact ⟨ret2 HF.out.1.symm HF.out.2.symm, rfl⟩
theorem isum_any (zs : List Int) (a : Option Addr) (b off len cap : Nat) (w : World) (ha : len = 0 ∨ a = some ⟨b, off, none⟩) (hz : zs.length = len) (hm : len ≤ maxLen)
    (hc : ∀ i, i < len → w.cell? ⟨b, off + i, none⟩ = some (.int .i64 (zs.getD i 0))) (hwz : ∀ n ∈ zs, (Lit.int .i64 n).wf = true) :
    Calls Try.prog 43 #[.slice a len cap] w fun e w' => e = .returned (.tuple #[.int .i64 (sumV zs), .bool (sumOk zs)]) ∧ w = w' := by
  unfold maxLen at hm
  have HC := Lib.hid hc
  have HW := Lib.hid hwz
  have HZ := Lib.hid hz
  have HA := Lib.hid ha
  clear hc hwz hz ha
  go_enter Try.func43, Try.ntmps43
  go_wp2
  go_loop [4, 11] (fun tot i => ∃ (k : Nat) (t : Int), k ≤ len ∧ i = .int .i64 k ∧ tot = .int .i64 t ∧ Hid (sumGo (zs.take k) 0 = some t)) (fun _ i => len - (intOf i).toNat)
  case atStart => exact ⟨0, 0, Nat.zero_le _, rfl, rfl, Lib.hid rfl⟩
  case round =>
    obtain ⟨k, t, hk, rfl, rfl, hs⟩ := hrel
    by_cases hlt : k < len
    · have hkz : k < zs.length := by have := HZ.out; omega
      have hcell := HC.out k hlt
      have hbd := wf_getD HW.out k
      have htb := inR_t (sumGo_inR _ _ _ rfl hs.out)
      have HN := Lib.hid (fun h => sum_next hkz hs.out h)
      have HS := Lib.hid (fun h => sum_stop hkz hs.out h)
      obtain rfl : a = some ⟨b, off, none⟩ := HA.out.resolve_left (by omega)
      generalize zs.getD k 0 = x at *
      clear hkz
      cases hr : inR (t + x)
      · have HR := Lib.hid hr
        clear hr
        go_wp2_with (go_at_call 16; refine (add_no _ _ _ htb.1 htb.2 hbd.1 hbd.2 HR.out).mono ?_; rintro e w' ⟨rfl, rfl⟩)
        go_ret2
        have := HS.out HR.out
        exact ⟨ret2 this.1.symm this.2.symm, rfl⟩
      · have HR := Lib.hid hr
        clear hr
        go_wp2_with (go_at_call 16; refine (add_yes _ _ _ htb.1 htb.2 HR.out).mono ?_; rintro e w' ⟨rfl, rfl⟩)
        go_round
        case rel => exact ⟨k + 1, t + x, by omega, by go_num, rfl, Lib.hid (HN.out HR.out)⟩
        case measure => simp [intOf]; omega
    · have hfin := sum_end (zs := zs) (t := t) (by have h1 := hs.out; rwa [List.take_of_length_le (by have := HZ.out; omega)] at h1)
      have HF := Lib.hid hfin
      clear hfin
      go_wp2
      go_ret2
      exact ⟨ret2 HF.out.1.symm HF.out.2.symm, rfl⟩
theorem radd_yes (a b : Int) (w : World) (a1 : -9223372036854775808 ≤ a) (a2 : a ≤ 9223372036854775807) (b1 : -9223372036854775808 ≤ b) (b2 : b ≤ 9223372036854775807) (h : inR (a + b) = true) :
    Calls Try.prog 17 #[.int .i64 a, .int .i64 b] w fun e w' => e = .returned (.tuple #[.int .i64 (a + b), .bool true]) ∧ w = w' := by
  have := radd_any a b w a1 a2 b1 b2; rwa [orZ_t h, h] at this
theorem radd_no (a b : Int) (w : World) (a1 : -9223372036854775808 ≤ a) (a2 : a ≤ 9223372036854775807) (b1 : -9223372036854775808 ≤ b) (b2 : b ≤ 9223372036854775807) (h : inR (a + b) = false) :
    Calls Try.prog 17 #[.int .i64 a, .int .i64 b] w fun e w' => e = .returned (.tuple #[.int .i64 0, .bool false]) ∧ w = w' := by
  have := radd_any a b w a1 a2 b1 b2; rwa [orZ_f h, h] at this
theorem rsum_any (zs : List Int) (a : Option Addr) (b off len cap : Nat) (w : World) (ha : len = 0 ∨ a = some ⟨b, off, none⟩) (hz : zs.length = len) (hm : len ≤ maxLen)
    (hc : ∀ i, i < len → w.cell? ⟨b, off + i, none⟩ = some (.int .i64 (zs.getD i 0))) (hwz : ∀ n ∈ zs, (Lit.int .i64 n).wf = true) :
    Calls Try.prog 27 #[.slice a len cap] w fun e w' => e = .returned (.tuple #[.int .i64 (sumV zs), .bool (sumOk zs)]) ∧ w = w' := by
  unfold maxLen at hm
  have HC := Lib.hid hc
  have HW := Lib.hid hwz
  have HZ := Lib.hid hz
  have HA := Lib.hid ha
  clear hc hwz hz ha
  go_enter Try.func27, Try.ntmps27
  go_wp2
  go_loop [4, 5] (fun tot i => ∃ (k : Nat) (t : Int), k ≤ len ∧ i = .int .i64 k ∧ tot = .int .i64 t ∧ Hid (sumGo (zs.take k) 0 = some t)) (fun _ i => len - (intOf i).toNat)
  case atStart => exact ⟨0, 0, Nat.zero_le _, rfl, rfl, Lib.hid rfl⟩
  case round =>
    obtain ⟨k, t, hk, rfl, rfl, hs⟩ := hrel
    by_cases hlt : k < len
    · have hkz : k < zs.length := by have := HZ.out; omega
      have hcell := HC.out k hlt
      have hbd := wf_getD HW.out k
      have htb := inR_t (sumGo_inR _ _ _ rfl hs.out)
      have HN := Lib.hid (fun h => sum_next hkz hs.out h)
      have HS := Lib.hid (fun h => sum_stop hkz hs.out h)
      obtain rfl : a = some ⟨b, off, none⟩ := HA.out.resolve_left (by omega)
      generalize zs.getD k 0 = x at *
      clear hkz
      cases hr : inR (t + x)
      · have HR := Lib.hid hr
        clear hr
        go_wp2_with (go_at_call 17; refine (radd_no _ _ _ htb.1 htb.2 hbd.1 hbd.2 HR.out).mono ?_; rintro e w' ⟨rfl, rfl⟩)
        go_ret2
        have := HS.out HR.out
        exact ⟨ret2 this.1.symm this.2.symm, rfl⟩
      · have HR := Lib.hid hr
        clear hr
        go_wp2_with (go_at_call 17; refine (radd_yes _ _ _ htb.1 htb.2 hbd.1 hbd.2 HR.out).mono ?_; rintro e w' ⟨rfl, rfl⟩)
        go_round
        case rel => exact ⟨k + 1, t + x, by omega, by go_num, rfl, Lib.hid (HN.out HR.out)⟩
        case measure => simp [intOf]; omega
    · have hfin := sum_end (zs := zs) (t := t) (by have h1 := hs.out; rwa [List.take_of_length_le (by have := HZ.out; omega)] at h1)
      have HF := Lib.hid hfin
      clear hfin
      go_wp2
      go_ret2
      exact ⟨ret2 HF.out.1.symm HF.out.2.symm, rfl⟩
end Go.Proofs.Ytiajpffdnjeafaa
