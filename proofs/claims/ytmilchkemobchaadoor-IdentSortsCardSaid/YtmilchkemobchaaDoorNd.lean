/- Contracts: places, order and sameness of texts; the reference's checks. -/
import Derived.Test.YtmilchkemobchaaDoorNa
import Derived.Test.YtmilchkemobchaaDoorNc
import Derived.Test.YtmilchkemobchaaDoorSm
import Derived.Deep.QuietTactic
import Derived.BigQuiet
import Derived.IntWalk
import Derived.Laws.Cover1
set_option linter.unusedVariables false
set_option linter.unusedSectionVars false
namespace Go.Proofs.YtmilchkemobchaaDoor
open Go.RowKit Ss

theorem drewN_two (w : World) (n m : Nat) : (w.drewN n).drewN m = w.drewN (n + m) := by simp [World.drewN, Nat.add_assoc]
theorem nret {k : IntKind} {a b : Int} (h : a = b) : Ending.returned (.int k a) = .returned (.int k b) := by rw [h]
theorem nretb {b c : Bool} (h : b = c) : Ending.returned (.bool b) = .returned (.bool c) := by rw [h]
theorem eqS_true {a b : ByteArray} (h : a = b) : (a.toList == b.toList) = true := by rw [h]; exact beq_self_eq_true _
theorem eqS_false {a b : ByteArray} (h : a ≠ b) : (a.toList == b.toList) = false := by
  rw [beq_eq_false_iff_ne]; exact fun e => h (toList_inj e)
theorem strs_at {B : Nat} {w : World} {a : Option Addr} {b off len : Nat} {ss : List ByteArray} (h : StrsAt B w a b off len ss) (i : Nat) (hi : i < len) : w.cell? ⟨b, off + i, none⟩ = some (.string (atS ss i)) := h.cell i hi
section
variable {B : Nat} {w : World} {a : Option Addr} {b off len cap : Nat} {ss : List ByteArray}
set_option maxHeartbeats 1000000 in
theorem index_any (hm : StrsAt B w a b off len ss) (x : ByteArray) : Calls Tryd.prog 23 #[.slice a len cap, .string x] w fun e w' => e = .returned (.int .i64 (findI ss x)) ∧ w = w' := by
  have hsm := hm.small
  unfold maxLen at hsm
  have HM := Lib.hid hm
  have hl := hm.length
  have HH : Hid (∀ j, j < len → (∀ i, i < j → atS ss i ≠ x) → atS ss j = x → findI ss x = (j : Int)) := Lib.hid (fun j hj h1 h2 => find_hit (by rw [hl]; exact hj) h1 h2)
  have HMs : Hid ((∀ i, i < len → atS ss i ≠ x) → findI ss x = -1) := Lib.hid (fun h => find_miss (by rw [hl]; exact h))
  clear hm hl
  generalize findI ss x = r at *
  go_enter Tryd.func23, Tryd.ntmps23
  go_wp2
  go_loop [8] (fun i => ∃ j : Nat, j ≤ len ∧ i = .int .i64 j ∧ Hid (∀ i, i < j → atS ss i ≠ x)) (fun i => len - (intOf i).toNat)
  case atStart => exact ⟨0, Nat.zero_le _, rfl, Lib.hid (fun i hi => absurd hi (Nat.not_lt_zero _))⟩
  case round =>
    obtain ⟨j, hj, rfl, HJ⟩ := hrel
    by_cases hlt : j < len
    · have c1 := strs_at HM.out j hlt
      obtain rfl : a = some ⟨b, off, none⟩ := HM.out.addr.resolve_left (by omega)
      have hji : (j : Int) < (len : Int) := by omega
      have HHj := Lib.hid (HH.out j hlt HJ.out)
      have HN : Hid (atS ss j ≠ x → ∀ i, i < j + 1 → atS ss i ≠ x) := Lib.hid (fun h i hi => by
        by_cases e : i = j
        · rw [e]; exact h
        · exact HJ.out i (by omega))
      generalize atS ss j = y at *
      by_cases h : y = x
      · have g1 := eqS_true h.symm
        have HR := Lib.hid (HHj.out h)
        clear h
        go_wp2
        go_ret
        exact ⟨nret HR.out.symm, rfl⟩
      · have g1 := eqS_false (fun e => h e.symm)
        have HN2 := Lib.hid (HN.out h)
        clear h
        go_wp2
        go_round
        case rel => exact ⟨j + 1, by omega, by go_num, HN2⟩
        case measure => simp [intOf]; omega
    · obtain rfl : j = len := by omega
      have HR := Lib.hid (HMs.out HJ.out)
      go_wp2
      go_ret
      exact ⟨nret HR.out.symm, rfl⟩
theorem find_any (hm : StrsAt B w a b off len ss) (x : ByteArray) : Calls Tryd.prog 16 #[.slice a len cap, .string x] w fun e w' => e = .returned (.int .i64 (findI ss x)) ∧ w = w' := by
  have HI := Lib.hid (index_any (cap := cap) hm x)
  clear hm
  generalize findI ss x = r at *
  go_enter Tryd.func16, Tryd.ntmps16
  go_wp2_with (go_at_call 23; refine HI.out.mono ?_; clear HI; rintro e w' ⟨rfl, rfl⟩)
  go_ret
  exact ⟨rfl, rfl⟩
set_option maxHeartbeats 1000000 in
theorem xfind_any (hm : StrsAt B w a b off len ss) (x : ByteArray) : Calls Tryd.prog 17 #[.slice a len cap, .string x] w fun e w' => e = .returned (.int .i64 (findI ss x)) ∧ w = w' := by
  have hsm := hm.small
  unfold maxLen at hsm
  have HM := Lib.hid hm
  have hl := hm.length
  have HH : Hid (∀ j, j < len → (∀ i, i < j → atS ss i ≠ x) → atS ss j = x → findI ss x = (j : Int)) := Lib.hid (fun j hj h1 h2 => find_hit (by rw [hl]; exact hj) h1 h2)
  have HMs : Hid ((∀ i, i < len → atS ss i ≠ x) → findI ss x = -1) := Lib.hid (fun h => find_miss (by rw [hl]; exact h))
  clear hm hl
  generalize findI ss x = r at *
  go_enter Tryd.func17, Tryd.ntmps17
  go_wp2
  go_loop [5] (fun i => ∃ j : Nat, j ≤ len ∧ i = .int .i64 j ∧ Hid (∀ i, i < j → atS ss i ≠ x)) (fun i => len - (intOf i).toNat)
  case atStart => exact ⟨0, Nat.zero_le _, rfl, Lib.hid (fun i hi => absurd hi (Nat.not_lt_zero _))⟩
  case round =>
    obtain ⟨j, hj, rfl, HJ⟩ := hrel
    by_cases hlt : j < len
    · have c1 := strs_at HM.out j hlt
      obtain rfl : a = some ⟨b, off, none⟩ := HM.out.addr.resolve_left (by omega)
      have hji : (j : Int) < (len : Int) := by omega
      have HHj := Lib.hid (HH.out j hlt HJ.out)
      have HN : Hid (atS ss j ≠ x → ∀ i, i < j + 1 → atS ss i ≠ x) := Lib.hid (fun h i hi => by
        by_cases e : i = j
        · rw [e]; exact h
        · exact HJ.out i (by omega))
      generalize atS ss j = y at *
      by_cases h : y = x
      · have g1 := eqS_true h
        have HR := Lib.hid (HHj.out h)
        clear h
        go_wp2
        go_ret
        exact ⟨nret HR.out.symm, rfl⟩
      · have g1 := eqS_false h
        have HN2 := Lib.hid (HN.out h)
        clear h
        go_wp2
        go_round
        case rel => exact ⟨j + 1, by omega, by go_num, HN2⟩
        case measure => simp [intOf]; omega
    · obtain rfl : j = len := by omega
      have HR := Lib.hid (HMs.out HJ.out)
      go_wp2
      go_ret
      exact ⟨nret HR.out.symm, rfl⟩
set_option maxHeartbeats 1000000 in
theorem sorted_any (hm : StrsAt B w a b off len ss) : Calls Tryd.prog 14 #[.slice a len cap] w fun e w' => e = .returned (.bool (sortedB ss)) ∧ ∃ n, w' = w.drewN n := by
  have hsm := hm.small
  unfold maxLen at hsm
  have HM := Lib.hid hm
  have hl := hm.length
  have HH : Hid (∀ k, k + 1 < len → ltB (atS ss k) (atS ss (k + 1)) = false → sortedB ss = false) := Lib.hid (fun k hk h => sorted_no (by rw [hl]; exact hk) h)
  have HMs : Hid (srtTo ss len = true → sortedB ss = true) := Lib.hid (fun h => by unfold sortedB; rw [hl]; exact h)
  clear hm hl
  generalize sortedB ss = r at *
  go_enter Tryd.func14, Tryd.ntmps14
  go_wp2
  go_loopw [3] (fun i wr => ∃ j : Nat, 1 ≤ j ∧ (j ≤ len ∨ j = 1) ∧ i = .int .i64 j ∧ Hid (srtTo ss j = true) ∧ Hid (∃ n, wr = w.drewN n)) (fun i _ => len - (intOf i).toNat)
  case atStart => exact ⟨1, Nat.le_refl _, .inr rfl, rfl, Lib.hid rfl, Lib.hid ⟨0, rfl⟩⟩
  case round =>
    obtain ⟨j, hj1, hj, rfl, HJ, HW⟩ := hrel
    by_cases hlt : j < len
    · obtain ⟨k, hk⟩ : ∃ k, j = k + 1 := ⟨j - 1, by omega⟩
      have hI : StrsAt B wr a b off len ss := by obtain ⟨n, rfl⟩ := HW.out; exact ⟨HM.out.addr, HM.out.length, HM.out.small, HM.out.below, fun i hi => HM.out.cell i hi, HM.out.fits⟩
      have c1 := strs_at hI j hlt
      have c2 := strs_at hI k (by omega)
      obtain rfl : a = some ⟨b, off, none⟩ := hI.addr.resolve_left (by omega)
      have hji : (j : Int) < (len : Int) := by omega
      have hw : IntKind.i64.wrap ((j : Int) - 1) = (k : Int) := by rw [show (j : Int) - 1 = (k : Int) by omega]; exact IntWalk.i64_in _ (by omega)
      have hki : (k : Int) < (len : Int) := by omega
      have hk0 : (0 : Int) ≤ (k : Int) := by omega
      have hle := leB_eq (atS ss j) (atS ss k)
      have HHk := Lib.hid (HH.out k (by omega))
      have HS : Hid (srtTo ss (j + 1) = (srtTo ss j && (j == 0 || ltB (atS ss k) (atS ss j)))) := Lib.hid (by rw [srtTo_succ, show j - 1 = k by omega])
      rw [← hk] at HHk
      generalize atS ss j = y at *
      generalize atS ss k = x at *
      clear hk hI
      cases hq : ltB x y with
      | true =>
        rw [hq] at hle
        have g1 : (Op.bytesLess y.toList x.toList || y.toList == x.toList) = false := hle
        have HS2 : Hid (srtTo ss (j + 1) = true) := Lib.hid (by rw [HS.out, HJ.out, hq]; simp)
        clear hle hq
        go_wp2
        go_quiet (fail)
        go_wp2
        go_roundw
        case rel => exact ⟨j + 1, by omega, .inl (by omega), by go_num, HS2, Lib.hid (by obtain ⟨n, h⟩ := HW.out; exact ⟨_, by rw [h, drewN_two]⟩)⟩
        case measure => simp [intOf]; omega
      | false =>
        rw [hq] at hle
        have g1 : (Op.bytesLess y.toList x.toList || y.toList == x.toList) = true := hle
        have HR := Lib.hid (HHk.out hq)
        clear hle hq
        go_wp2
        go_quiet (fail)
        go_wp2
        go_ret
        exact ⟨nretb HR.out.symm, by obtain ⟨n, h⟩ := HW.out; exact ⟨_, by rw [h, drewN_two]⟩⟩
    · have HR := Lib.hid (HMs.out (srtTo_iff.2 (fun i hi => srtTo_iff.1 HJ.out i (by omega))))
      go_wp2
      go_ret
      exact ⟨nretb HR.out.symm, HW.out⟩
end
end Go.Proofs.YtmilchkemobchaaDoor
