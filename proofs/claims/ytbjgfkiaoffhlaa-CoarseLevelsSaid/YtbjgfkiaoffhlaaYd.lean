/- Contracts: are mates right? -/
import Derived.Test.YtbjgfkiaoffhlaaCi
import Derived.Test.YtbjgfkiaoffhlaaYp
import Derived.IntWalk
set_option linter.unusedVariables false
set_option linter.unusedSectionVars false
namespace Go.Proofs.Ytbjgfkiaoffhlaa
open Go.RowKit Go.Shelf Rk

attribute [local go_sem] Oper.semAt_some

theorem mretb {b c : Bool} (h : b = c) : Ending.returned (.bool b) = .returned (.bool c) := by rw [h]
theorem mateOk_false {ms : List Int} {j : Nat} (hj : j < ms.length) (h : mateOk ms j = false) : mateR ms = false := by
  unfold mateR
  rw [List.all_eq_false]
  exact ⟨j, List.mem_range.2 hj, by rw [h]; decide⟩
theorem mateR_all {ms : List Int} (h : ∀ i, i < ms.length → mateOk ms i = true) : mateR ms = true := by
  unfold mateR
  rw [List.all_eq_true]
  exact fun i hi => h i (List.mem_range.1 hi)
set_option maxRecDepth 100000 in
set_option maxHeartbeats 2000000 in
theorem mright_any {B : Nat} {w : World} {a : Option Addr} {b off len cap : Nat} {ms : List Int} (hm : IntsAt .i64 B w a b off len ms) :
    Calls Try.prog 16 #[.slice a len cap] w fun e w' => e = .returned (.bool (mateR ms)) ∧ w = w' := by
  have hsm := hm.small
  unfold maxLen at hsm
  have HM := Lib.hid hm
  have hl := hm.length
  have HA : Hid ((∀ i, i < len → mateOk ms i = true) → mateR ms = true) := Lib.hid (fun h => mateR_all (by rw [hl]; exact h))
  have HO : Hid (∀ i, i < len → mateOk ms i = false → mateR ms = false) := Lib.hid (fun i hi => mateOk_false (by rw [hl]; exact hi))
  have HD : Hid (∀ i, mateOk ms i = decide (0 ≤ ms.getD i 0 ∧ ms.getD i 0 < (len : Int) ∧ ms.getD (ms.getD i 0).toNat 0 = (i : Int))) := Lib.hid (fun i => by rw [← hl]; rfl)
  clear hm hl
  generalize mateR ms = res at *
  go_enter Try.func16, Try.ntmps16
  go_wp2
  go_loop [7] (fun i => ∃ j : Nat, j ≤ len ∧ i = .int .i64 j ∧ Hid (∀ i, i < j → mateOk ms i = true)) (fun i => len - (intOf i).toNat)
  case atStart => exact ⟨0, Nat.zero_le _, rfl, Lib.hid (fun i hi => absurd hi (Nat.not_lt_zero _))⟩
  case round =>
    obtain ⟨j, hj, rfl, HJ⟩ := hrel
    by_cases hlt : j < len
    · have c1 := HM.out.cell j hlt
      obtain rfl : a = some ⟨b, off, none⟩ := HM.out.addr.resolve_left (by omega)
      have hd := HD.out j
      have hjn : (j : Int) < (len : Int) := by omega
      by_cases h1 : ms.getD j 0 < 0
      · have d1 : decide (ms.getD j 0 < 0) = true := by simpa using h1
        have hr := Lib.hid (HO.out j hlt (by rw [hd]; exact decide_eq_false (fun h => by omega)))
        clear hd h1
        generalize ms.getD j 0 = y at *
        go_wp2
        go_ret
        exact ⟨mretb hr.out.symm, rfl⟩
      · have d1 : decide (ms.getD j 0 < 0) = false := by simpa using h1
        by_cases h2 : (len : Int) ≤ ms.getD j 0
        · have d2 : decide ((len : Int) ≤ ms.getD j 0) = true := by simpa using h2
          have hr := Lib.hid (HO.out j hlt (by rw [hd]; exact decide_eq_false (fun h => by omega)))
          clear hd h1 h2
          generalize ms.getD j 0 = y at *
          go_wp2
          go_ret
          exact ⟨mretb hr.out.symm, rfl⟩
        · have d2 : decide ((len : Int) ≤ ms.getD j 0) = false := by simpa using h2
          obtain ⟨k, hk⟩ : ∃ k : Nat, ms.getD j 0 = (k : Int) := ⟨_, (Int.toNat_of_nonneg (by omega)).symm⟩
          rw [hk] at c1 d1 d2 hd
          have hkl : k < len := by omega
          have hkn : (k : Int) < (len : Int) := by omega
          have c2 := HM.out.cell k hkl
          rw [Int.toNat_natCast] at hd
          clear h1 h2 hk
          generalize ms.getD k 0 = z at *
          by_cases h3 : z = (j : Int)
          · have d3 : (z == (j : Int)) = true := by simpa using h3
            have hok : mateOk ms j = true := by rw [hd]; exact decide_eq_true ⟨by omega, hkn, h3⟩
            have HJ2 : Hid (∀ i, i < j + 1 → mateOk ms i = true) := Lib.hid (fun i hi => by
              by_cases e : i = j
              · subst e; exact hok
              · exact HJ.out i (by omega))
            subst h3
            clear hd hok
            go_wp2
            go_round
            case rel => exact ⟨j + 1, by omega, by go_num, HJ2⟩
            case measure => simp [intOf]; omega
          · have d3 : (z == (j : Int)) = false := by simpa using h3
            have d4 : (z != (j : Int)) = true := by simpa using h3
            have hr := Lib.hid (HO.out j hlt (by rw [hd]; exact decide_eq_false (fun h => h3 h.2.2)))
            clear hd h3
            go_wp2
            go_ret
            exact ⟨mretb hr.out.symm, rfl⟩
    · obtain rfl : j = len := by omega
      have hr := Lib.hid (HA.out HJ.out)
      go_wp2
      go_ret
      exact ⟨mretb hr.out.symm, rfl⟩
end Go.Proofs.Ytbjgfkiaoffhlaa
