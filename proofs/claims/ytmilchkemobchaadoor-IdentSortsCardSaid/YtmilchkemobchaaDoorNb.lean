/- Contracts: letters, digits, small numbers as text. -/
import Derived.Test.YtmilchkemobchaaDoorChecked
import Derived.WalkKit
import Derived.ProofKit
import Derived.OpenShut
import Derived.Below
import Derived.Lib.Hide
set_option linter.unusedVariables false
set_option linter.unusedSectionVars false
namespace Go.Proofs.YtmilchkemobchaaDoor
open Go.RowKit

def letB (c : Int) : Bool := decide (97 ≤ c ∧ c ≤ 122)
def digB (c : Int) : Bool := decide (48 ≤ c ∧ c ≤ 57)
theorem letter_any (c : Int) (h0 : 0 ≤ c) (h1 : c ≤ 255) (w : World) : Calls Tryd.prog 21 #[.int .u8 c] w fun e w' => e = .returned (.bool (letB c)) ∧ w = w' := by
  by_cases h : 97 ≤ c
  · by_cases h2 : c ≤ 122
    · have hr := Lib.hid (show letB c = true from decide_eq_true ⟨h, h2⟩)
      have g1 : decide (97 ≤ c) = true := by simpa using h
      have g2 : decide (c ≤ 122) = true := by simpa using h2
      go_enter Tryd.func21, Tryd.ntmps21
      go_wp2
      go_ret
      exact ⟨by rw [hr.out]; rfl, rfl⟩
    · have hr := Lib.hid (show letB c = false from decide_eq_false (fun e => h2 e.2))
      have g1 : decide (97 ≤ c) = true := by simpa using h
      have g2 : decide (c ≤ 122) = false := by simpa using h2
      go_enter Tryd.func21, Tryd.ntmps21
      go_wp2
      go_ret
      exact ⟨by rw [hr.out]; rfl, rfl⟩
  · have hr := Lib.hid (show letB c = false from decide_eq_false (fun e => h e.1))
    have g1 : decide (97 ≤ c) = false := by simpa using h
    go_enter Tryd.func21, Tryd.ntmps21
    go_wp2
    go_ret
    exact ⟨by rw [hr.out]; rfl, rfl⟩
theorem digit_any (c : Int) (h0 : 0 ≤ c) (h1 : c ≤ 255) (w : World) : Calls Tryd.prog 22 #[.int .u8 c] w fun e w' => e = .returned (.bool (digB c)) ∧ w = w' := by
  by_cases h : 48 ≤ c
  · by_cases h2 : c ≤ 57
    · have hr := Lib.hid (show digB c = true from decide_eq_true ⟨h, h2⟩)
      have g1 : decide (48 ≤ c) = true := by simpa using h
      have g2 : decide (c ≤ 57) = true := by simpa using h2
      go_enter Tryd.func22, Tryd.ntmps22
      go_wp2
      go_ret
      exact ⟨by rw [hr.out]; rfl, rfl⟩
    · have hr := Lib.hid (show digB c = false from decide_eq_false (fun e => h2 e.2))
      have g1 : decide (48 ≤ c) = true := by simpa using h
      have g2 : decide (c ≤ 57) = false := by simpa using h2
      go_enter Tryd.func22, Tryd.ntmps22
      go_wp2
      go_ret
      exact ⟨by rw [hr.out]; rfl, rfl⟩
  · have hr := Lib.hid (show digB c = false from decide_eq_false (fun e => h e.1))
    have g1 : decide (48 ≤ c) = false := by simpa using h
    go_enter Tryd.func22, Tryd.ntmps22
    go_wp2
    go_ret
    exact ⟨by rw [hr.out]; rfl, rfl⟩
/-- A small number as text: one letter, or two. -/
def digText : ByteArray := ⟨#[48, 49, 50, 51, 52, 53, 54, 55, 56, 57, 97, 98, 99, 100, 101, 102, 103, 104, 105, 106, 107, 108, 109, 110, 111, 112, 113, 114, 115, 116, 117, 118, 119, 120, 121, 122]⟩
def smallText : ByteArray := ⟨#[48, 48, 48, 49, 48, 50, 48, 51, 48, 52, 48, 53, 48, 54, 48, 55, 48, 56, 48, 57, 49, 48, 49, 49, 49, 50, 49, 51, 49, 52, 49, 53, 49, 54, 49, 55, 49, 56, 49, 57, 50, 48, 50, 49, 50, 50, 50, 51, 50, 52, 50, 53, 50, 54, 50, 55, 50, 56, 50, 57, 51, 48, 51, 49, 51, 50, 51, 51, 51, 52, 51, 53, 51, 54, 51, 55, 51, 56, 51, 57, 52, 48, 52, 49, 52, 50, 52, 51, 52, 52, 52, 53, 52, 54, 52, 55, 52, 56, 52, 57, 53, 48, 53, 49, 53, 50, 53, 51, 53, 52, 53, 53, 53, 54, 53, 55, 53, 56, 53, 57, 54, 48, 54, 49, 54, 50, 54, 51, 54, 52, 54, 53, 54, 54, 54, 55, 54, 56, 54, 57, 55, 48, 55, 49, 55, 50, 55, 51, 55, 52, 55, 53, 55, 54, 55, 55, 55, 56, 55, 57, 56, 48, 56, 49, 56, 50, 56, 51, 56, 52, 56, 53, 56, 54, 56, 55, 56, 56, 56, 57, 57, 48, 57, 49, 57, 50, 57, 51, 57, 52, 57, 53, 57, 54, 57, 55, 57, 56, 57, 57]⟩
def itoaB (n : Nat) : ByteArray := if n < 10 then digText.extract n (n + 1) else smallText.extract (n * 2) (n * 2 + 2)
set_option maxRecDepth 100000 in
theorem small_any (n : Nat) (hn : n < 100) (w : World) : Calls Tryd.prog 29 #[.int .i64 (n : Int)] w fun e w' => e = .returned (.string (itoaB n)) ∧ w = w' := by
  by_cases h : n < 10
  · have g1 : decide ((n : Int) < 10) = true := by simp; omega
    have HV : Hid (itoaB n = digText.extract n (n + 1)) := Lib.hid (if_pos h)
    have hsl := run_slice_string (P := Tryd.prog) w 9 digText .i64 .i64 (n : Int) ((n : Int) + 1) Tryd.underlying9 (by omega) (by omega) (by show _ ≤ (36 : Int); omega)
    unfold digText at hsl
    go_enter Tryd.func29, Tryd.ntmps29
    go_wp2
    go_ret
    exact ⟨by rw [HV.out]; rfl, rfl⟩
  · have g1 : decide ((n : Int) < 10) = false := by simp; omega
    have HV : Hid (itoaB n = smallText.extract (n * 2) (n * 2 + 2)) := Lib.hid (if_neg h)
    have hsl := run_slice_string (P := Tryd.prog) w 9 smallText .i64 .i64 ((n : Int) * 2) ((n : Int) * 2 + 2) Tryd.underlying9 (by omega) (by omega) (by show _ ≤ (200 : Int); omega)
    unfold smallText at hsl
    go_enter Tryd.func29, Tryd.ntmps29
    go_wp2
    go_ret
    exact ⟨by rw [HV.out]; rfl, rfl⟩
end Go.Proofs.YtmilchkemobchaaDoor
