/- The walk of ScalarSums. -/
import Derived.Test.YtiajpffdnjeafaaScg
import Derived.Test.YtiajpffdnjeafaaLib
set_option linter.unusedVariables false
namespace Go.Proofs.Ytiajpffdnjeafaa
open Go.RowKit

theorem sum_at {B : Nat} {w : World} {a : Option Addr} {b off len : Nat} {zs : List Int} (h : IntsAt .i64 B w a b off len zs) (cap : Nat) :
    Calls Try.prog 26 #[.slice a len cap] w fun e w' => e = .returned (.tuple #[.int .i64 (sumV zs), .bool (sumOk zs)]) ∧ w = w' :=
  sum_any zs a b off len cap w h.addr h.length h.small h.cell h.fits
theorem rsum_at {B : Nat} {w : World} {a : Option Addr} {b off len : Nat} {zs : List Int} (h : IntsAt .i64 B w a b off len zs) (cap : Nat) :
    Calls Try.prog 27 #[.slice a len cap] w fun e w' => e = .returned (.tuple #[.int .i64 (sumV zs), .bool (sumOk zs)]) ∧ w = w' :=
  rsum_any zs a b off len cap w h.addr h.length h.small h.cell h.fits
theorem walk_ScalarSums (a0 : Option Addr) (len0 cap0 : Nat) (z0 : List Int) (w : World) (w0 : IsRow .i64 w a0 len0 cap0 z0) :
    Calls Try.prog 5 #[.slice a0 len0 cap0] w fun e w' => e = .returned (.bool true) ∧ Below w.heap.size w w' := by
  obtain ⟨b, off, hi⟩ := w0.ints
  clear w0
  have H := Lib.hid hi
  have hm := hi.small
  unfold maxLen at hm
  clear hi
  by_cases h3 : 300 < len0
  · go_enter Try.func5, Try.ntmps5
    go_wp2_with (go_at_call 15; refine (alive_any _).mono ?_; rintro e w' ⟨rfl, hB⟩)
    go_ret
    exact ⟨rfl, by assumption⟩
  · go_enter Try.func5, Try.ntmps5
    go_wp2_with (first
      | (go_at_call 15; refine (alive_any _).mono ?_; rintro e w' ⟨rfl, hB⟩)
      | (go_at_call 26; refine (sum_at (H.out.kept hB (Nat.le_refl _)) _).mono ?_; rintro e w2 ⟨rfl, rfl⟩)
      | (go_at_call 27; refine (rsum_at (H.out.kept hB (Nat.le_refl _)) _).mono ?_; rintro e w2 ⟨rfl, rfl⟩))
    go_ret
    exact ⟨rfl, by assumption⟩
end Go.Proofs.Ytiajpffdnjeafaa
