/- Contract of a reader's call: four bytes. -/
import Derived.Test.YtnkhpmpoemodiaaRe
set_option linter.unusedVariables false
namespace Go.Proofs.Ytnkhpmpoemodiaa
open Go.RowKit

/-- The number of the first k of four bytes, the lowest one first. -/
def wordK (l : List Int) : Nat → Int
  | 0 => 0
  | 1 => l.getD 0 0
  | 2 => l.getD 0 0 + 256 * l.getD 1 0
  | 3 => l.getD 0 0 + 256 * l.getD 1 0 + 65536 * l.getD 2 0
  | _ => l.getD 0 0 + 256 * l.getD 1 0 + 65536 * l.getD 2 0 + 16777216 * l.getD 3 0
def rfixed (zs : List Int) (s : RS) : RS × Int := ((rtake zs 0 4 s).1, if (rtake zs 0 4 s).2.length < 4 then 0 else wordK (rtake zs 0 4 s).2 4)
theorem rfixed_any (w : World) (R : Nat) (zs : List Int) (s : RS) (h : RIs w R zs s) :
    Calls Try.prog 90 #[.pointer (some ⟨R, 0, none⟩)] w (IntPost .u32 w R zs (rfixed zs s).1 (rfixed zs s).2) := by
  have HT : Hid (Calls Try.prog 91 #[.pointer (some ⟨R, 0, none⟩), .int .i64 0, .int .i64 4] w (TakePost w R zs (rtake zs 0 4 s))) := Lib.hid (rtake_any w R zs s 0 4 h (by simpa using h.bytes.2.1) (by omega))
  have hl4 : (rtake zs 0 4 s).2.length ≤ 4 := by
    unfold rtake
    split
    · split
      · simp
      · simp only [List.length_take]; omega
    · simp
  clear h
  unfold rfixed
  generalize rtake zs 0 4 s = r at *
  obtain ⟨s1, xs⟩ := r
  simp only at hl4 ⊢
  by_cases hlt : xs.length < 4
  · rw [if_pos hlt]
    go_enter Try.func90, Try.ntmps90
    go_wp2_with fail
    refine HT.out.mono ?_
    rintro e w1 ⟨a, cap, b, off, rfl, hc, hnil, hI, hap, hr1, hg1⟩
    have H := Lib.hid (And.intro hr1 hg1)
    clear hI hnil hc hap hr1 hg1
    go_wp2
    go_ret
    exact ⟨rfl, H.out.1, H.out.2⟩
  · have h4 : xs.length = 4 := by omega
    rw [if_neg hlt]
    match xs, h4 with
    | [x0, x1, x2, x3], _ =>
    clear hlt hl4
    go_enter Try.func90, Try.ntmps90
    go_wp2_with fail
    refine HT.out.mono ?_
    rintro e w1 ⟨a, cap, b, off, rfl, hc, hnil, hI, hap, hr1, hg1⟩
    have hc0 := hI.cell 0 (by simp)
    have hc1 := hI.cell 1 (by simp)
    have hc2 := hI.cell 2 (by simp)
    have hc3 := hI.cell 3 (by simp)
    simp only [List.getD_cons_zero, List.getD_cons_succ, Nat.add_zero] at hc0 hc1 hc2 hc3
    obtain rfl : a = some ⟨b, off, none⟩ := hI.addr.resolve_left (by simp)
    have b0 : 0 ≤ x0 ∧ x0 ≤ 255 := bounds_u8 (hI.fits x0 (by simp))
    have b1 : 0 ≤ x1 ∧ x1 ≤ 255 := bounds_u8 (hI.fits x1 (by simp))
    have b2 : 0 ≤ x2 ∧ x2 ≤ 255 := bounds_u8 (hI.fits x2 (by simp))
    have b3 : 0 ≤ x3 ∧ x3 ≤ 255 := bounds_u8 (hI.fits x3 (by simp))
    have j1 : bits .or .u32 0 x0 = x0 := by have := bits_join_low .u32 32 (by decide) wraps_u32 0 0 x0 (by decide) (by decide) (by decide) (by omega) (by omega) (by omega); omega
    have j2 : bits .or .u32 x0 (x1 * 256) = x0 + x1 * 256 := bits_join_low .u32 32 (by decide) wraps_u32 8 x0 (x1 * 256) (by omega) (by omega) (by omega) (by omega) (by omega) (by omega)
    have j3 : bits .or .u32 (x0 + x1 * 256) (x2 * 65536) = x0 + x1 * 256 + x2 * 65536 := bits_join_low .u32 32 (by decide) wraps_u32 16 _ (x2 * 65536) (by omega) (by omega) (by omega) (by omega) (by omega) (by omega)
    have j4 : bits .or .u32 (x0 + x1 * 256 + x2 * 65536) (x3 * 16777216) = x0 + x1 * 256 + x2 * 65536 + x3 * 16777216 := bits_join_low .u32 32 (by decide) wraps_u32 24 _ (x3 * 16777216) (by omega) (by omega) (by omega) (by omega) (by omega) (by omega)
    have H := Lib.hid (And.intro hr1 hg1)
    have HJ := Lib.hid (And.intro j1 (And.intro j2 (And.intro j3 j4)))
    have HC := Lib.hid (And.intro hc0 (And.intro hc1 (And.intro hc2 hc3)))
    clear hI hnil hap hr1 hg1 j1 j2 j3 j4 hc0 hc1 hc2 hc3
    go_wp2
    go_loop [4, 11] (fun n i => ∃ (k : Nat) (nv : Int), k ≤ 4 ∧ i = .int .i64 k ∧ n = .int .u32 nv ∧ Hid (nv = wordK [x0, x1, x2, x3] k)) (fun _ i => 4 - (intOf i).toNat)
    case atStart => exact ⟨0, 0, by omega, rfl, rfl, Lib.hid rfl⟩
    case round =>
      obtain ⟨k, nv, hk, rfl, rfl, hnv⟩ := hrel
      have h5 : k = 0 ∨ k = 1 ∨ k = 2 ∨ k = 3 ∨ k = 4 := by omega
      clear hk
      rcases h5 with rfl | rfl | rfl | rfl | rfl
      · have hc0 := HC.out.1
        have j1 := HJ.out.1
        obtain rfl : nv = 0 := hnv.out
        go_wp2
        go_round
        case rel => exact ⟨1, _, by omega, by go_num, rfl, Lib.hid rfl⟩
        case measure => simp [intOf]
      · have hc1 := HC.out.2.1
        have j2 := HJ.out.2.1
        obtain rfl : nv = x0 := hnv.out
        go_wp2
        go_round
        case rel => exact ⟨2, _, by omega, by go_num, rfl, Lib.hid (by show nv + x1 * 256 = nv + 256 * x1; omega)⟩
        case measure => simp [intOf]
      · have hc2 := HC.out.2.2.1
        have j3 := HJ.out.2.2.1
        obtain rfl : nv = x0 + x1 * 256 := hnv.out.trans (by show x0 + 256 * x1 = x0 + x1 * 256; omega)
        go_wp2
        go_round
        case rel => exact ⟨3, _, by omega, by go_num, rfl, Lib.hid (by show x0 + x1 * 256 + x2 * 65536 = x0 + 256 * x1 + 65536 * x2; omega)⟩
        case measure => simp [intOf]
      · have hc3 := HC.out.2.2.2
        have j4 := HJ.out.2.2.2
        obtain rfl : nv = x0 + x1 * 256 + x2 * 65536 := hnv.out.trans (by show x0 + 256 * x1 + 65536 * x2 = x0 + x1 * 256 + x2 * 65536; omega)
        go_wp2
        go_round
        case rel => exact ⟨4, _, by omega, by go_num, rfl, Lib.hid (by show x0 + x1 * 256 + x2 * 65536 + x3 * 16777216 = x0 + 256 * x1 + 65536 * x2 + 16777216 * x3; omega)⟩
        case measure => simp [intOf]
      · go_wp2
        go_ret
        exact ⟨show Ending.returned (.int .u32 nv) = _ by rw [hnv.out], H.out.1, H.out.2⟩
end Go.Proofs.Ytnkhpmpoemodiaa
