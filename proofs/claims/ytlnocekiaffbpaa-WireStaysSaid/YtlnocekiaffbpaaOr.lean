/- Contract: the example that each statement of layer 3 begins with returns true, and makes memory alone. -/
import Derived.Test.YtlnocekiaffbpaaOq
set_option linter.unusedVariables false
namespace Go.Proofs.Ytlnocekiaffbpaa
open Go.RowKit

theorem wis_new (S : Nat → Prop) (w : World) (g : Nat) (hg : g = w.heap.size) (hS : ¬ S g) : WIs S (w.alloc (.cells #[.pointer none, .int .i64 0] 27)) g [] :=
  ⟨.pointer none, ⟨0, rfl, rfl⟩, heap_new _ hg, hS⟩
def zsEx : List Int := [2, 97, 98, 1, 2, 1, 0, 0]
theorem ex_text : [] ++ (putF (ByteArray.size ⟨#[97, 98]⟩) ++ strI ⟨#[97, 98]⟩) = [2, 97, 98] := by decide
theorem r_text2 : rtext zsEx 2 ⟨0, 0, 0⟩ = (⟨3, 0, 0⟩, [97, 98]) := by rfl
theorem r_num : rnum zsEx ⟨3, 0, 0⟩ = (⟨3, 0, 0⟩, 1, 1) := by rfl
theorem r_fixed : rfixed zsEx ⟨4, 0, 0⟩ = (⟨8, 0, 0⟩, 258) := by rfl
theorem r_end : rend zsEx ⟨8, 0, 0⟩ = ⟨8, 0, 0⟩ := by rfl
theorem r_text1 : rtext zsEx 1 ⟨0, 0, 0⟩ = (⟨0, 2, 0⟩, []) := by rfl

theorem ex_len : zsEx.length = 8 := rfl
theorem ex_conv {w : World} {g : Nat} (h : IntsAt .u8 w.heap.size w (some ⟨g, 0, none⟩) g 0 8 zsEx) : (convert 28 9 (.slice (some ⟨g, 0, none⟩) 8 8)).run Try.prog w = .ok (.string ⟨#[2, 97, 98, 1, 2, 1, 0, 0]⟩) w := conv_ints h 8
theorem c_rtext2 {w : World} {R : Nat} (h : RIs w R zsEx ⟨0, 0, 0⟩) : Calls Try.prog 36 #[.pointer (some ⟨R, 0, none⟩), .int .i64 2] w fun e w' => e = .returned (.string ⟨#[97, 98]⟩) ∧ RIs w' R zsEx ⟨3, 0, 0⟩ ∧ w.grownBy w' (some R) := by
  have := rtext_any w R zsEx ⟨0, 0, 0⟩ 2 (by decide) (by decide) h
  rw [r_text2] at this
  exact this
theorem c_rtext1 {w : World} {R : Nat} (h : RIs w R zsEx ⟨0, 0, 0⟩) : Calls Try.prog 36 #[.pointer (some ⟨R, 0, none⟩), .int .i64 1] w fun e w' => e = .returned (.string ⟨#[]⟩) ∧ RIs w' R zsEx ⟨0, 2, 0⟩ ∧ w.grownBy w' (some R) := by
  have := rtext_any w R zsEx ⟨0, 0, 0⟩ 1 (by decide) (by decide) h
  rw [r_text1] at this
  exact this
theorem c_rnum {w : World} {R : Nat} (h : RIs w R zsEx ⟨3, 0, 0⟩) : Calls Try.prog 35 #[.pointer (some ⟨R, 0, none⟩)] w fun e w' => e = .returned (.int .i64 (-1)) ∧ RIs w' R zsEx ⟨4, 0, 0⟩ ∧ w.grownBy w' (some R) := by
  have := rnumb_any w R zsEx ⟨3, 0, 0⟩ h
  rw [r_num] at this
  exact this
theorem c_rfixed {w : World} {R : Nat} (h : RIs w R zsEx ⟨4, 0, 0⟩) : Calls Try.prog 33 #[.pointer (some ⟨R, 0, none⟩)] w fun e w' => e = .returned (.int .u32 258) ∧ RIs w' R zsEx ⟨8, 0, 0⟩ ∧ w.grownBy w' (some R) := by
  have := rfixed_any w R zsEx ⟨4, 0, 0⟩ h
  rw [r_fixed] at this
  exact this
theorem c_rend {w : World} {R : Nat} (h : RIs w R zsEx ⟨8, 0, 0⟩) : Calls Try.prog 28 #[.pointer (some ⟨R, 0, none⟩)] w fun e w' => e = .returned (.tuple #[]) ∧ RIs w' R zsEx ⟨8, 0, 0⟩ ∧ w.grownBy w' (some R) := by
  have := rend_any w R zsEx ⟨8, 0, 0⟩ h
  rw [r_end] at this
  exact this
theorem c_open {w : World} {g : Nat} (h : IntsAt .u8 w.heap.size w (some ⟨g, 0, none⟩) g 0 8 zsEx) : Calls Try.prog 26 #[.slice (some ⟨g, 0, none⟩) 8 8] w (OpenPost w zsEx) := open_any h (fun e => by cases e) (by decide)
/-- Of another block. -/
theorem RIs.other {w w' : World} {R R' : Nat} {zs : List Int} {s : RS} (h : RIs w R zs s) (hg : w.grownBy w' (some R')) (hR : ∀ a cap b off, RAt w R zs s a cap b off → R ≠ R' ∧ (zs.length = 0 ∨ b ≠ R')) : RIs w' R zs s := by
  obtain ⟨a, cap, b, off, h⟩ := h
  obtain ⟨h1, h2⟩ := hR a cap b off h
  exact ⟨a, cap, b, off, heap_kept h.box hg (fun e => h1 (by cases e; rfl)), h.data.stay (S := fun k => k ≠ R') (Stay.grown hg (fun k e hk => hk (by cases e; rfl))) h2, h.hcap, h.nil, h.apart, h.le, h.few⟩
/-- Of a reader that came later. -/
theorem RIs.later {w w1 w' : World} {R R' : Nat} {zs : List Int} {s : RS} (h : RIs w R zs s) (hR : w.heap.size ≤ R') (h1 : Below w.heap.size w w1) (hg : w1.grownBy w' (some R')) : RIs w' R zs s :=
  h.stay (h1.grown hg h1.size (fun k e => by cases e; exact hR))

theorem walive_any (w : World) :
    Calls Try.prog 13 #[] w fun e w' => e = .returned (.bool true) ∧ Below w.heap.size w w' := by
  obtain ⟨S, hSd⟩ : ∃ S : Nat → Prop, ∀ k, S k ↔ w.heap.size < k := ⟨_, fun _ => Iff.rfl⟩
  have HS0 : Hid (¬ S w.heap.size) := Lib.hid (fun h => Nat.lt_irrefl _ ((hSd _).1 h))
  have HSA : Hid (∀ k, w.heap.size < k → S k) := Lib.hid (fun k h => (hSd k).2 h)
  clear hSd
  go_enter Try.func13, Try.ntmps13
  go_wp2_with fail
  refine (wtext_any S _ w.heap.size [] ⟨#[97, 98]⟩ (by decide) (wis_new S w _ rfl HS0.out) (fun k hk => HSA.out k (by simp at hk; omega)) (by decide)).mono ?_
  rintro e w1 ⟨rfl, hw, hg⟩
  rw [ex_text] at hw
  have HB1 := Lib.hid (below_new rfl hg)
  have HW1 := Lib.hid hw
  have hsz1 : w.heap.size + 1 ≤ w1.heap.size := by have := hg.size; simpa using this
  clear hg hw
  go_wp2_with fail
  refine (wnum_any S w1 w.heap.size [2, 97, 98] (-1) 1 (by decide) (by decide) (by decide) HW1.out (fun k hk => HSA.out k (by omega)) (by decide)).mono ?_
  rintro e w2 ⟨rfl, hw, hg⟩
  have HB2 := Lib.hid (below_row HB1.out (Nat.le_refl _) hg)
  have HW2 : Hid (WIs S w2 w.heap.size [2, 97, 98, 1]) := Lib.hid hw
  have hsz2 : w.heap.size + 1 ≤ w2.heap.size := Nat.le_trans hsz1 hg.size
  clear hg hw HB1 HW1 hsz1
  go_wp2_with fail
  refine (wfixed_any S w2 w.heap.size [2, 97, 98, 1] 258 (by decide) (by decide) HW2.out (fun k hk => HSA.out k (by omega)) (by decide)).mono ?_
  rintro e w3 ⟨rfl, hw, hg⟩
  have HB3 := Lib.hid (below_row HB2.out (Nat.le_refl _) hg)
  have HW3 : Hid (WIs S w3 w.heap.size zsEx) := Lib.hid hw
  clear hg hw HB2 HW2 hsz2
  go_wp2_with fail
  refine (wdone_any S w3 w.heap.size zsEx HW3.out (by decide)).mono ?_
  rintro e w4 ⟨he, hheap, hwf, hB⟩
  obtain rfl : e = .returned (.slice (some ⟨w3.heap.size, 0, none⟩) 8 8) := he
  have HI4 : Hid (IntsAt .u8 w4.heap.size w4 (some ⟨w3.heap.size, 0, none⟩) w3.heap.size 0 8 zsEx) := Lib.hid (whole_ints hheap hwf (by decide))
  have HB4 := Lib.hid (HB3.out.trans (hB.mono HB3.out.size))
  clear hheap hwf hB HB3 HW3
  generalize w3.heap.size = g at *
  go_wp2_with fail
  refine (c_open HI4.out).mono ?_
  rintro e w5 ⟨R, rfl, hR, hr, hB⟩
  have HB5 := Lib.hid (HB4.out.trans (hB.mono HB4.out.size))
  have HR5 := Lib.hid hr
  have HRG : Hid (w4.heap.size ≤ R ∧ w.heap.size ≤ R) := Lib.hid ⟨hR, Nat.le_trans HB4.out.size hR⟩
  have HK5 : Hid (Below w4.heap.size w4 w5) := hB
  clear hr hB hR
  go_wp2_with fail
  refine (c_rtext2 HR5.out).mono ?_
  rintro e w6 ⟨rfl, hr, hg⟩
  have HB6 := Lib.hid (below_row HB5.out HRG.out.2 hg)
  have HR6 := Lib.hid hr
  have HK6 := Lib.hid (below_row HK5.out HRG.out.1 hg)
  clear hr hg HB5 HR5 HK5
  go_wp2_with fail
  refine (c_rnum HR6.out).mono ?_
  rintro e w7 ⟨rfl, hr, hg⟩
  have HB7 := Lib.hid (below_row HB6.out HRG.out.2 hg)
  have HR7 := Lib.hid hr
  have HK7 := Lib.hid (below_row HK6.out HRG.out.1 hg)
  clear hr hg HB6 HR6 HK6
  go_wp2_with fail
  refine (c_rfixed HR7.out).mono ?_
  rintro e w8 ⟨rfl, hr, hg⟩
  have HB8 := Lib.hid (below_row HB7.out HRG.out.2 hg)
  have HR8 := Lib.hid hr
  have HK8 := Lib.hid (below_row HK7.out HRG.out.1 hg)
  clear hr hg HB7 HR7 HK7
  go_wp2_with fail
  refine (c_rend HR8.out).mono ?_
  rintro e w9 ⟨rfl, hr, hg⟩
  have HB9 := Lib.hid (below_row HB8.out HRG.out.2 hg)
  have HR9 := Lib.hid hr
  have HK9 := Lib.hid (below_row HK8.out HRG.out.1 hg)
  clear hr hg HB8 HR8 HK8
  go_wp2_with fail
  refine (rfault_any w9 R zsEx _ HR9.out).mono ?_
  rintro e w10 ⟨rfl, hB⟩
  have HB10 := Lib.hid (HB9.out.trans (hB.mono HB9.out.size))
  have HR10 := Lib.hid (HR9.out.stay hB)
  have HK10 := Lib.hid (HK9.out.trans (hB.mono HK9.out.size))
  clear hB HB9 HR9 HK9
  have HA : Hid (Below w10.heap.size w10 (w10.alloc (.cells #[.int .i64 0, .int .i64 0] 49))) := Lib.hid ((Below.refl _ _).alloc (Nat.le_refl _) _)
  go_wp2_with fail
  refine (c_open (((HI4.out.kept (HK10.out.trans (HA.out.mono HK10.out.size)) (Nat.le_refl _)).mono (Nat.le_trans HK10.out.size HA.out.size)))).mono ?_
  rintro e w11 ⟨R2, rfl, hR2, hr2, hB⟩
  have hF := heap_below (heap_new (.cells #[.int .i64 0, .int .i64 0] 49) (w := w10) rfl) hB (by simp)
  have hB11 : Below w10.heap.size w10 w11 := HA.out.trans (hB.mono HA.out.size)
  have HR11 := Lib.hid (HR10.out.stay hB11)
  have HR2 := Lib.hid hr2
  have hRR : w10.heap.size < R2 := by have := hR2; simp at this; omega
  have HF := Lib.hid hF
  have HB11 := Lib.hid hB11
  clear hr2 hB hR2 hF hB11
  go_wp2_with fail
  refine (c_rtext1 HR2.out).mono ?_
  rintro e w12 ⟨rfl, hr, hg⟩
  have HB12 : Hid (Below w10.heap.size w10 w12) := Lib.hid (below_row HB11.out (by omega) hg)
  have HR12 := Lib.hid (HR10.out.stay HB12.out)
  have HX12 := Lib.hid hr
  have hF12 := heap_kept HF.out hg (fun e => by cases e; omega)
  obtain ⟨f0, f1, -, -⟩ := two_cells hF12
  have HI12 := (HI4.out.kept (HK10.out.trans (HB12.out.mono HK10.out.size)) (Nat.le_refl _)).mono (Nat.le_trans HK10.out.size HB12.out.size)
  have hconv := ex_conv HI12
  have hlt12 : w10.heap.size < w12.heap.size := heap_lt hF12
  have HBW := Lib.hid (HB10.out.trans (HB12.out.mono HB10.out.size))
  clear hr hg HF HB11 HR11 HR2 HI12 hF12 HA HI4 HK10
  go_wp2_with fail
  refine (rat_any w12 R zsEx _ HR12.out).mono ?_
  rintro e w13 ⟨rfl, rfl⟩
  go_wp2_with fail
  refine (rfault_any w12 R2 zsEx _ HX12.out).mono ?_
  rintro e w13 ⟨rfl, hB⟩
  have HX13 := Lib.hid (HX12.out.stay hB)
  have HB13 := Lib.hid (HBW.out.trans (hB.mono HBW.out.size))
  clear hB hconv f0 f1
  go_wp2_with fail
  refine (rat_any w13 R2 zsEx _ HX13.out).mono ?_
  rintro e w14 ⟨rfl, rfl⟩
  go_wp2
  go_ret
  exact ⟨rfl, HB13.out⟩
end Go.Proofs.Ytlnocekiaffbpaa
