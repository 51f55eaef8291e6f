/- Contracts of a reader's calls: counts, numbers, texts, bytes, the end. -/
import Derived.Test.YtnkhpmpoemodiaaRc
set_option linter.unusedVariables false
namespace Go.Proofs.Ytnkhpmpoemodiaa
open Go.RowKit

theorem RIs.bytes {w : World} {R : Nat} {zs : List Int} {s : RS} (h : RIs w R zs s) : (∀ x ∈ zs, 0 ≤ x ∧ x ≤ 255) ∧ s.pos ≤ zs.length ∧ zs.length ≤ 1000000 := by
  obtain ⟨a, cap, b, off, h⟩ := h
  exact ⟨fun x hx => bounds_u8 (h.data.fits x hx), h.le, h.few⟩
theorem rfail_pos (s : RS) (c : Nat) : (rfail s c).pos = s.pos := by unfold rfail; split <;> rfl
theorem rnum_bd {zs : List Int} {s : RS} (hb : ∀ x ∈ zs, 0 ≤ x ∧ x ≤ 255) (hp : s.pos ≤ zs.length) : (rnum zs s).1.pos = s.pos ∧ (rnum zs s).2.1 ≤ 18446744073709551615 ∧ s.pos + (rnum zs s).2.2 ≤ zs.length := by
  unfold rnum
  split
  · split
    · have := getF_size (l := zs.drop s.pos) (fun x hx => hb x (List.mem_of_mem_drop hx)) ‹_›
      rw [List.length_drop] at this
      exact ⟨rfl, this.2.2.2, by simp only; omega⟩
    · exact ⟨rfail_pos _ _, by simp, by simpa using hp⟩
  · exact ⟨rfl, by simp, by simpa using hp⟩
def rbnd (zs : List Int) (most : Int) (s : RS) : RS × Nat × Nat :=
  if most < 0 ∨ most < ((rnum zs s).2.1 : Int) then (rfail (rnum zs s).1 2, 0, 0) else rnum zs s
def BndPost (w : World) (R : Nat) (zs : List Int) (r : RS × Nat × Nat) (e : Ending) (w' : World) : Prop :=
  e = .returned (.tuple #[.int .i64 r.2.1, .int .i64 r.2.2]) ∧ RIs w' R zs r.1 ∧ w.grownBy w' (some R)
theorem rbnd_bd {zs : List Int} {s : RS} (most : Int) (hb : ∀ x ∈ zs, 0 ≤ x ∧ x ≤ 255) (hp : s.pos ≤ zs.length) (hm : most ≤ 9223372036854775807) :
    (rbnd zs most s).1.pos = s.pos ∧ (rbnd zs most s).2.1 ≤ 9223372036854775807 ∧ s.pos + (rbnd zs most s).2.2 ≤ zs.length := by
  have h := rnum_bd hb hp
  unfold rbnd
  split
  · exact ⟨by rw [rfail_pos]; exact h.1, by simp, by simpa using hp⟩
  · exact ⟨h.1, by omega, h.2.2⟩
theorem rbnd_any (w : World) (R : Nat) (zs : List Int) (s : RS) (most : Int) (hm0 : -9223372036854775808 ≤ most) (hm : most ≤ 9223372036854775807) (h : RIs w R zs s) :
    Calls Try.prog 102 #[.pointer (some ⟨R, 0, none⟩), .int .i64 most] w (BndPost w R zs (rbnd zs most s)) := by
  have hbd := rnum_bd h.bytes.1 h.bytes.2.1
  have HN := Lib.hid (rnum_any w R zs s h)
  have HFA : Hid (∀ W (r : RS), RIs W R zs r → Calls Try.prog 103 #[.pointer (some ⟨R, 0, none⟩), .int .i64 2] W (FailPost W R zs (rfail r 2))) := Lib.hid (fun W r hr => rfail_any W R zs r 2 hr)
  obtain ⟨s1, n, sz, hr⟩ : ∃ s1 n sz, rnum zs s = (s1, n, sz) := ⟨_, _, _, rfl⟩
  have HB : Hid (rbnd zs most s = if most < 0 ∨ most < (n : Int) then (rfail s1 2, 0, 0) else (s1, n, sz)) := Lib.hid (by unfold rbnd; rw [hr])
  rw [hr] at HN hbd
  simp only at hbd
  obtain ⟨-, hn, -⟩ := hbd
  clear hr h
  by_cases hneg : most < 0
  · have HR := HB.out
    rw [if_pos (.inl hneg)] at HR
    have HR2 := Lib.hid HR
    clear HR HB
    go_enter Try.func102, Try.ntmps102
    go_wp2_with fail
    refine HN.out.mono ?_
    rintro e w1 ⟨rfl, hr1, hg1⟩
    have HG1 := Lib.hid hg1
    have HF := Lib.hid (HFA.out _ _ hr1)
    clear hg1 hr1
    go_wp2_with fail
    refine HF.out.mono ?_
    rintro e w2 ⟨rfl, hr2, hg2⟩
    go_wp2
    go_ret2
    rw [HR2.out]
    exact ⟨rfl, hr2, HG1.out.trans hg2⟩
  · obtain ⟨m, rfl⟩ : ∃ m : Nat, most = (m : Int) := ⟨most.toNat, by omega⟩
    by_cases hlt : m < n
    · have HR := HB.out
      rw [if_pos (.inr (by omega))] at HR
      have HR2 := Lib.hid HR
      clear HR HB
      go_enter Try.func102, Try.ntmps102
      go_wp2_with fail
      refine HN.out.mono ?_
      rintro e w1 ⟨rfl, hr1, hg1⟩
      have HG1 := Lib.hid hg1
      have HF := Lib.hid (HFA.out _ _ hr1)
      clear hg1 hr1
      go_wp2_with fail
      refine HF.out.mono ?_
      rintro e w2 ⟨rfl, hr2, hg2⟩
      go_wp2
      go_ret2
      rw [HR2.out]
      exact ⟨rfl, hr2, HG1.out.trans hg2⟩
    · have HR := HB.out
      rw [if_neg (by omega)] at HR
      have HR2 := Lib.hid HR
      clear HR HB
      go_enter Try.func102, Try.ntmps102
      go_wp2_with fail
      refine HN.out.mono ?_
      rintro e w1 ⟨rfl, hr1, hg1⟩
      have HG1 := Lib.hid hg1
      have HR1 := Lib.hid hr1
      clear hg1 hr1
      go_wp2
      go_ret2
      rw [HR2.out]
      exact ⟨rfl, HR1.out, HG1.out⟩
end Go.Proofs.Ytnkhpmpoemodiaa
