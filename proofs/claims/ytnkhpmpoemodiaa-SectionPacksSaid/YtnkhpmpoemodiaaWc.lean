/- Contracts: four bytes of a number behind; all that was written. -/
import Derived.Test.YtnkhpmpoemodiaaWb
import Derived.Deep.RegionLaw
set_option linter.unusedVariables false
namespace Go.Proofs.Ytnkhpmpoemodiaa
open Go.RowKit

/-- Four bytes, the lowest one first. -/
def fixF (n : Int) : List Int := [n % 256, n / 256 % 256, n / 65536 % 256, n / 16777216 % 256]
theorem fixF_length (n : Int) : (fixF n).length = 4 := rfl
theorem fixF_wf (n : Int) : ∀ x ∈ fixF n, (Lit.int .u8 x).wf = true := by
  intro x hx
  unfold fixF at hx
  apply WalkArith.wf_u8
  simp at hx
  omega
theorem fix_step {k : Nat} {cur : Array Value} {n v : Int} (hs : cur.size = 4) (hval : ∀ j, j < k → cur[j]? = some (.int .u8 ((fixF n).getD j 0))) (hk : k < 4) (hv : (fixF n).getD k 0 = v) :
    (cur.setIfInBounds k (.int .u8 v)).size = 4 ∧ ∀ j, j < k + 1 → (cur.setIfInBounds k (.int .u8 v))[j]? = some (.int .u8 ((fixF n).getD j 0)) := by
  refine ⟨by simpa using hs, fun j hj => ?_⟩
  rw [Array.getElem?_setIfInBounds]
  by_cases h : k = j
  · subst h
    rw [if_pos rfl, if_pos (by omega), hv]
  · rw [if_neg h]; exact hval j (by omega)
theorem fix_ints {w : World} {g : Nat} {cur : Array Value} {n : Int} (hh : w.heap[g]? = some (.cells cur 5 (0, 0))) (hval : ∀ j, j < 4 → cur[j]? = some (.int .u8 ((fixF n).getD j 0))) :
    IntsAt .u8 w.heap.size w (some ⟨g, 0, none⟩) g 0 (fixF n).length (fixF n) :=
  ⟨.inr rfl, rfl, by rw [fixF_length]; decide, .inr (heap_lt hh), fun i hi => heap_cell hh (by rw [Nat.zero_add]; exact hval i hi), fixF_wf n⟩
theorem wfixed_any (S : Nat → Prop) (w : World) (W : Nat) (zs : List Int) (n : Int) (hn0 : 0 ≤ n) (hn : n ≤ 4294967295) (h : WIs S w W zs) (hS : ∀ k, w.heap.size ≤ k → S k) (hsz : zs.length ≤ 900000) :
    Calls Try.prog 59 #[.pointer (some ⟨W, 0, none⟩), .int .u32 n] w (AddPost S w W (zs ++ fixF n)) := by
  have HH := Lib.hid h
  have HS := Lib.hid hS
  obtain ⟨i0, hi, hz0, hz1, hz2⟩ := info_parts Try.infoU8
  have HI := Lib.hid hi
  have HZ0 := Lib.hid hz0
  have HZ1 := Lib.hid hz1
  have HZ2 := Lib.hid hz2
  clear hi hz0 hz1 hz2 h hS
  go_enter Try.func59, Try.ntmps59
  go_wp2_with (at_make; refine wpList_make_full _ rfl _ _ 45 rfl w.heap.size 5 i0 (.int .u8 0) 1 Try.underlying45 HI.out HZ0.out HZ1.out .i64 .i64 _ _ 4 rfl rfl rfl rfl (by rw [HZ2.out]; decide) (by decide) (Nat.le_refl _) ?_; intro w1 hown hgrow)
  obtain ⟨-, hown⟩ := hown
  rcases hown with ⟨hbad, _⟩ | ⟨g, cap, cur, hv, hg1, hg, _, _, hcs, _⟩
  · cases hbad
  cases hv
  have hB0 : Below w.heap.size w w1 := below_grown hgrow
  have HG := Lib.hid hg
  have HCS := Lib.hid hcs
  clear hg hcs hgrow hg1
  go_loopw [7] (fun i wr => ∃ (k : Nat) (cur : Array Value), k ≤ 4 ∧ i = .int .i64 k ∧ Hid (wr.heap[w.heap.size]? = some (.cells cur 5 (0, 0))) ∧ Hid (cur.size = 4) ∧ Hid (∀ j, j < k → cur[j]? = some (.int .u8 ((fixF n).getD j 0))) ∧ Below w.heap.size w wr) (fun i _ => 4 - (intOf i).toNat)
  case atStart => exact ⟨0, cur, by omega, rfl, HG, Lib.hid HCS.out, Lib.hid (fun j hj => absurd hj (Nat.not_lt_zero _)), hB0⟩
  case round =>
    obtain ⟨k, cur, hk, rfl, hh, hsz4, hval, hB⟩ := hrel
    have h5 : k = 0 ∨ k = 1 ∨ k = 2 ∨ k = 3 ∨ k = 4 := by omega
    clear hk
    have hlt := heap_lt hh.out
    have hfz : ∀ i, wr.frozen? ⟨w.heap.size, i, none⟩ = false := heap_frozen hh.out
    have hcl : ∀ i, i < 4 → ∃ x, wr.cell? ⟨w.heap.size, i, none⟩ = some x := fun i hi => ⟨cur[i]'(by rw [hsz4.out]; exact hi), heap_cell hh.out (Array.getElem?_eq_getElem _)⟩
    have HCL := Lib.hid hcl
    have HFZ := Lib.hid hfz
    clear hcl hfz
    rcases h5 with rfl | rfl | rfl | rfl | rfl
    · obtain ⟨x, hx⟩ := HCL.out 0 (by decide)
      have hf := HFZ.out 0
      go_wp2
      go_roundw
      case rel =>
        obtain ⟨q1, q2⟩ := fix_step (v := n % 256) hsz4.out hval.out (by decide) rfl
        exact ⟨1, _, by omega, by go_num, heap_set hh.out 0 _, q1, q2, hB.setCell (Nat.le_refl _) _⟩
      case measure => simp [intOf]
    · obtain ⟨x, hx⟩ := HCL.out 1 (by decide)
      have hf := HFZ.out 1
      go_wp2
      go_roundw
      case rel =>
        obtain ⟨q1, q2⟩ := fix_step (v := n / 256 % 256) hsz4.out hval.out (by decide) rfl
        exact ⟨2, _, by omega, by go_num, heap_set hh.out 1 _, q1, q2, hB.setCell (Nat.le_refl _) _⟩
      case measure => simp [intOf]
    · obtain ⟨x, hx⟩ := HCL.out 2 (by decide)
      have hf := HFZ.out 2
      go_wp2
      go_roundw
      case rel =>
        obtain ⟨q1, q2⟩ := fix_step (v := n / 65536 % 256) hsz4.out hval.out (by decide) rfl
        exact ⟨3, _, by omega, by go_num, heap_set hh.out 2 _, q1, q2, hB.setCell (Nat.le_refl _) _⟩
      case measure => simp [intOf]
    · obtain ⟨x, hx⟩ := HCL.out 3 (by decide)
      have hf := HFZ.out 3
      go_wp2
      go_roundw
      case rel =>
        obtain ⟨q1, q2⟩ := fix_step (v := n / 16777216) hsz4.out hval.out (by decide) (show n / 16777216 % 256 = _ by omega)
        exact ⟨4, _, by omega, by go_num, heap_set hh.out 3 _, q1, q2, hB.setCell (Nat.le_refl _) _⟩
      case measure => simp [intOf]
    · have HA := Lib.hid (add_new HH.out HS.out (xs := fixF n) (by rw [fixF_length]; omega) hB (some ⟨w.heap.size, 0, none⟩) 4 w.heap.size 0 (fix_ints hh.out hval.out) (Nat.le_refl _) (.inr (Nat.le_refl _)))
      rw [fixF_length] at HA
      clear hB hlt
      go_wp2_with fail
      refine HA.out.mono ?_
      rintro e w3 ⟨rfl, hw, hgr⟩
      go_wp2
      go_end0
      exact ⟨rfl, hw, hgr⟩
end Go.Proofs.Ytnkhpmpoemodiaa
