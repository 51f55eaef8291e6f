/- Contract: for each thing the one that it goes with. -/
import Derived.Test.YtbjgfkiaoffhlaaYc
import Derived.Test.YtbjgfkiaoffhlaaYq
import Derived.Test.YtbjgfkiaoffhlaaBo
import Derived.Test.YtbjgfkiaoffhlaaZpa
set_option linter.unusedVariables false
set_option linter.unusedSectionVars false
namespace Go.Proofs.Ytbjgfkiaoffhlaa
open Go.RowKit Go.Shelf Rk

/-- A row of a call's own, of numbers. -/
structure MtR (w : World) (mb n : Nat) (f : Nat → Int) (W : World) : Prop where
  row : W.heap[mb]? = some (.cells (rowC n f) 3 (0, 0))
  new : w.heap.size ≤ mb
  below : Below w.heap.size w W
theorem MtR.on {w W W' : World} {mb n : Nat} {f : Nat → Int} (h : MtR w mb n f W) (hb : Below W.heap.size W W') : MtR w mb n f W' := ⟨heap_below h.row hb (heap_lt h.row), h.new, h.below.trans (hb.mono h.below.size)⟩
theorem MtR.set {w W : World} {mb n i : Nat} {f : Nat → Int} (h : MtR w mb n f W) (hi : i < n) (v : Int) : MtR w mb n (upd f i v) (W.setCell ⟨mb, i, none⟩ (.int .i64 v)) :=
  ⟨by rw [← rowC_set f hi v]; exact heap_set h.row i _, h.new, h.below.setCell (p := ⟨mb, i, none⟩) h.new _⟩
theorem MtR.congr {w W : World} {mb n : Nat} {f f' : Nat → Int} (h : MtR w mb n f W) (he : ∀ i, i < n → f i = f' i) : MtR w mb n f' W := by
  have e : rowC n f = rowC n f' := by
    unfold rowC
    congr 1
    exact List.map_congr_left (fun i hi => by rw [he i (List.mem_range.1 hi)])
  exact ⟨by rw [← e]; exact h.row, h.new, h.below⟩
def idTo (j : Nat) : Nat → Int := fun i => if i < j then (i : Int) else 0
theorem idTo_succ (j : Nat) : idTo (j + 1) = upd (idTo j) j (j : Int) := by
  funext c
  unfold idTo upd
  by_cases e : c = j
  · rw [if_pos e, if_pos (by omega), e]
  · rw [if_neg e]
    by_cases h : c < j
    · rw [if_pos (show c < j + 1 by omega)]; exact (if_pos h).symm
    · rw [if_neg (show ¬ c < j + 1 by omega)]; exact (if_neg h).symm
/-- A small number fits. -/
theorem wf_nat (m : Nat) (h : m ≤ 1000000000) : (Lit.int .i64 (m : Int)).wf = true := by
  have h1 : IntKind.i64.min = -9223372036854775808 := by decide
  have h2 : IntKind.i64.max = 9223372036854775807 := by decide
  show (decide (IntKind.i64.min ≤ (m : Int)) && decide ((m : Int) ≤ IntKind.i64.max)) = true
  rw [h1, h2, Bool.and_eq_true, decide_eq_true_eq, decide_eq_true_eq]
  omega
set_option maxRecDepth 100000 in
set_option maxHeartbeats 4000000 in
theorem heavy_any {w : World} {g nb : Nat} {ws : List Int} {F : Nat → Nat → Int} (h : IsG w g nb ws F) :
    Calls Try.prog 14 #[.pointer (some ⟨g, 0, none⟩)] w fun e w' => ∃ pb, e = .returned (.slice (some ⟨pb, 0, none⟩) ws.length ws.length) ∧ IntsAt .i64 w'.heap.size w' (some ⟨pb, 0, none⟩) pb 0 ws.length (heavyF ws.length F) ∧ w.heap.size ≤ pb ∧ Below w.heap.size w w' := by
  have HG : Hid (∀ W, Below w.heap.size w W → IsG W g nb ws F) := Lib.hid (fun W hW => h.below hW)
  have HTab := Lib.hid h.tab
  have hsm := h.small
  have HLe := Lib.hid (glen_any h)
  obtain ⟨n, hn⟩ : ∃ n, ws.length = n := ⟨_, rfl⟩
  have HN := Lib.hid hn
  rw [hn] at hsm HLe HTab ⊢
  have hmk := madeInts w n hsm
  have hR0 : MtR w w.heap.size n (idTo 0) (w.alloc (.cells (rowC n (fun _ => 0)) 3)) := ⟨World.alloc_heap_new w _, Nat.le_refl _, (Below.refl _ w).alloc (Nat.le_refl _) _⟩
  have HR0 := Lib.hid hR0
  clear h hn hR0
  go_enter Try.func14, Try.ntmps14
  go_wp2_with fail
  refine HLe.out.mono ?_
  rintro e w1 ⟨rfl, rfl⟩
  go_wp2
  go_loopw [14] (fun i wr => ∃ j : Nat, i = .int .i64 j ∧ j ≤ n ∧ Hid (MtR w w.heap.size n (idTo j) wr)) (fun i _ => n - (intOf i).toNat)
  case atStart => exact ⟨0, rfl, Nat.zero_le _, HR0⟩
  case round =>
    clear HR0 hmk
    obtain ⟨j, rfl, hj, HW⟩ := hrel
    by_cases hlt : j < n
    · have c1 := heap_cell HW.out.row (rowC_at (idTo j) hlt)
      have f1 := heap_frozen HW.out.row j
      have hji : (j : Int) < (n : Int) := by omega
      go_wp2
      go_roundw
      case rel => exact ⟨j + 1, by go_num, by omega, Lib.hid (by rw [idTo_succ]; exact HW.out.set hlt _)⟩
      case measure => simp [intOf]; omega
    · obtain rfl : j = n := by omega
      go_wp2
      rename World => w2
      have HW1 : Hid (MtR w w.heap.size j (hyAt j F 0) w2) := Lib.hid (HW.out.congr (fun i hi => by unfold idTo; rw [if_pos hi]; rfl))
      clear HW
      go_loopw [24] (fun i wr => ∃ k : Nat, i = .int .i64 k ∧ k ≤ j ∧ Hid (MtR w w.heap.size j (hyAt j F k) wr)) (fun i _ => j - (intOf i).toNat)
      case atStart => exact ⟨0, rfl, Nat.zero_le _, HW1⟩
      case round =>
        clear HW1
        obtain ⟨k, rfl, hk, HW⟩ := hrel
        have hok := hy_ok HTab.out k hk
        have hwf : ∀ i, i < j → (Lit.int .i64 (hyAt j F k i)).wf = true := fun i hi => by
          obtain ⟨b, h1, h2, _⟩ := hok.inv i hi
          rw [h1]
          exact wf_nat b (by omega)
        have hI := ints_rowC HW.out.row (by omega) hwf
        by_cases hlt : k < j
        · have c1 := heap_cell HW.out.row (rowC_at (hyAt j F k) hlt)
          have f1 := heap_frozen HW.out.row k
          have hki : (k : Int) < (j : Int) := by omega
          by_cases hs : hyAt j F k k = (k : Int)
          · obtain ⟨b, hb, hbn, hc⟩ := hvF_facts HTab.out (mf := hyAt j F k) hlt
            have HHv := heaviest_any (cap := j) (HG.out _ HW.out.below) (ms := matesL j (hyAt j F k)) (by rw [HN.out]; exact hI) (i := k) (by rw [HN.out]; exact hlt)
            rw [HN.out, hb] at HHv
            have HHv := Lib.hid HHv
            have HS : Hid (hyAt j F (k + 1) = upd (upd (hyAt j F k) k (b : Int)) b (k : Int)) := Lib.hid (by rw [hy_step hs, hb, Int.toNat_natCast])
            have hd : (hyAt j F k k == (k : Int)) = true := by simpa using hs
            rw [hs] at c1
            have hbi : (b : Int) < (j : Int) := by omega
            generalize hyAt j F k = mf at *
            clear hok hwf hI hb hc hs hd
            go_wp2_with fail
            refine HHv.out.mono ?_
            rintro e w3 ⟨rfl, hb3⟩
            have HW3 := Lib.hid (HW.out.on hb3)
            clear hb3 c1 f1 HHv
            have c1 := heap_cell HW3.out.row (rowC_at mf hlt)
            have f1 := heap_frozen HW3.out.row k
            have HW4 := Lib.hid (HW3.out.set hlt (b : Int))
            have c2 := heap_cell HW4.out.row (rowC_at (upd mf k (b : Int)) hbn)
            have f2 := heap_frozen HW4.out.row b
            go_wp2
            go_roundw
            case rel => exact ⟨k + 1, by go_num, by omega, Lib.hid (by rw [HS.out]; exact HW4.out.set hbn _)⟩
            case measure => simp [intOf]; omega
          · have HS : Hid (hyAt j F (k + 1) = hyAt j F k) := Lib.hid (hy_stay hs)
            have hd : (hyAt j F k k == (k : Int)) = false := by simpa using hs
            generalize hyAt j F k = mf at *
            clear hok hwf hI hs
            go_wp2
            go_roundw
            case rel => exact ⟨k + 1, by go_num, by omega, by rw [HS.out]; exact HW⟩
            case measure => simp [intOf]; omega
        · obtain rfl : k = j := by omega
          have HI := Lib.hid hI
          clear hok hwf hI
          go_wp2
          go_ret
          exact ⟨_, rfl, HI.out, HW.out.new, HW.out.below⟩
end Go.Proofs.Ytbjgfkiaoffhlaa
