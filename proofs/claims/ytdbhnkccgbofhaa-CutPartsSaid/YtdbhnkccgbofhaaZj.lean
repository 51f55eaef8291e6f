/- Contract: layer 9's example. -/
import Derived.Test.YtdbhnkccgbofhaaZe
import Derived.Test.YtdbhnkccgbofhaaZg
import Derived.Test.YtdbhnkccgbofhaaZi
set_option linter.unusedVariables false
set_option linter.unusedSectionVars false
namespace Go.Proofs.Ytdbhnkccgbofhaa.L09
open Go.RowKit Rk

def aF : Nat → Nat → Int := joinF 2 noTab 0 1 7
/-- What lies in the example. -/
structure AlR (w : World) (g nb pb : Nat) (W : World) : Prop where
  one : IsG W g nb [1, 2] aF
  part : IntsAt .i64 W.heap.size W (some ⟨pb, 0, none⟩) pb 0 2 [0, 1]
  below : Below w.heap.size w W
theorem AlR.on {w W W' : World} {g nb pb : Nat} (h : AlR w g nb pb W) (hb : Below W.heap.size W W') : AlR w g nb pb W' := ⟨h.one.below hb, (h.part.kept hb (Nat.le_refl _)).mono hb.size, h.below.trans (hb.mono h.below.size)⟩
set_option maxRecDepth 100000 in
set_option maxHeartbeats 4000000 in
theorem alive_any (w : World) : Calls Try.prog 15 #[] w fun e w' => e = .returned (.bool true) ∧ Below w.heap.size w w' := by
  have HN1 := Lib.hid (new_any (cap := 2) (ints_two w 1 2 (by decide) (by decide) 2) (fun e => by cases e))
  go_enter Try.func15, Try.ntmps15
  go_wp2_with fail
  refine HN1.out.mono ?_
  rintro e w2 ⟨hB, hc⟩
  rcases hc with ⟨h1, _⟩ | ⟨_, g, nb, rfl, hG, hg, hn⟩
  · exact absurd (by decide) h1
  have HB2 := Lib.hid (((Below.refl _ w).alloc (Nat.le_refl _) (.cells #[.int .i64 1, .int .i64 2] 2)).trans (hB.mono (by simp)))
  simp only [World.size_alloc] at hg hn
  have z2 := HB2.out.size
  have HJ := Lib.hid (join_lit (v := 0) (F' := aF) hG rfl 0 1 7 (by decide) rfl)
  clear hB hG HN1
  go_wp2_with fail
  refine HJ.out.mono ?_
  rintro e w3 ⟨rfl, hG, hT⟩
  have hB3 : Below w.heap.size w w3 := below_turned HB2.out hT (fun i hi e => by omega) z2
  have hal := (Below.refl w3.heap.size w3).alloc (Nat.le_refl _) (.cells #[.int .i64 0, .int .i64 1] 3)
  have HA4 : Hid (AlR w g nb w3.heap.size (w3.alloc (.cells #[.int .i64 0, .int .i64 1] 3))) := Lib.hid ⟨hG.below hal, ints_two w3 0 1 (by decide) (by decide) 3, hB3.trans (hal.mono hB3.size)⟩
  clear hG hT hB3 hal HJ HB2
  have HW := Lib.hid (weights_any (cap := 2) HA4.out.one HA4.out.part 2)
  go_wp2_with fail
  refine HW.out.mono ?_
  rintro e w5 (⟨h0, _⟩ | ⟨_, wb, rfl, hW⟩)
  · exact absurd h0 (by decide)
  have HA5 := Lib.hid (HA4.out.on hW.below)
  have HW5 := Lib.hid hW
  have HC := Lib.hid (cut_any (cap := 2) HA5.out.one (by decide) HA5.out.part 2)
  rw [show cutF [(1 : Int), 2].length aF [0, 1] 2 = 7 by decide] at HC
  clear hW HW
  dsimp only [Int.toNat]
  go_wp2_with fail
  refine HC.out.mono ?_
  rintro e w6 ⟨rfl, hb⟩
  have HA6 := Lib.hid (HA5.out.on hb)
  have HW6 := Lib.hid (HW5.out.on hb)
  clear hb HC HW5
  have HR1 := Lib.hid (cright_any (cap := 2) HA6.out.one HA6.out.part (Nat.le_refl _) 2)
  rw [show rightP [(1 : Int), 2].length [0, 1] 2 = true by decide] at HR1
  go_wp2_with fail
  refine HR1.out.mono ?_
  rintro e w7 ⟨rfl, hb⟩
  have HA7 := Lib.hid (HA6.out.on hb)
  have HW7 := Lib.hid (HW6.out.on hb)
  clear hb HR1 HW6
  have HR2 := Lib.hid (cright_any (cap := 2) HA7.out.one HA7.out.part (Nat.le_refl _) 1)
  rw [show rightP [(1 : Int), 2].length [0, 1] 1 = false by decide] at HR2
  go_wp2_with fail
  refine HR2.out.mono ?_
  rintro e w8 ⟨rfl, hb⟩
  have HA8 := Lib.hid (HA7.out.on hb)
  have HW8 := Lib.hid (HW7.out.on hb)
  have c1 : w8.cell? ⟨wb, 1, none⟩ = some (.int .i64 2) := heap_cell HW8.out.row (i := 1) (by rw [rowC_at _ (by decide)]; exact congrArg (fun x => some (Value.int .i64 x)) (by decide))
  clear hb HR2 HW7
  have HG := Lib.hid (gain_any (cap := 2) HA8.out.one HA8.out.part 2 0 1)
  rw [show gainF [(1 : Int), 2].length aF [0, 1] 2 0 1 = 7 by decide] at HG
  go_wp2_with fail
  refine HG.out.mono ?_
  rintro e w9 ⟨rfl, hb⟩
  have HA9 := Lib.hid (HA8.out.on hb)
  clear hb HG c1 HW8
  have HBo := Lib.hid (bound_any HA9.out.one 2)
  rw [show boundF [(1 : Int), 2] 2 = 4 by decide] at HBo
  have HF := Lib.hid (fits_any (cap := 2) HA9.out.one HA9.out.part 2)
  rw [show fitsF [(1 : Int), 2] [0, 1] 2 = true by decide] at HF
  go_wp2_with (go_at_call 20; refine HBo.out.mono ?_; rintro e w' ⟨rfl, rfl⟩)
  refine HF.out.mono ?_
  rintro e w10 ⟨rfl, hb⟩
  have HA10 := Lib.hid (HA9.out.on hb)
  clear hb HF HBo
  have HE := Lib.hid (lempty_any (cap := 2) HA10.out.part (by decide) 4 (by decide) 9 (by decide))
  go_wp2_with fail
  refine HE.out.mono ?_
  rintro e w11 ⟨v, rfl, hg, hb⟩
  obtain ⟨a5, cap5, rfl⟩ := hg.slice
  have HB := Lib.hid (HA10.out.below.trans (hb.mono HA10.out.below.size))
  rw [show ((emptyL (fun x => decide (x ∈ [(0 : Int), 1])) (4 : Int).toNat).take (9 : Int).toNat).length = 2 by decide]
  clear hg hb HE
  go_wp2
  go_ret
  exact ⟨rfl, HB.out⟩
end Go.Proofs.Ytdbhnkccgbofhaa.L09
