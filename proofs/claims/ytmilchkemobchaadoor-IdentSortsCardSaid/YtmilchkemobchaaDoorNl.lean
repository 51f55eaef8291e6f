/- Contract: the reference's Distinct. -/
import Derived.Test.YtmilchkemobchaaDoorNk
set_option linter.unusedVariables false
set_option linter.unusedSectionVars false
set_option linter.unusedSimpArgs false
namespace Go.Proofs.YtmilchkemobchaaDoor
open Go.RowKit Go.Shelf Ss

/-- A row of texts that grows. -/
structure RdR (w : World) (v : Value) (xs : List ByteArray) (b : Option Nat) (W : World) : Prop where
  g : GB W w.heap.size 9 1 v xs.length (svals xs) b
  below : Below w.heap.size w W
  some : ∃ ad n c, v = .slice (some ad) n c
section
variable {w : World} {W W' : World} {v : Value} {xs : List ByteArray} {b : Option Nat}
theorem RdR.alloc (h : RdR w v xs b W) (o : Obj) : RdR w v xs b (W.alloc o) := ⟨h.g.alloc o, h.below.alloc h.below.size o, h.some⟩
theorem RdR.on (h : RdR w v xs b W) (hb : Below W.heap.size W W') : RdR w v xs b W' := ⟨h.g.below hb, h.below.trans (hb.mono h.below.size), h.some⟩
theorem RdR.app {x : ByteArray} {g c : Nat} {row : Option Nat} (h : RdR w v xs b W) (hG : GB W' w.heap.size 9 1 (.slice (.some ⟨g, 0, none⟩) (xs.length + 1) c) (xs.length + 1) (svals xs ++ [.string x]) (.some g)) (hg : W.grownBy W' row) (hr : row = none ∨ row = b) :
    RdR w (.slice (.some ⟨g, 0, none⟩) (xs.length + 1) c) (xs ++ [x]) (.some g) W' := by
  refine ⟨by rw [svals_snoc, List.length_append]; exact hG, h.below.grown hg h.below.size (fun r e => ?_), _, _, _, rfl⟩
  rcases hr with e2 | e2
  · rw [e] at e2; cases e2
  · exact (h.g.lt r (by rw [← e2, e])).1
end
def RowPostS (w : World) (T : List ByteArray) (e : Ending) (w' : World) : Prop :=
  ∃ v, e = .returned v ∧ Gath w' w.heap.size 9 1 v T.length (svals T) ∧ Below w.heap.size w w' ∧ ∃ ad n c, v = .slice (some ad) n c
set_option maxRecDepth 100000 in
set_option maxHeartbeats 4000000 in
theorem xdistinct_any {w : World} {a : Option Addr} {b off len cap : Nat} {ss : List ByteArray} (hm : StrsAt w.heap.size w a b off len ss) (hlen : len ≤ 60000) :
    Calls Tryd.prog 10 #[.slice a len cap] w (RowPostS w (distD ss)) := by
  obtain ⟨i0, hi, hz0, hz1, hz2⟩ := info_parts Gt.Tryd.infoStr
  have HI := Lib.hid hi
  have HZ0 := Lib.hid hz0
  have HZ1 := Lib.hid hz1
  have HZ2 := Lib.hid hz2
  clear hi hz0 hz1 hz2
  have HM := Lib.hid hm
  have hl := hm.length
  have HE : Hid (distD ss = distL ss len) := Lib.hid (by unfold distD; rw [hl])
  have HFit := Lib.hid hm.fits
  have HL := Lib.hid hl
  clear hm hl
  have HR0 : Hid (RdR w (.slice (some ⟨w.heap.size, 0, none⟩) 0 0) [] none (w.alloc (.cells #[] 9))) := Lib.hid ⟨gb_nil _ _ _ _ _, (Below.refl _ w).alloc (Nat.le_refl _) _, _, _, _, rfl⟩
  go_enter Tryd.func10, Tryd.ntmps10
  go_wp2
  go_loopw [3, 4] (fun tv i wr => ∃ (j : Nat) (b1 : Option Nat), j ≤ len ∧ i = .int .i64 j ∧ Hid (RdR w tv (distL ss j) b1 wr)) (fun _ i _ => len - (intOf i).toNat)
  case atStart => exact ⟨0, none, Nat.zero_le _, rfl, HR0⟩
  case round =>
    clear HR0
    obtain ⟨j, b1, hj, rfl, hT⟩ := hrel
    rename_i tv wr
    obtain ⟨xs, hxs⟩ : ∃ xs, distL ss j = xs := ⟨_, rfl⟩
    have hxl : xs.length ≤ j := by rw [← hxs]; exact distL_length ss j
    have hfx : ∀ s ∈ xs, s.size ≤ maxLen := fun s hs => by
      rw [← hxs, mem_distL] at hs
      obtain ⟨i, hi, rfl⟩ := hs
      exact HFit.out _ (mem_atS.2 ⟨i, by rw [HL.out]; omega, rfl⟩)
    rw [hxs] at hT
    obtain ⟨a6, cap6, b6, rfl, _, _, _, hst⟩ := Gath.strs hT.out.g.gath rfl hfx
    by_cases hlt : j < len
    · have hI := HM.out.kept hT.out.below (Nat.le_refl _)
      have c1 := strs_at hI j hlt
      obtain rfl : a = some ⟨b, off, none⟩ := hI.addr.resolve_left (by omega)
      have HS : Hid (distL ss (j + 1) = xs ++ if findI xs (atS ss j) < 0 then [atS ss j] else []) := Lib.hid (by rw [← hxs]; rfl)
      have hjn : (j : Int) < (len : Int) := by omega
      have hbw : b < w.heap.size := HM.out.below.resolve_left (by omega)
      generalize atS ss j = x at *
      have HC := Lib.hid (xfind_any (cap := cap6) hst x)
      have HXS := Lib.hid hxs
      clear hxs hI hst hfx
      by_cases hd : findI xs x < 0
      · have hdt : decide (findI xs x < 0) = true := by simpa using hd
        have HE2 : Hid (distL ss (j + 1) = xs ++ [x]) := Lib.hid (by rw [HS.out, if_pos hd])
        clear HS hd
        generalize findI xs x = fi at *
        go_wp2_with (first
          | (go_at_call 17; refine HC.out.mono ?_; clear HC; rintro e w' ⟨rfl, rfl⟩)
          | (at_builtin; refine wpList_append_GB _ rfl _ _ 22 rfl w.heap.size 9 i0 (.string ByteArray.empty) 1 16 Tryd.underlying22 HI.out HZ0.out HZ1.out HZ2.out rfl (by decide) _ xs.length _ _ rfl (hT.out.g.alloc _) ⟨wr.heap.size, 0, none⟩ 1 1 [.string x] rfl rfl (cell_one _ _ _) (by intro u hu; simp at hu; subst hu; rfl) (by decide) (by unfold maxLen; omega) (by omega) (by have := hT.out.below.size; simp; omega) ?_; intro g5 p5 w5 r5 hG5 hg5 hr5 hw5; have HT5 := Lib.hid ((hT.out.alloc (.cells #[.string x] 9)).app hG5 hg5 hr5); clear hG5 hg5 hr5 hw5 c1 hT))
        go_roundw
        case rel => exact ⟨j + 1, some g5, by omega, by go_num, by rw [HE2.out]; exact HT5⟩
        case measure => simp [intOf]; omega
      · have hdt : decide (findI xs x < 0) = false := by simpa using hd
        have HE2 : Hid (distL ss (j + 1) = xs) := Lib.hid (by rw [HS.out, if_neg hd, List.append_nil])
        clear HS hd
        generalize findI xs x = fi at *
        go_wp2_with (go_at_call 17; refine HC.out.mono ?_; clear HC; rintro e w' ⟨rfl, rfl⟩)
        go_roundw
        case rel => exact ⟨j + 1, b1, by omega, by go_num, by rw [HE2.out]; exact hT⟩
        case measure => simp [intOf]; omega
    · obtain rfl : j = len := by omega
      go_wp2
      go_ret
      rw [HE.out, hxs]
      exact ⟨_, rfl, hT.out.g.gath, hT.out.below, hT.out.some⟩
end Go.Proofs.YtmilchkemobchaaDoor
