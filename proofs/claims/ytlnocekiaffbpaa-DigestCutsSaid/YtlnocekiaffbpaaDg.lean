/- Contract: the example that each statement of layer 4 begins with returns true, and makes memory alone. -/
import Derived.Test.YtlnocekiaffbpaaDf
import Derived.Deep.QuietTactic
import Derived.BigQuiet
import Derived.Lib.SlBytesConst
set_option linter.unusedVariables false
namespace Go.Proofs.Ytlnocekiaffbpaa
open Go.RowKit

theorem unseal_seal (zs : List Int) (hw : ∀ x ∈ zs, (Lit.int .u8 x).wf = true) : unsealE (sealI zs) = 0 ∧ unsealB (sealI zs) = zs := by
  have hl := sealI_length zs
  have ht : (sealI zs).take ((sealI zs).length - 4) = zs := by
    rw [hl, Nat.add_sub_cancel]
    unfold sealI
    exact List.take_left
  have hws : ∀ x ∈ sealI zs, (Lit.int .u8 x).wf = true := fun x hx => by
    unfold sealI at hx
    rcases List.mem_append.1 hx with h | h
    · exact hw x h
    · exact fixF_wf _ x h
  have h0 : unsealE (sealI zs) = 0 := (seal_iff (sealI zs) hws (by omega)).1 (by rw [ht])
  exact ⟨h0, by unfold unsealB; rw [if_pos h0, ht]⟩
def zs9 : List Int := [49, 50, 51, 52, 53, 54, 55, 56, 57]
theorem sum9 : moreF usual 0 zs9 = 3421780262 := by decide +kernel
theorem sum45 : moreF usual (moreF usual 0 [49, 50, 51, 52]) [53, 54, 55, 56, 57] = 3421780262 := by decide +kernel
theorem bad9 : unsealE zs9 = 44 := by decide +kernel
theorem bad3 : unsealE [49, 50, 51] = 20 := by decide +kernel
theorem tab0 : stepsN usual 8 0 = 0 := by decide +kernel
theorem tab128 : stepsN usual 8 128 = 3988292384 := by decide +kernel
theorem zs9_wf : ∀ x ∈ zs9, (Lit.int .u8 x).wf = true := by decide
theorem TabAt.drewN {w : World} {T p : Nat} (h : TabAt w T p) (n : Nat) : TabAt (w.drewN n) T p := h.kept (drewN_below w n)
theorem swapw {P : Program} {f : FuncId} {args : Array Value} {w : World} {v : Value} (h : Calls P f args w fun e w' => e = .returned v ∧ w = w') : Calls P f args w fun e w' => e = .returned v ∧ w' = w := h.mono fun _ _ ⟨h1, h2⟩ => ⟨h1, h2.symm⟩

theorem conv9 (w : World) : Sem.run Try.prog (convert 28 28 (.slice (some ⟨w.heap.size, 0, none⟩) 9 9)) (w.alloc (.cells #[.int .u8 49, .int .u8 50, .int .u8 51, .int .u8 52, .int .u8 53, .int .u8 54, .int .u8 55, .int .u8 56, .int .u8 57] 5)) =
    Result.ok (.slice (some ⟨w.heap.size, 0, none⟩) 9 9) (w.alloc (.cells (ivals .u8 zs9).toArray 5 (9, 10))) :=
  Lib.run_convert_bytes_const w 28 5 (ivals .u8 zs9).toArray 9 9 Try.underlying28 Try.underlying5
theorem ints9 (w : World) : IntsAt .u8 (w.alloc (.cells (ivals .u8 zs9).toArray 5 (9, 10))).heap.size (w.alloc (.cells (ivals .u8 zs9).toArray 5 (9, 10))) (some ⟨w.heap.size, 0, none⟩) w.heap.size 0 9 zs9 :=
  ⟨.inr rfl, rfl, by decide, .inr (by simp), fun i hi => heap_cell (heap_new (w := w) _ rfl) (by
    unfold ivals
    have hi' : i < zs9.length := hi
    rw [Nat.zero_add, List.getElem?_toArray, List.getElem?_map, List.getElem?_eq_getElem hi']
    simp [List.getD, hi']), zs9_wf⟩
set_option maxRecDepth 100000 in
set_option maxHeartbeats 1000000 in
theorem dalive_any (w : World) :
    Calls Try.prog 39 #[] w fun e w' => e = .returned (.bool true) ∧ Below w.heap.size w w' := by
  have HMK : Hid (∀ W, Calls Try.prog 40 #[.int .u32 3988292384] W (MakePost W usual)) := Lib.hid (fun W => make_any usual W usual_lt)
  go_enter Try.func39, Try.ntmps39
  go_wp2_with fail
  refine (HMK.out _).mono ?_
  rintro e w2 ⟨rfl, ht, hB2⟩
  obtain ⟨T, hT⟩ : ∃ T, w.heap.size = T := ⟨_, rfl⟩
  rw [hT] at ht ⊢
  have HT := Lib.hid hT
  have HTB := Lib.hid ht
  have HB2 := Lib.hid hB2
  clear hT ht hB2 HMK
  have hcv := conv9 w2
  have HI3 := Lib.hid (ints9 w2)
  have hb3 : Below w2.heap.size w2 (w2.alloc (.cells (ivals .u8 zs9).toArray 5 (9, 10))) := (Below.refl _ _).alloc (Nat.le_refl _) _
  have HB3 := Lib.hid (HB2.out.trans (hb3.mono HB2.out.size))
  have HT3 := Lib.hid (HTB.out.kept hb3)
  clear hb3 HB2 HTB
  go_wp2_with fail
  generalize (w2.alloc (.cells (ivals .u8 zs9).toArray 5 (9, 10))) = w3 at *
  generalize w2.heap.size = g at *
  clear hcv
  have HSL : Hid (Calls Try.prog 48 #[.slice (some ⟨g, 0, none⟩) 9 9] w3 (WholePost w3 (sealI zs9))) := Lib.hid (seal_any zs9 w3.heap.size _ g 0 9 w3 HI3.out (fun e => by cases e) (Nat.le_refl _) (by decide))
  refine HSL.out.mono ?_
  rintro e w4 ⟨g4, he, hg4, hheap, hwf, hB4⟩
  have hl13 : (sealI zs9).length = 13 := sealI_length zs9
  have HI4s := whole_ints hheap hwf (by rw [hl13]; decide)
  rw [hl13] at he HI4s
  subst he
  have HIS := Lib.hid HI4s
  have HI4 := Lib.hid ((HI3.out.kept hB4 (Nat.le_refl _)).mono hB4.size)
  have HB4 := Lib.hid (HB3.out.trans (hB4.mono HB3.out.size))
  have HT4 := Lib.hid (HT3.out.kept hB4)
  have HU := unseal_any (sealI zs9) w4.heap.size _ _ 0 13 w4 (by rw [hl13]; exact HI4s) (fun e => by cases e) (by rw [hl13]; decide)
  rw [hl13] at HU
  have HU4 := Lib.hid HU
  clear hl13 HI4s hg4 hheap hwf hB4 HI3 HB3 HT3 HSL HU
  go_wp2_with fail
  refine HU4.out.mono ?_
  rintro e w5 ⟨a5, b5, c5, he, hc5, hn5, hI5, hb5, _, hB5⟩
  obtain ⟨u0, ub⟩ := unseal_seal zs9 zs9_wf
  rw [u0, ub] at he
  rw [ub] at hI5
  have he2 : e = .returned (.tuple #[.slice a5 9 c5, .int .i64 0]) := he
  subst he2
  have HI5 : Hid (IntsAt .u8 w5.heap.size w5 a5 b5 0 9 zs9) := Lib.hid hI5
  have HI5b := Lib.hid ((HI4.out.kept hB5 (Nat.le_refl _)).mono hB5.size)
  have HB5 := Lib.hid (HB4.out.trans (hB5.mono HB4.out.size))
  have HT5 := Lib.hid (HT4.out.kept hB5)
  have HU2 : Hid (Calls Try.prog 46 #[.slice (some ⟨g, 0, none⟩) 9 9] w5 (UnsealPost w5 zs9)) := Lib.hid (unseal_any zs9 w5.heap.size _ g 0 9 w5 HI5b.out (fun e => by cases e) (by decide))
  clear he hc5 hn5 hI5 hb5 hB5 u0 ub HI4 HIS HB4 HT4 HU4
  go_wp2_with fail
  refine HU2.out.mono ?_
  rintro e w6 ⟨a6, b6, c6, he, _, _, _, _, _, hB6⟩
  have he2 : e = .returned (.tuple #[.slice a6 (unsealB zs9).length c6, .int .i64 44]) := by rw [he, bad9]; rfl
  subst he2
  have HI6 := Lib.hid ((HI5.out.kept hB6 (Nat.le_refl _)).mono hB6.size)
  have HI6b := Lib.hid ((HI5b.out.kept hB6 (Nat.le_refl _)).mono hB6.size)
  have HB6 := Lib.hid (HB5.out.trans (hB6.mono HB5.out.size))
  have HT6 := Lib.hid (HT5.out.kept hB6)
  have HU3 : Hid (Calls Try.prog 46 #[.slice (some ⟨g, 0, none⟩) 3 9] w6 (UnsealPost w6 [49, 50, 51])) := Lib.hid (unseal_any [49, 50, 51] w6.heap.size _ g 0 9 w6 (HI6b.out.take 3 (by decide)) (fun e => by cases e) (by decide))
  clear he hB6 HI5 HI5b HB5 HT5 HU2
  generalize (unsealB zs9).length = n6 at *
  go_wp2_with fail
  refine HU3.out.mono ?_
  rintro e w7 ⟨a7, b7, c7, he, _, _, _, _, _, hB7⟩
  have he2 : e = .returned (.tuple #[.slice a7 (unsealB [49, 50, 51]).length c7, .int .i64 20]) := by rw [he, bad3]; rfl
  subst he2
  have HI7 := (HI6.out.kept hB7 (Nat.le_refl _)).mono hB7.size
  have HI7b := Lib.hid ((HI6b.out.kept hB7 (Nat.le_refl _)).mono hB7.size)
  have HB7 := Lib.hid (HB6.out.trans (hB7.mono HB6.out.size))
  have HT7 := Lib.hid (HT6.out.kept hB7)
  have hcv1 := fun n => conv_ints (HI7.kept (drewN_below w7 n) (Nat.le_refl _)) c5
  have hcv2 := fun n => conv_ints (HI7b.out.kept (drewN_below w7 n) (Nat.le_refl _)) 9
  have HC1 : Hid (∀ n, Calls Try.prog 41 #[.pointer (some ⟨T, 0, none⟩), .slice (some ⟨g, 0, none⟩) 9 9] (w7.drewN n) fun e w' => e = .returned (.int .u32 3421780262) ∧ w' = w7.drewN n) := Lib.hid (fun n => by
    have := sum_any usual T usual_lt zs9 w7.heap.size _ g 0 9 9 (w7.drewN n) (HT7.out.drewN n) (HI7b.out.kept (drewN_below w7 n) (Nat.le_refl _))
    rw [sum9] at this
    exact swapw this)
  have HC2 : Hid (∀ n, Calls Try.prog 41 #[.pointer (some ⟨T, 0, none⟩), .slice (some ⟨g, 0, none⟩) 4 9] (w7.drewN n) fun e w' => e = .returned (.int .u32 (moreF usual 0 [49, 50, 51, 52])) ∧ w' = w7.drewN n) := Lib.hid (fun n =>
    swapw (sum_any usual T usual_lt [49, 50, 51, 52] w7.heap.size _ g 0 4 9 (w7.drewN n) (HT7.out.drewN n) ((HI7b.out.take 4 (by decide)).kept (drewN_below w7 n) (Nat.le_refl _))))
  have HC3 : Hid (∀ n, Calls Try.prog 43 #[.pointer (some ⟨T, 0, none⟩), .int .u32 (moreF usual 0 [49, 50, 51, 52]), .slice (some ⟨g, 4, none⟩) 5 5] (w7.drewN n) fun e w' => e = .returned (.int .u32 3421780262) ∧ w' = w7.drewN n) := Lib.hid (fun n => by
    have := more_any usual T usual_lt (moreF usual 0 [49, 50, 51, 52]) (moreF_lt _ _ _) [53, 54, 55, 56, 57] w7.heap.size _ g 4 5 5 (w7.drewN n) (HT7.out.drewN n) ((HI7b.out.drop 4 (by decide) (some ⟨g, 4, none⟩) (.inr rfl)).kept (drewN_below w7 n) (Nat.le_refl _))
    rw [sum45] at this
    exact swapw this)
  have HC4 : Hid (∀ n, Calls Try.prog 44 #[.pointer (some ⟨T, 0, none⟩), .int .u8 0] (w7.drewN n) fun e w' => e = .returned (.int .u32 0) ∧ w' = w7.drewN n) := Lib.hid (fun n => by
    have := at_any usual T 0 (by decide) (w7.drewN n) (HT7.out.drewN n)
    rw [tab0] at this
    exact swapw this)
  have HC5 : Hid (∀ n, Calls Try.prog 44 #[.pointer (some ⟨T, 0, none⟩), .int .u8 128] (w7.drewN n) fun e w' => e = .returned (.int .u32 3988292384) ∧ w' = w7.drewN n) := Lib.hid (fun n => by
    have := at_any usual T 128 (by decide) (w7.drewN n) (HT7.out.drewN n)
    rw [tab128] at this
    exact swapw this)
  generalize moreF usual 0 [49, 50, 51, 52] = s4 at *
  generalize strOfNums zs9 = S9 at *
  clear he hB7 HI6 HI6b HB6 HT6 HU3 HI7
  generalize (unsealB [49, 50, 51]).length = n7 at *
  go_wp2
  go_quiet ((first
    | (go_at_call 41; with_reducible exact Calls.quiet_of_same (HC1.out _))
    | (go_at_call 41; with_reducible exact Calls.quiet_of_same (HC2.out _))
    | (go_at_call 43; with_reducible exact Calls.quiet_of_same (HC3.out _))
    | (go_at_call 44; with_reducible exact Calls.quiet_of_same (HC4.out _))
    | (go_at_call 44; with_reducible exact Calls.quiet_of_same (HC5.out _))))
  go_wp2
  go_ret
  exact ⟨rfl, HB7.out.trans ((drewN_below w7 _).mono HB7.out.size)⟩
end Go.Proofs.Ytlnocekiaffbpaa
