/- Contract: section.Unpack. -/
import Derived.Test.YtnkhpmpoemodiaaSeK
import Derived.Test.YtnkhpmpoemodiaaSeC
set_option linter.unusedVariables false
set_option linter.unusedSectionVars false
set_option linter.unusedSimpArgs false
namespace Go.Proofs.Ytnkhpmpoemodiaa.Se
open Go.RowKit Go.Shelf

/-- The sections of bytes lie in new memory. -/
def UnpQ (zs : List Int) (w : World) (e : Ending) (w' : World) : Prop :=
  ∃ a n c V, e = .returned (.tuple #[.slice a n c, .int .i64 (unpE zs)]) ∧ Hid (IsSecs w' a n c V ∧ secsM V = unpL zs ∧ n ≤ 255 ∧ Below w.heap.size w w')
theorem no_secs (w : World) : IsSecs w none 0 0 [] := ⟨0, 0, RowsAt.nil rfl rfl, fun x hx => by simp at hx, fun _ => ⟨rfl, rfl⟩, Nat.le_refl _⟩
theorem unp_bad {zs : List Int} {w w' : World} {n : Nat} (hn : unpE zs = n) (h0 : n ≠ 0) (hb : Below w.heap.size w w') : UnpQ zs w (.returned (.tuple #[.slice none 0 0, .int .i64 n])) w' :=
  ⟨none, 0, 0, [], by rw [hn], Lib.hid ⟨no_secs _, by unfold unpL; rw [if_neg (by omega)]; rfl, by decide, hb⟩⟩
theorem sg_eq (st : ByteArray) : (st.toList == [83, 65, 78, 68]) = decide (st = ⟨#[83, 65, 78, 68]⟩) := by
  rw [← str_eq]
  congr 1
  simp
set_option maxRecDepth 100000 in
set_option maxHeartbeats 2000000 in
theorem unpack_any (zs : List Int) (B : Nat) (a : Option Addr) (b off cap : Nat) (w : World) (hi : IntsAt .u8 B w a b off zs.length zs) (h0 : a = none → zs.length = 0 ∧ cap = 0) (hz : zs.length ≤ 60000) :
    Calls Try.prog 39 #[.slice a zs.length cap] w (UnpQ zs w) := by
  have HU := Lib.hid (unseal_any zs B a b off cap w hi h0 hz)
  have hle : (unsealB zs).length ≤ 60000 := by
    unfold unsealB
    split
    · rw [List.length_take]; omega
    · simp
  have HLE := Lib.hid hle
  have HUE : Hid (unpE zs = if unsealE zs ≠ 0 then unsealE zs else if (rtake (unsealB zs) 0 4 ⟨0, 0, 0⟩).2 ≠ signI then 45 else if okAll (unsealB zs) (rdAll (unsealB zs) (rtake (unsealB zs) 0 4 ⟨0, 0, 0⟩).1) = true then 0 else 21) := Lib.hid rfl
  clear hi h0 hle
  obtain ⟨ue, hue⟩ : ∃ ue, unsealE zs = ue := ⟨_, rfl⟩
  have HUu := Lib.hid hue
  rw [hue] at HUE
  have HU2 : Hid (Calls Try.prog 68 #[.slice a zs.length cap] w fun e w1 => ∃ a1 b1 cap1, e = .returned (.tuple #[.slice a1 (unsealB zs).length cap1, .int .i64 (ue : Nat)]) ∧ Hid ((unsealB zs).length ≤ cap1 ∧ (a1 = none → (unsealB zs).length = 0 ∧ cap1 = 0) ∧ IntsAt .u8 w1.heap.size w1 a1 b1 0 (unsealB zs).length (unsealB zs) ∧ Below w.heap.size w w1)) := Lib.hid (HU.out.mono (fun e w1 ⟨a1, b1, c1, h1, h2, h3, h4, _, _, h7⟩ => ⟨a1, b1, c1, by rw [h1, hue], Lib.hid ⟨h2, h3, h4, h7⟩⟩))
  obtain ⟨ys, hys⟩ : ∃ ys, unsealB zs = ys := ⟨_, rfl⟩
  have HYS := Lib.hid hys
  rw [hys] at HU2 HUE HLE
  clear HU hue hys
  go_enter Try.func39, Try.ntmps39
  go_wp2_with fail
  refine HU2.out.mono ?_
  rintro e w1 ⟨a1, b1, cap1, rfl, HW1⟩
  obtain ⟨yl, hyl⟩ : ∃ yl, ys.length = yl := ⟨_, rfl⟩
  by_cases hu0 : ue = 0
  · subst hu0
    have HOp := Lib.hid (open_any HW1.out.2.2.1 HW1.out.2.1 (by have := HLE.out; omega))
    have hne : ((0 : Int) != 0) = false := by decide
    rw [hyl] at HOp ⊢
    go_wp2_with fail
    refine HOp.out.mono ?_
    rintro e w2 ⟨R, rfl, hR, hr, hb2⟩
    have HB2 : Hid (Below w.heap.size w w2 ∧ w.heap.size ≤ R) := Lib.hid ⟨HW1.out.2.2.2.trans (hb2.mono HW1.out.2.2.2.size), Nat.le_trans HW1.out.2.2.2.size hR⟩
    have HRw := Lib.hid (rraw_any w2 R ys ⟨0, 0, 0⟩ 4 4 (by decide) (by decide) (by decide) HLE.out hr)
    obtain ⟨rt, hrt⟩ : ∃ rt, rtake ys 0 4 ⟨0, 0, 0⟩ = rt := ⟨_, rfl⟩
    rw [hrt] at HRw HUE
    have HRT := Lib.hid hrt
    clear hR hr hb2 HOp hrt
    go_wp2_with fail
    refine HRw.out.mono ?_
    rintro e w3 ⟨a3, b3, cap3, rfl, hc3, hnil3, hI3, hb3, hr3, hg3, hty3⟩
    have kcv := conv_ints hI3 cap3
    have HB3 : Hid (RIs w3 R ys rt.1 ∧ Below w.heap.size w w3) := Lib.hid ⟨hr3, below_set HB2.out.1 (Nat.le_refl _) HB2.out.2 hg3⟩
    have HEq := nums_eq (zs := rt.2) (zs' := signI) hI3.fits (by decide)
    obtain ⟨st, hst⟩ : ∃ st, strOfNums rt.2 = st := ⟨_, rfl⟩
    rw [hst] at kcv HEq
    obtain ⟨rl, hrl⟩ : ∃ rl, rt.2.length = rl := ⟨_, rfl⟩
    rw [hrl] at kcv ⊢
    have HST := Lib.hid hst
    have HE2 := Lib.hid HEq
    clear hc3 hnil3 hI3 hb3 hr3 hg3 hty3 HRw hst HEq hrl
    have hsn : strOfNums signI = ⟨#[83, 65, 78, 68]⟩ := by decide
    rw [hsn] at HE2
    clear hsn
    by_cases hsg : rt.2 = signI
    · have hse : st = ⟨#[83, 65, 78, 68]⟩ := HE2.out.2 hsg
      have h1 : (st.toList == [83, 65, 78, 68]) = true := by rw [sg_eq]; simpa using hse
      have h2 : (st.toList != [83, 65, 78, 68]) = false := by rw [bne, h1]; rfl
      have HRd := Lib.hid (read_any w3 R ys rt.1 HLE.out HB3.out.1)
      have HUF : Hid (unpE zs = if okAll ys (rdAll ys rt.1) = true then 0 else 21) := Lib.hid (by rw [HUE.out, if_neg (by simp), if_neg (by simpa using hsg)])
      clear hse HST HE2 hsg HUE
      go_wp2_with fail
      refine HRd.out.mono ?_
      rintro e w4 ⟨Lb, n, V, rfl, HQ⟩
      have HB4 : Hid (Below w.heap.size w w4) := Lib.hid (below_set HB3.out.2 (Nat.le_refl _) HB2.out.2 HQ.out.2.2.1)
      obtain ⟨ok, hok⟩ : ∃ ok, okAll ys (rdAll ys rt.1) = ok := ⟨_, rfl⟩
      rw [hok] at HUF ⊢
      clear hok HRd
      cases ok with
      | true =>
        have h0 : unpE zs = 0 := by rw [HUF.out, if_pos rfl]
        have HF : Hid (UnpQ zs w (.returned (.tuple #[.slice (some ⟨Lb, 0, none⟩) n n, .int .i64 0])) w4) := Lib.hid ⟨_, n, n, V, by rw [h0]; rfl, Lib.hid ⟨⟨Lb, 0, HQ.out.1⟩, by rw [HQ.out.2.1]; unfold unpL; rw [if_pos h0, HYS.out, HRT.out], HQ.out.2.2.2, HB4.out⟩⟩
        clear h0
        go_wp2
        go_ret2
        exact HF.out
      | false =>
        have h0 : unpE zs = 21 := by rw [HUF.out, if_neg (by simp)]
        have HF : Hid (UnpQ zs w (.returned (.tuple #[.slice none 0 0, .int .i64 21])) w4) := Lib.hid (unp_bad h0 (by decide) HB4.out)
        clear h0
        go_wp2
        go_ret2
        exact HF.out
    · have hse : ¬ st = ⟨#[83, 65, 78, 68]⟩ := fun e => hsg (HE2.out.1 e)
      have h1 : (st.toList == [83, 65, 78, 68]) = false := by rw [sg_eq]; simpa using hse
      have h2 : (st.toList != [83, 65, 78, 68]) = true := by rw [bne, h1]; rfl
      have h0 : unpE zs = 45 := by rw [HUE.out, if_neg (by simp), if_pos (by simpa using hsg)]
      have HF : Hid (UnpQ zs w (.returned (.tuple #[.slice none 0 0, .int .i64 45])) w3) := Lib.hid (unp_bad h0 (by decide) HB3.out.2)
      clear hse HST HE2 hsg HUE h0
      go_wp2
      go_ret2
      exact HF.out
  · have hne : ((ue : Int) != 0) = true := by simp; omega
    have h0 : unpE zs = ue := by rw [HUE.out, if_pos hu0]
    have HF : Hid (UnpQ zs w (.returned (.tuple #[.slice none 0 0, .int .i64 (ue : Nat)])) w1) := Lib.hid (unp_bad h0 hu0 HW1.out.2.2.2)
    rw [hyl]
    clear h0 hu0
    go_wp2
    go_ret2
    exact HF.out
end Go.Proofs.Ytnkhpmpoemodiaa.Se
