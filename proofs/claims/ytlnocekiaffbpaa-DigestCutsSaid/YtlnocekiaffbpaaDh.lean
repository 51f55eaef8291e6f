/- The walks of DigestTables, DigestSums and DigestSeals. -/
import Derived.Test.YtlnocekiaffbpaaDg
set_option linter.unusedVariables false
namespace Go.Proofs.Ytlnocekiaffbpaa
open Go.RowKit

theorem nat_of_bv {a b : Nat} (ha : a < 4294967296) (hb : b < 4294967296) (h : BitVec.ofNat 32 a = BitVec.ofNat 32 b) : a = b := by
  have := congrArg BitVec.toNat h
  rw [BitVec.toNat_ofNat, BitVec.toNat_ofNat, Nat.mod_eq_of_lt (by omega), Nat.mod_eq_of_lt (by omega)] at this
  exact this
theorem stepsN_xor {p a b : Nat} (hp : p < 4294967296) (ha : a < 4294967296) (hb : b < 4294967296) (k : Nat) : stepsN p k (a ^^^ b) = stepsN p k a ^^^ stepsN p k b := by
  have hab : a ^^^ b < 4294967296 := Nat.xor_lt_two_pow (n := 32) ha hb
  apply nat_of_bv (stepsN_lt hp k _ hab) (Nat.xor_lt_two_pow (n := 32) (stepsN_lt hp k _ ha) (stepsN_lt hp k _ hb))
  rw [stepsN_bv hp k _ hab, BitVec.ofNat_xor, BitVec.ofNat_xor, stps_xor, stepsN_bv hp k _ ha, stepsN_bv hp k _ hb]
theorem steps128 (p : Nat) : stepsN p 8 128 = p := by simp [stepsN, stepN]
theorem steps0 (p : Nat) : stepsN p 8 0 = 0 := by simp [stepsN, stepN]

theorem walk_DigestTables (a0 a1 a2 : Int) (w : World) (w0 : (Lit.int .u32 a0).wf = true) (w1 : (Lit.int .u8 a1).wf = true) (w2 : (Lit.int .u8 a2).wf = true) :
    Calls Try.prog 11 #[.int .u32 a0, .int .u8 a1, .int .u8 a2] w fun e w' => e = .returned (.bool true) ∧ Below w.heap.size w w' := by
  have h0 := bounds_u32 w0
  have h1 := bounds_u8 w1
  have h2 := bounds_u8 w2
  clear w0 w1 w2
  obtain ⟨p, rfl⟩ : ∃ p : Nat, a0 = (p : Int) := ⟨a0.toNat, by omega⟩
  obtain ⟨i, rfl⟩ : ∃ i : Nat, a1 = (i : Int) := ⟨a1.toNat, by omega⟩
  obtain ⟨k, rfl⟩ : ∃ k : Nat, a2 = (k : Int) := ⟨a2.toNat, by omega⟩
  have hp : p < 4294967296 := by omega
  have hik : i ^^^ k < 256 := Nat.xor_lt_two_pow (n := 8) (by omega) (by omega)
  have hx8 := xor_u8 i k (by omega) (by omega)
  have hx32 := xor_u32 (stepsN p 8 i) (stepsN p 8 k) (stepsN_lt hp 8 _ (by omega)) (stepsN_lt hp 8 _ (by omega))
  rw [← stepsN_xor hp (by omega) (by omega)] at hx32
  have HM := Lib.hid (fun W => make_any p W hp)
  have HA1 : Hid (∀ W T, TabAt W T p → Calls Try.prog 44 #[.pointer (some ⟨T, 0, none⟩), .int .u8 ((i ^^^ k : Nat) : Int)] W fun e w' => e = .returned (.int .u32 (stepsN p 8 (i ^^^ k))) ∧ W = w') := Lib.hid (fun W T ht => at_any p T _ hik W ht)
  have HA2 : Hid (∀ W T, TabAt W T p → Calls Try.prog 44 #[.pointer (some ⟨T, 0, none⟩), .int .u8 i] W fun e w' => e = .returned (.int .u32 (stepsN p 8 i)) ∧ W = w') := Lib.hid (fun W T ht => at_any p T i (by omega) W ht)
  have HA3 : Hid (∀ W T, TabAt W T p → Calls Try.prog 44 #[.pointer (some ⟨T, 0, none⟩), .int .u8 k] W fun e w' => e = .returned (.int .u32 (stepsN p 8 k)) ∧ W = w') := Lib.hid (fun W T ht => at_any p T k (by omega) W ht)
  have HA4 : Hid (∀ W T, TabAt W T p → Calls Try.prog 44 #[.pointer (some ⟨T, 0, none⟩), .int .u8 128] W fun e w' => e = .returned (.int .u32 p) ∧ W = w') := Lib.hid (fun W T ht => by have := at_any p T 128 (by decide) W ht; rw [steps128] at this; exact this)
  have HA5 : Hid (∀ W T, TabAt W T p → Calls Try.prog 44 #[.pointer (some ⟨T, 0, none⟩), .int .u8 0] W fun e w' => e = .returned (.int .u32 0) ∧ W = w') := Lib.hid (fun W T ht => by have := at_any p T 0 (by decide) W ht; rw [steps0] at this; exact this)
  generalize stepsN p 8 (i ^^^ k) = vik at *
  generalize stepsN p 8 i = vi at *
  generalize stepsN p 8 k = vk at *
  generalize i ^^^ k = ik at *
  go_enter Try.func11, Try.ntmps11
  go_wp2_with fail
  refine (dalive_any _).mono ?_
  rintro e w2 ⟨rfl, hB⟩
  have HB2 := Lib.hid hB
  clear hB
  go_wp2_with fail
  refine (HM.out _).mono ?_
  rintro e w3 ⟨rfl, ht, hB⟩
  have HB3 := Lib.hid (HB2.out.trans (hB.mono HB2.out.size))
  have HT := Lib.hid ht
  clear hB ht HB2
  generalize w2.heap.size = T at *
  go_wp2_with fail
  refine (HA1.out _ _ HT.out).mono ?_
  rintro e w4 ⟨rfl, rfl⟩
  go_wp2_with fail
  refine (HA2.out _ _ HT.out).mono ?_
  rintro e w4 ⟨rfl, rfl⟩
  go_wp2_with fail
  refine (HA3.out _ _ HT.out).mono ?_
  rintro e w4 ⟨rfl, rfl⟩
  go_wp2_with fail
  refine (HA4.out _ _ HT.out).mono ?_
  rintro e w4 ⟨rfl, rfl⟩
  go_wp2_with fail
  refine (HA5.out _ _ HT.out).mono ?_
  rintro e w4 ⟨rfl, rfl⟩
  go_wp2
  go_ret
  exact ⟨rfl, HB3.out⟩

set_option maxRecDepth 100000 in
theorem walk_DigestSums (a0 a1 : Int) (a2 : Option Addr) (len2 cap2 : Nat) (z2 : List Int) (a3 : Int) (w : World) (w0 : (Lit.int .u32 a0).wf = true) (w1 : (Lit.int .u32 a1).wf = true) (w2 : IsRow .u8 w a2 len2 cap2 z2) (w3 : (Lit.int .u8 a3).wf = true) :
    Calls Try.prog 7 #[.int .u32 a0, .int .u32 a1, .slice a2 len2 cap2, .int .u8 a3] w fun e w' => e = .returned (.bool true) ∧ Below w.heap.size w w' := by
  have h0 := bounds_u32 w0
  have h1 := bounds_u32 w1
  have h3 := bounds_u8 w3
  obtain ⟨b, off, hi⟩ := w2.ints
  have hsm := hi.small
  unfold maxLen at hsm
  clear w0 w1 w2 w3
  obtain ⟨p, rfl⟩ : ∃ p : Nat, a0 = (p : Int) := ⟨a0.toNat, by omega⟩
  obtain ⟨s, rfl⟩ : ∃ s : Nat, a1 = (s : Int) := ⟨a1.toNat, by omega⟩
  obtain ⟨i, rfl⟩ : ∃ i : Nat, a3 = (i : Int) := ⟨a3.toNat, by omega⟩
  have hp : p < 4294967296 := by omega
  have HM := Lib.hid (fun W => make_any p W hp)
  have HI := Lib.hid (fun W (hb : Below w.heap.size w W) => hi.kept hb (Nat.le_refl _))
  generalize z2.take len2 = z at *
  have HS : Hid (∀ W T, Below w.heap.size w W → TabAt W T p → Calls Try.prog 41 #[.pointer (some ⟨T, 0, none⟩), .slice a2 len2 cap2] W fun e w' => e = .returned (.int .u32 (moreF p 0 z)) ∧ W = w') := Lib.hid (fun W T hb ht => sum_any p T hp z _ a2 b off len2 cap2 W ht (HI.out W hb))
  have HMo : Hid (∀ W T, Below w.heap.size w W → TabAt W T p → Calls Try.prog 43 #[.pointer (some ⟨T, 0, none⟩), .int .u32 s, .slice a2 len2 cap2] W fun e w' => e = .returned (.int .u32 (moreF p s z)) ∧ W = w') := Lib.hid (fun W T hb ht => more_any p T hp s (by omega) z _ a2 b off len2 cap2 W ht (HI.out W hb))
  have HA : Hid (∀ W T, TabAt W T p → Calls Try.prog 44 #[.pointer (some ⟨T, 0, none⟩), .int .u8 i] W fun e w' => e = .returned (.int .u32 (stepsN p 8 i)) ∧ W = w') := Lib.hid (fun W T ht => at_any p T i (by omega) W ht)
  have HR0 : Hid (∀ W, Below w.heap.size w W → Calls Try.prog 42 #[.int .u32 p, .int .u32 0, .slice a2 len2 cap2] W fun e w' => e = .returned (.int .u32 (moreF p 0 z)) ∧ W = w') := Lib.hid (fun W hb => rmore_any p hp 0 (by decide) z _ a2 b off len2 cap2 W (HI.out W hb))
  have HRS : Hid (∀ W, Below w.heap.size w W → Calls Try.prog 42 #[.int .u32 p, .int .u32 s, .slice a2 len2 cap2] W fun e w' => e = .returned (.int .u32 (moreF p s z)) ∧ W = w') := Lib.hid (fun W hb => rmore_any p hp s (by omega) z _ a2 b off len2 cap2 W (HI.out W hb))
  have HST : Hid (∀ W, Calls Try.prog 45 #[.int .u32 i, .int .u32 p] W fun e w' => e = .returned (.int .u32 (stepsN p 8 i)) ∧ W = w') := Lib.hid (fun W => steps_any i p W (by omega) hp)
  generalize stepsN p 8 i = vi at *
  generalize moreF p 0 z = v0 at *
  generalize moreF p s z = vs at *
  clear hi
  by_cases h300 : 300 < len2
  · go_enter Try.func7, Try.ntmps7
    go_wp2_with fail
    refine (dalive_any _).mono ?_
    rintro e w2 ⟨rfl, hB⟩
    have HB2 := Lib.hid hB
    clear hB
    go_wp2
    go_ret
    exact ⟨rfl, HB2.out⟩
  go_enter Try.func7, Try.ntmps7
  go_wp2_with fail
  refine (dalive_any _).mono ?_
  rintro e w2 ⟨rfl, hB⟩
  have HB2 := Lib.hid hB
  clear hB
  go_wp2_with fail
  refine (HM.out _).mono ?_
  rintro e w3 ⟨rfl, ht, hB⟩
  have HB3 := Lib.hid (HB2.out.trans (hB.mono HB2.out.size))
  have HT := Lib.hid ht
  clear hB ht HB2
  generalize w2.heap.size = T at *
  go_wp2_with fail
  refine (HS.out _ _ HB3.out HT.out).mono ?_
  rintro e w4 ⟨rfl, rfl⟩
  go_wp2_with fail
  refine (HR0.out _ HB3.out).mono ?_
  rintro e w4 ⟨rfl, rfl⟩
  go_wp2_with fail
  refine (HMo.out _ _ HB3.out HT.out).mono ?_
  rintro e w4 ⟨rfl, rfl⟩
  go_wp2_with fail
  refine (HRS.out _ HB3.out).mono ?_
  rintro e w4 ⟨rfl, rfl⟩
  go_wp2_with fail
  refine (HA.out _ _ HT.out).mono ?_
  rintro e w4 ⟨rfl, rfl⟩
  go_wp2_with fail
  refine (HST.out _).mono ?_
  rintro e w4 ⟨rfl, rfl⟩
  go_wp2
  go_ret
  exact ⟨rfl, HB3.out⟩

theorem seal_wf {zs : List Int} (hw : ∀ x ∈ zs, (Lit.int .u8 x).wf = true) : ∀ x ∈ sealI zs, (Lit.int .u8 x).wf = true := fun x hx => by
  unfold sealI at hx
  rcases List.mem_append.1 hx with h | h
  · exact hw x h
  · exact fixF_wf _ x h
theorem walk_DigestSeals (a0 : Option Addr) (len0 cap0 : Nat) (z0 : List Int) (w : World) (w0 : IsRow .u8 w a0 len0 cap0 z0) :
    Calls Try.prog 8 #[.slice a0 len0 cap0] w fun e w' => e = .returned (.bool true) ∧ Below w.heap.size w w' := by
  have hcap := w0.cap
  have hnil : a0 = none → len0 = 0 ∧ cap0 = 0 := by intro h; subst h; exact w0.nil
  obtain ⟨b, off, hi⟩ := w0.ints
  have hsm := hi.small
  unfold maxLen at hsm
  clear w0
  have hl := hi.length
  generalize z0.take len0 = z at *
  have HL := Lib.hid hl
  have HI := Lib.hid (fun W (hb : Below w.heap.size w W) => (hi.kept hb (Nat.le_refl _)).mono hb.size)
  have HWF := Lib.hid hi.fits
  by_cases h300 : 300 < len0
  · clear hl hi
    go_enter Try.func8, Try.ntmps8
    go_wp2_with fail
    refine (dalive_any _).mono ?_
    rintro e w2 ⟨rfl, hB⟩
    have HB2 := Lib.hid hB
    clear hB
    go_wp2
    go_ret
    exact ⟨rfl, HB2.out⟩
  have HU : Hid (∀ W, Below w.heap.size w W → Calls Try.prog 46 #[.slice a0 len0 cap0] W (UnsealPost W z)) := Lib.hid (fun W hb => by
    have := unseal_any z W.heap.size a0 b off cap0 W (by rw [hl]; exact HI.out W hb) (by rw [hl]; exact hnil) (by omega)
    rw [hl] at this; exact this)
  have HRU : Hid (∀ W, Below w.heap.size w W → Calls Try.prog 47 #[.slice a0 len0 cap0] W (RUnsealPost W z)) := Lib.hid (fun W hb => by
    have := runseal_any z a0 b off cap0 W (by rw [hl]; exact HI.out W hb) (by rw [hl]; exact hnil) (by omega) (by omega)
    rw [hl] at this; exact this)
  have HS : Hid (∀ W, Below w.heap.size w W → Calls Try.prog 48 #[.slice a0 len0 cap0] W (WholePost W (sealI z))) := Lib.hid (fun W hb => by
    have := seal_any z W.heap.size a0 b off cap0 W (by rw [hl]; exact HI.out W hb) (by rw [hl]; exact hnil) (Nat.le_refl _) (by omega)
    rw [hl] at this; exact this)
  have HRS : Hid (∀ W, Below w.heap.size w W → Calls Try.prog 49 #[.slice a0 len0 cap0] W (BytesPost W (sealI z))) := Lib.hid (fun W hb => by
    have := rseal_any z a0 b off cap0 W (by rw [hl]; exact HI.out W hb) (by rw [hl]; exact hnil) (by omega) (by omega)
    rw [hl] at this; exact this)
  clear hl hi
  obtain ⟨ue, hue⟩ : ∃ ue, unsealE z = ue := ⟨_, rfl⟩
  obtain ⟨ub, hub⟩ : ∃ ub, (unsealB z).length = ub := ⟨_, rfl⟩
  have HUE := Lib.hid (And.intro hue hub)
  obtain ⟨sl, hsl⟩ : ∃ sl, (sealI z).length = sl := ⟨_, rfl⟩
  have HSL := Lib.hid hsl
  have hsl4 : sl ≤ 400 := by rw [← hsl, sealI_length, HL.out]; omega
  clear hue hub hsl
  go_enter Try.func8, Try.ntmps8
  go_wp2_with fail
  refine (dalive_any _).mono ?_
  rintro e w2 ⟨rfl, hB⟩
  have HB2 := Lib.hid hB
  clear hB
  go_wp2_with fail
  refine (HU.out _ HB2.out).mono ?_
  rintro e w3 ⟨a3, b3, c3, he, _, _, hI3, _, _, hB3⟩
  rw [HUE.out.1, HUE.out.2] at he
  rw [HUE.out.2] at hI3
  subst he
  have HI3 := Lib.hid hI3
  have HB3 := Lib.hid (HB2.out.trans (hB3.mono HB2.out.size))
  clear hI3 hB3 HB2
  go_wp2_with fail
  refine (HRU.out _ HB3.out).mono ?_
  rintro e w4 ⟨a4, b4, o4, c4, he, hI4, hB4⟩
  rw [HUE.out.1, HUE.out.2] at he
  rw [HUE.out.2] at hI4
  subst he
  have HI4 := Lib.hid (And.intro hI4 ((HI3.out.kept hB4 (Nat.le_refl _)).mono hB4.size))
  have HB4 := Lib.hid (HB3.out.trans (hB4.mono HB3.out.size))
  clear hI4 hB4 HI3 HB3
  go_wp2_with fail
  refine (HS.out _ HB4.out).mono ?_
  rintro e w5 ⟨g5, he, _, hheap, hwf, hB5⟩
  rw [HSL.out] at he
  subst he
  have hI5 := whole_ints hheap hwf (by rw [HSL.out]; unfold maxLen; omega)
  rw [HSL.out] at hI5
  have HI5 := Lib.hid hI5
  have HI5b := Lib.hid (And.intro ((HI4.out.1.kept hB5 (Nat.le_refl _)).mono hB5.size) ((HI4.out.2.kept hB5 (Nat.le_refl _)).mono hB5.size))
  have HB5 := Lib.hid (HB4.out.trans (hB5.mono HB4.out.size))
  clear hI5 hheap hwf hB5 HI4 HB4
  go_wp2_with fail
  refine (HRS.out _ HB5.out).mono ?_
  rintro e w6 ⟨v, rfl, hg, hB6⟩
  obtain ⟨a6, c6, b6, rfl, hc1, hc2, hb6, HI⟩ := hg.ints rfl (seal_wf HWF.out)
  rw [HSL.out] at HI ⊢
  have HS1 := Lib.hid (same_yes ((HI5.out.kept hB6 (Nat.le_refl _)).mono hB6.size) HI sl c6)
  have HS2 := Lib.hid (same_yes ((HI5b.out.2.kept hB6 (Nat.le_refl _)).mono hB6.size) ((HI5b.out.1.kept hB6 (Nat.le_refl _)).mono hB6.size) c3 c4)
  have HB6 := Lib.hid (HB5.out.trans (hB6.mono HB5.out.size))
  clear hg hB6 hc1 hc2 hb6 HI HI5 HI5b HB5
  go_wp2_with fail
  refine HS1.out.mono ?_
  rintro e w7 ⟨rfl, rfl⟩
  go_wp2_with fail
  refine HS2.out.mono ?_
  rintro e w7 ⟨rfl, rfl⟩
  go_wp2
  go_ret
  exact ⟨rfl, HB6.out⟩
end Go.Proofs.Ytlnocekiaffbpaa
