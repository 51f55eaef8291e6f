/- Contracts of the reference for layer 4: sealed, unsealed; the same bytes or not. -/
import Derived.Test.YtnkhpmpoemodiaaDe
import Derived.Test.YtnkhpmpoemodiaaJp
set_option linter.unusedVariables false
namespace Go.Proofs.Ytnkhpmpoemodiaa
open Go.RowKit

theorem strI_nums (zs : List Int) (h : ∀ x ∈ zs, (Lit.int .u8 x).wf = true) : strI (strOfNums zs) = zs := by
  unfold strI
  rw [strOfNums_data, List.map_map]
  conv => rhs; rw [← List.map_id zs]
  apply List.map_congr_left
  intro x hx
  have hb := bounds_u8 (h x hx)
  simp only [Function.comp, id]
  rw [UInt8.toNat_ofNat']
  omega
theorem nums_eq {zs zs' : List Int} (h : ∀ x ∈ zs, (Lit.int .u8 x).wf = true) (h' : ∀ x ∈ zs', (Lit.int .u8 x).wf = true) : strOfNums zs = strOfNums zs' ↔ zs = zs' :=
  ⟨fun e => by rw [← strI_nums zs h, ← strI_nums zs' h', e], fun e => by rw [e]⟩
theorem same_any {B B' : Nat} {w : World} {a a' : Option Addr} {b off b' off' len len' : Nat} {zs zs' : List Int} (h : IntsAt .u8 B w a b off len zs) (h' : IntsAt .u8 B' w a' b' off' len' zs') (cap cap' : Nat) :
    Calls Try.prog 24 #[.slice a len cap, .slice a' len' cap'] w fun e w' => e = .returned (.bool (decide (zs = zs'))) ∧ w = w' := by
  have h1 := conv_ints h cap
  have h2 := conv_ints h' cap'
  have he : ((strOfNums zs).toList == (strOfNums zs').toList) = decide (zs = zs') := by
    rw [str_eq]
    exact decide_eq_decide.2 (nums_eq h.fits h'.fits)
  clear h h'
  generalize strOfNums zs = S at *
  generalize strOfNums zs' = S' at *
  generalize decide (zs = zs') = d at *
  cases d
  all_goals
    go_enter Try.func24, Try.ntmps24
    go_wp2
    go_ret
    first
      | exact ⟨rfl, rfl⟩
      | (refine ⟨?_, rfl⟩; rw [← he]; rfl)

theorem rseal_any (zs : List Int) (a : Option Addr) (b off cap : Nat) (w : World) (hi : IntsAt .u8 w.heap.size w a b off zs.length zs) (h0 : a = none → zs.length = 0 ∧ cap = 0) (hc : zs.length ≤ cap) (hz : zs.length ≤ 60000) :
    Calls Try.prog 64 #[.slice a zs.length cap] w (BytesPost w (sealI zs)) := by
  have HM : Hid (Calls Try.prog 63 #[.int .u32 3988292384, .int .u32 0, .slice a zs.length cap] w fun e w' => e = .returned (.int .u32 (moreF usual 0 zs)) ∧ w = w') := Lib.hid (rmore_any usual usual_lt 0 (by decide) zs _ a b off zs.length cap w hi)
  have HP := Lib.hid (show PcAt w ⟨a, cap, b, off, zs⟩ from ⟨hi, h0, hc⟩)
  obtain ⟨len, hlen⟩ : ∃ len, zs.length = len := ⟨_, rfl⟩
  have HL := Lib.hid hlen
  rw [hlen] at HM hz ⊢
  have hml := moreF_lt usual 0 zs
  clear hi h0 hc hlen
  generalize hsm : moreF usual 0 zs = sm at *
  have HE0 : Hid (sealI zs = zs ++ fixF (sm : Int)) := Lib.hid (by unfold sealI; rw [hsm])
  clear hsm
  go_enter Try.func64, Try.ntmps64
  go_wp2_with fail
  refine HM.out.mono ?_
  rintro e w2 ⟨rfl, rfl⟩
  go_wp2_with fail
  refine (rfix3_any (sm : Int) w (by omega) (by omega)).mono ?_
  rintro e w3 ⟨v, rfl, hg, hB⟩
  obtain ⟨a5, cap5, b5, rfl, hc1, hc2, hb5, HI⟩ := hg.ints rfl (fixF_wf _)
  have hnil5 : a5 = none → (fixF (sm : Int)).length = 0 ∧ cap5 = 0 := fun e => by
    have h1 := HI.addr.resolve_left (by rw [fixF_length]; decide)
    rw [e] at h1; cases h1
  have HQ : Hid (PcAt w3 ⟨a5, cap5, b5, 0, fixF (sm : Int)⟩) := ⟨HI, hnil5, hc1⟩
  have HP3 := Lib.hid (HP.out.kept hB)
  have HB3 := Lib.hid hB
  rw [fixF_length] at hc1 ⊢
  have HJ := Lib.hid (join2_any w3 w3.heap.size len 4 _ _ HP3.out HQ.out HL.out (fixF_length _) rfl (by omega) (by omega))
  clear hg hb5 HI hnil5 hB hc2
  go_wp2_with fail
  refine HJ.out.mono ?_
  rintro e w4 ⟨v, rfl, hg, hB⟩
  have HE : Hid (BytesPost w (sealI zs) (.returned v) w4) := Lib.hid (by rw [HE0.out]; exact ⟨v, rfl, gath_base hg HB3.out.size, HB3.out.trans (hB.mono HB3.out.size)⟩)
  clear hg hB
  go_wp2
  go_ret
  exact HE.out

/-- What stands behind is the sum just if all of it is sealed. -/
theorem word_iff (l : List Int) (hl : l.length = 4) (hw : ∀ x ∈ l, (Lit.int .u8 x).wf = true) (n : Nat) (hn : n < 4294967296) : wordK l 4 = (n : Int) ↔ fixF (n : Int) = l := by
  match l, hl with
  | [a, b, c, d], _ =>
  have ha := bounds_u8 (hw a (by simp))
  have hb := bounds_u8 (hw b (by simp))
  have hc := bounds_u8 (hw c (by simp))
  have hd := bounds_u8 (hw d (by simp))
  simp only [wordK, fixF, List.getD_cons_zero, List.getD_cons_succ, List.cons.injEq, and_true]
  constructor
  · intro h
    refine ⟨?_, ?_, ?_, ?_⟩ <;> omega
  · rintro ⟨h1, h2, h3, h4⟩
    omega
theorem seal_iff (zs : List Int) (hw : ∀ x ∈ zs, (Lit.int .u8 x).wf = true) (h4 : 4 ≤ zs.length) : sealI (zs.take (zs.length - 4)) = zs ↔ unsealE zs = 0 := by
  have h1 : zs = zs.take (zs.length - 4) ++ zs.drop (zs.length - 4) := (List.take_append_drop _ _).symm
  have hwd : ∀ x ∈ zs.drop (zs.length - 4), (Lit.int .u8 x).wf = true := fun x hx => hw x (List.mem_of_mem_drop hx)
  have hi := word_iff (zs.drop (zs.length - 4)) (by rw [List.length_drop]; omega) hwd (moreF usual 0 (zs.take (zs.length - 4))) (moreF_lt _ _ _)
  have hu : unsealE zs = 0 ↔ wordK (zs.drop (zs.length - 4)) 4 = ((moreF usual 0 (zs.take (zs.length - 4)) : Nat) : Int) := by
    unfold unsealE
    rw [if_neg (by omega)]
    by_cases h : wordK (zs.drop (zs.length - 4)) 4 = ((moreF usual 0 (zs.take (zs.length - 4)) : Nat) : Int)
    · rw [if_pos h]; exact ⟨fun _ => h, fun _ => rfl⟩
    · rw [if_neg h]; exact ⟨fun e => absurd e (by decide), fun e => absurd e h⟩
  rw [hu, hi]
  unfold sealI
  constructor
  · intro h
    have h2 : zs.take (zs.length - 4) ++ fixF ((moreF usual 0 (zs.take (zs.length - 4)) : Nat) : Int) = zs.take (zs.length - 4) ++ zs.drop (zs.length - 4) := by rw [h]; exact h1
    exact List.append_cancel_left h2
  · intro h
    rw [h]; exact h1.symm
def RUnsealPost (w : World) (zs : List Int) (e : Ending) (w' : World) : Prop :=
  ∃ a b off cap, e = .returned (.tuple #[.slice a (unsealB zs).length cap, .int .i64 (unsealE zs)]) ∧ IntsAt .u8 w'.heap.size w' a b off (unsealB zs).length (unsealB zs) ∧ Below w.heap.size w w'
theorem runseal_bad (zs : List Int) (w w' : World) (n : Nat) (hn : unsealE zs = n) (h0 : n ≠ 0) (hB : Below w.heap.size w w') : RUnsealPost w zs (.returned (.tuple #[.slice none 0 0, .int .i64 n])) w' := by
  have e : unsealB zs = [] := by unfold unsealB; rw [if_neg (by rw [hn]; exact h0)]
  refine ⟨none, 0, 0, 0, ?_, ?_, hB⟩ <;> rw [e]
  · rw [hn]; rfl
  · exact no_ints _ _
theorem runseal_any (zs : List Int) (a : Option Addr) (b off cap : Nat) (w : World) (hi : IntsAt .u8 w.heap.size w a b off zs.length zs) (h0 : a = none → zs.length = 0 ∧ cap = 0) (hc : zs.length ≤ cap) (hz : zs.length ≤ 60000) :
    Calls Try.prog 71 #[.slice a zs.length cap] w (RUnsealPost w zs) := by
  have hwf := hi.fits
  have H := Lib.hid (And.intro hi (And.intro h0 hc))
  obtain ⟨len, hlen⟩ : ∃ len, zs.length = len := ⟨_, rfl⟩
  have HL := Lib.hid hlen
  rw [hlen] at hz hc ⊢
  by_cases hs : len < 4
  · have HE : Hid (unsealE zs = 20) := Lib.hid (by unfold unsealE; rw [if_pos (by rw [hlen]; exact hs)])
    clear hi h0 hwf hlen
    go_enter Try.func71, Try.ntmps71
    go_wp2
    go_ret2
    exact runseal_bad zs w w 20 HE.out (by decide) (Below.refl _ _)
  · have hl4 : (zs.take (len - 4)).length = len - 4 := by rw [List.length_take]; omega
    have hn0 : a ≠ none := fun e => by have := (h0 e).1; omega
    have HSL := rseal_any (zs.take (len - 4)) a b off cap w (by have := hi.take (len - 4) (by omega); rw [hl4]; exact this) (fun e => absurd e hn0) (by omega) (by omega)
    rw [hl4] at HSL
    have HIF := Lib.hid (seal_iff zs hwf (by omega))
    have HIF2 : Hid (sealI (zs.take (len - 4)) = zs ↔ unsealE zs = 0) := Lib.hid (by have := HIF.out; rw [hlen] at this; exact this)
    have HUB : Hid (unsealE zs = 0 → unsealB zs = zs.take (len - 4)) := Lib.hid (fun e => by unfold unsealB; rw [if_pos e, hlen])
    have HUE : Hid (unsealE zs = 0 ∨ unsealE zs = 44) := Lib.hid (by
      unfold unsealE
      rw [if_neg (by omega)]
      by_cases h : wordK (zs.drop (zs.length - 4)) 4 = ((moreF usual 0 (zs.take (zs.length - 4)) : Nat) : Int)
      · rw [if_pos h]; exact .inl rfl
      · rw [if_neg h]; exact .inr rfl)
    have HSW : Hid (∀ x ∈ sealI (zs.take (len - 4)), (Lit.int .u8 x).wf = true) := Lib.hid (fun x hx => by
      unfold sealI at hx
      rcases List.mem_append.1 hx with h | h
      · exact hwf x (List.mem_of_mem_take h)
      · exact fixF_wf _ x h)
    have HSLL : Hid ((sealI (zs.take (len - 4))).length = len) := Lib.hid (by rw [sealI_length, hl4]; omega)
    have HS := Lib.hid HSL
    have HT4 := Lib.hid hl4
    obtain ⟨m, hm⟩ : ∃ m : Nat, len - 4 = m := ⟨_, rfl⟩
    rw [hm] at HS HIF2 HUB HSW HSLL HT4
    have hm2 : (len : Int) - 4 = (m : Int) := by omega
    have hml : m ≤ len := by omega
    generalize sealI (zs.take m) = sl at *
    clear HSL hl4 hi h0 hn0 hwf hlen HIF hm
    go_enter Try.func71, Try.ntmps71
    go_wp2_with fail
    refine HS.out.mono ?_
    rintro e w2 ⟨v, rfl, hg, hB⟩
    obtain ⟨a5, cap5, b5, rfl, hc1, hc2, hb5, HI⟩ := hg.ints rfl HSW.out
    have hi2 := (H.out.1.kept hB (Nat.le_refl _)).mono hB.size
    rw [HL.out] at hi2
    rw [HSLL.out] at HI hc1 ⊢
    have HSAME := Lib.hid (same_any HI hi2 cap5 cap)
    have HB2 := Lib.hid hB
    have HI2 := Lib.hid hi2
    clear hg HI hi2 hB hb5 hc2
    go_wp2_with fail
    refine HSAME.out.mono ?_
    rintro e w3 ⟨rfl, rfl⟩
    by_cases hq : sl = zs
    · have hd : decide (sl = zs) = true := decide_eq_true hq
      have hu := HIF2.out.1 hq
      rw [hd]
      have HU := Lib.hid hu
      clear hq hd hu HSAME
      go_wp2
      go_ret2
      have e := HUB.out HU.out
      refine ⟨a, b, off, cap, ?_, ?_, HB2.out⟩
      · rw [e, HU.out, HT4.out]; rfl
      · rw [e, HT4.out]; exact HI2.out.take m hml
    · have hd : decide (sl = zs) = false := decide_eq_false hq
      have hu : unsealE zs = 44 := HUE.out.resolve_left (fun h => hq (HIF2.out.2 h))
      rw [hd]
      have HU := Lib.hid hu
      clear hq hd hu HSAME
      go_wp2
      go_ret2
      exact runseal_bad zs w w2 44 HU.out (by decide) HB2.out
end Go.Proofs.Ytnkhpmpoemodiaa
