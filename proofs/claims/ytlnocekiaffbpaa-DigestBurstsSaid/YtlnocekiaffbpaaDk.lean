/- The walk of DigestBursts. -/
import Derived.Test.YtlnocekiaffbpaaDj
import Derived.Test.YtlnocekiaffbpaaBm
import Derived.RegionTactic
set_option linter.unusedVariables false
namespace Go.Proofs.Ytlnocekiaffbpaa
open Go.RowKit

theorem and_64k (n : Int) : bits .and .i64 n 65535 = n % 65536 := by
  have h511 : (BitVec.ofInt 64 65535).toNat = 2 ^ 16 - 1 := by decide
  have key : (BitVec.ofInt 64 n &&& BitVec.ofInt 64 65535).toNat = (n % ((2 ^ 64 : Nat) : Int)).toNat % 2 ^ 16 := by
    rw [BitVec.toNat_and, BitVec.toNat_ofInt, h511, Nat.and_two_pow_sub_one_eq_mod]
  show IntKind.i64.wrap ((BitVec.ofInt 64 n &&& BitVec.ofInt 64 65535).toNat : Nat) = n % 65536
  rw [key, IntKind.wrap_i64]
  omega
theorem pow_mod8 (r : Nat) (hr : r < 8) : (2 : Int) ^ r % 256 = ((2 ^ r : Nat) : Int) := by
  have h : ∀ a : Fin 8, (2 : Int) ^ a.val % 256 = ((2 ^ a.val : Nat) : Int) := by decide
  exact h ⟨r, hr⟩
theorem ivals_set (ms : List Int) (d : Nat) (y : Int) : (ivals .u8 ms).toArray.setIfInBounds d (.int .u8 y) = (ivals .u8 (ms.set d y)).toArray := by
  unfold ivals
  rw [List.map_set, List.setIfInBounds_toArray]
set_option maxRecDepth 100000 in
set_option maxHeartbeats 2000000 in
theorem walk_DigestBursts (a0 : Option Addr) (len0 cap0 : Nat) (z0 : List Int) (a1 a2 : Int) (w : World) (w0 : IsRow .u8 w a0 len0 cap0 z0) (w1 : (Lit.int .i64 a1).wf = true) (w2 : (Lit.int .u32 a2).wf = true) :
    Calls Try.prog 9 #[.slice a0 len0 cap0, .int .i64 a1, .int .u32 a2] w fun e w' => e = .returned (.bool true) ∧ Below w.heap.size w w' := by
  have hcap := w0.cap
  have hnil : a0 = none → len0 = 0 ∧ cap0 = 0 := by intro h; subst h; exact w0.nil
  obtain ⟨b, off, hi⟩ := w0.ints
  have hsm := hi.small
  have ht2 := bounds_u32 w2
  obtain ⟨turn, rfl⟩ : ∃ turn : Nat, a2 = (turn : Int) := ⟨a2.toNat, by omega⟩
  have htl : turn < 4294967296 := by omega
  unfold maxLen at hsm
  clear w0 w2 w1 ht2
  have hl := hi.length
  generalize z0.take len0 = z at *
  have HL := Lib.hid hl
  have HI := Lib.hid (fun W (hb : Below w.heap.size w W) => (hi.kept hb (Nat.le_refl _)).mono hb.size)
  have HWF := Lib.hid hi.fits
  by_cases h300 : 300 < len0
  · clear hl hi
    go_enter Try.func9, Try.ntmps9
    go_wp2_with fail
    refine (dalive_any _).mono ?_
    rintro e w2 ⟨rfl, hB⟩
    have HB2 := Lib.hid hB
    clear hB
    go_wp2
    go_ret
    exact ⟨rfl, HB2.out⟩
  have HS : Hid (∀ W, Below w.heap.size w W → Calls Try.prog 48 #[.slice a0 len0 cap0] W (WholePost W (sealI z))) := Lib.hid (fun W hb => by
    have := seal_any z W.heap.size a0 b off cap0 W (by rw [hl]; exact HI.out W hb) (by rw [hl]; exact hnil) (Nat.le_refl _) (by omega)
    rw [hl] at this; exact this)
  have hs1 : (sealI z).length = len0 + 4 := by rw [sealI_length, hl]
  have HSL := Lib.hid hs1
  have HWS := Lib.hid (seal_wf HWF.out)
  have HU := Lib.hid (unseal_seal z HWF.out)
  obtain ⟨at0, hat⟩ : ∃ at0 : Nat, a1 % 65536 % (8 * (len0 : Int) + 1) = (at0 : Int) := ⟨(a1 % 65536 % (8 * (len0 : Int) + 1)).toNat, by have := Int.emod_nonneg (a1 % 65536) (show (8 * (len0 : Int) + 1) ≠ 0 by omega); omega⟩
  have hat2 : at0 ≤ 8 * len0 := by have := Int.emod_lt_of_pos (a1 % 65536) (show (0 : Int) < 8 * (len0 : Int) + 1 by omega); omega
  have hand := and_64k a1
  clear hl hi hs1
  go_enter Try.func9, Try.ntmps9
  go_wp2_with fail
  refine (dalive_any _).mono ?_
  rintro e w2 ⟨rfl, hB⟩
  have HB2 := Lib.hid hB
  clear hB
  go_wp2_with fail
  refine (HS.out _ HB2.out).mono ?_
  rintro e w3 ⟨g, he, hg, hheap, hwf, hB3⟩
  rw [HSL.out] at he
  subst he
  have HB3 := Lib.hid (HB2.out.trans (hB3.mono HB2.out.size))
  have HH3 := Lib.hid hheap
  have HG : Hid (w.heap.size ≤ g) := Lib.hid (Nat.le_trans HB2.out.size hg)
  have hI3 := whole_ints hheap hwf (by rw [HSL.out]; unfold maxLen; omega)
  have hU := unseal_any (sealI z) w3.heap.size _ g 0 (len0 + 4) w3 hI3 (fun e => by cases e) (by rw [HSL.out]; omega)
  rw [HSL.out] at hU
  have HU3 := Lib.hid hU
  clear hg hheap hwf hB3 hI3 hU HB2
  go_wp2_with fail
  refine HU3.out.mono ?_
  rintro e w4 ⟨ax, bx, cx, he, hcx, hnx, hIx, hbx, _, hB4⟩
  rw [HU.out.1, HU.out.2] at he
  rw [HU.out.2] at hIx
  rw [HL.out] at he hIx
  have he2 : e = .returned (.tuple #[.slice ax len0 cx, .int .i64 0]) := he
  subst he2
  have HB4 := Lib.hid (HB3.out.trans (hB4.mono HB3.out.size))
  have HH4 := Lib.hid (heap_below HH3.out hB4 (heap_lt HH3.out))
  have HSA := Lib.hid (same_yes hIx (HI.out _ HB4.out) cx cap0)
  clear he hcx hnx hIx hbx hB4 HB3 HH3 HU3
  go_wp2_with fail
  refine HSA.out.mono ?_
  rintro e w5 ⟨rfl, rfl⟩
  clear HSA
  go_wp2
  go_loopw [48] (fun i wr => ∃ (k : Nat) (ms : List Int), k ≤ 32 ∧ i = .int .i64 k ∧ Hid (wr.heap[g]? = some (.cells (ivals .u8 ms).toArray 5 (0, 0))) ∧ Hid (ms.length = len0 + 4 ∧ (∀ x ∈ ms, (Lit.int .u8 x).wf = true) ∧ ∀ i, bitAt (nats ms) i = (bitAt (nats (sealI z)) i ^^ burstK at0 turn k i)) ∧ Hid (Below w.heap.size w wr)) (fun i _ => 32 - (intOf i).toNat)
  case atStart => exact ⟨0, sealI z, by omega, rfl, HH4, Lib.hid ⟨HSL.out, HWS.out, fun i => by rw [burstK_zero, Bool.xor_false]⟩, HB4⟩
  case round =>
    obtain ⟨k, ms, hk, rfl, hh, hms, hB⟩ := hrel
    by_cases hlt : k < 32
    · obtain ⟨q, hq⟩ : ∃ q, at0 + k = q := ⟨_, rfl⟩
      have hql : q / 8 < len0 + 4 := by omega
      obtain ⟨d, hd⟩ : ∃ d, q / 8 = d := ⟨_, rfl⟩
      obtain ⟨r, hr⟩ : ∃ r, q % 8 = r := ⟨_, rfl⟩
      rw [hd] at hql
      have hr8 : r < 8 := by omega
      have HMW := hms.out.2.1
      have hdm : d < ms.length := by rw [hms.out.1]; exact hql
      obtain ⟨x, hx⟩ : ∃ x : Nat, ms.getD d 0 = (x : Int) := ⟨(ms.getD d 0).toNat, by have := bounds_u8 (HMW (ms.getD d 0) (by simp [List.getD, hdm])); omega⟩
      have hx8 : x < 256 := by have := bounds_u8 (HMW (ms.getD d 0) (by simp [List.getD, hdm])); omega
      have hcell : wr.cell? ⟨g, d, none⟩ = some (.int .u8 x) := heap_cell hh.out (by
        unfold ivals
        rw [List.getElem?_toArray, List.getElem?_map, List.getElem?_eq_getElem hdm]
        rw [← hx]
        simp [List.getD, hdm])
      have hfz := heap_frozen hh.out d
      have hblk := heap_lt hh.out
      have hb : (bits .and .u32 ((turn : Int) / 2 ^ k) 1 == 1) = turn.testBit k := by
        have h1 := and1_u32 (turn / 2 ^ k) (Nat.lt_of_le_of_lt (Nat.div_le_self _ _) htl)
        have h2 : (turn : Int) / 2 ^ k = ((turn / 2 ^ k : Nat) : Int) := by rw [Int.natCast_ediv]; simp
        rw [h2, h1, Nat.testBit_eq_decide_div_mod_eq]
        by_cases h3 : turn / 2 ^ k % 2 = 1
        · rw [h3]; simp
        · rw [show turn / 2 ^ k % 2 = 0 by omega]; simp
      have HX := Lib.hid (And.intro hx (And.intro hd (And.intro hr hq)))
      have e1 : IntKind.i64.wrap ((at0 : Int) + (k : Int)) = (q : Int) := by rw [IntWalk.i64_in _ (by omega)]; omega
      have e2 : (q : Int).tdiv 8 = (d : Int) := by rw [Int.tdiv_eq_ediv_of_nonneg (by omega)]; omega
      have e3 : (q : Int).tmod 8 = (r : Int) := by rw [Int.tmod_eq_emod_of_nonneg (by omega)]; omega
      have hx9 : bits .xor .u8 (x : Int) (2 ^ r % 256) = ((x ^^^ 2 ^ r : Nat) : Int) := by
        have h2 : 2 ^ r < 2 ^ 8 := Nat.pow_lt_pow_right (by decide) hr8
        rw [pow_mod8 r hr8]
        exact xor_u8 x (2 ^ r) hx8 (by omega)
      have HNEW : Hid ((ms.set d ((x ^^^ 2 ^ r : Nat) : Int)) = turnI ms q) := Lib.hid (by unfold turnI; rw [hd, hr, hx, Int.toNat_natCast])
      have HQ8 : Hid (q < 8 * ms.length ∧ q / 8 < ms.length) := Lib.hid (by rw [hms.out.1]; omega)
      cases htb : turn.testBit k with
      | true =>
        rw [htb] at hb
        have HTB := Lib.hid htb
        generalize x ^^^ 2 ^ r = y at *
        clear hx hd hr hq HMW hdm htb
        go_wp2
        go_region
        all_goals
          go_wp2
          go_roundw
          case rel =>
            refine ⟨k + 1, turnI ms q, by omega, by go_num, Lib.hid ?_, Lib.hid ⟨by rw [turnI_length]; exact hms.out.1, turnI_wf hms.out.2.1 q HQ8.out.2, fun i => ?_⟩, Lib.hid (hB.out.setCell HG.out _).drew⟩
            · have h1 := heap_set hh.out d (.int .u8 (y : Int))
              rw [ivals_set, HNEW.out] at h1
              exact h1
            · rw [turnI_nats ms q HQ8.out.1, hms.out.2.2 i, burstK_succ, HTB.out, Bool.and_true, HX.out.2.2.2, Bool.xor_assoc]
          case measure => simp [intOf]; omega
      | false =>
        rw [htb] at hb
        have HTB := Lib.hid htb
        clear hx hd hr hq HMW hdm htb hx9
        go_wp2
        go_roundw
        case rel => exact ⟨k + 1, ms, by omega, by go_num, hh, Lib.hid ⟨hms.out.1, hms.out.2.1, fun i => by rw [hms.out.2.2 i, burstK_succ, HTB.out, Bool.and_false, Bool.xor_false]⟩, hB⟩
        case measure => simp [intOf]; omega
    · obtain rfl : k = 32 := by omega
      have HE : Hid (turn ≠ 0 → unsealE ms = 44) := Lib.hid (fun h0 => turned_found (sealI z) ms at0 turn HWS.out hms.out.2.1 (by rw [hms.out.1, HSL.out]) (by rw [HSL.out]; omega) htl h0 hms.out.2.2 HU.out.1 (by rw [HSL.out]; omega))
      have hI := whole_ints hh.out hms.out.2.1 (by rw [hms.out.1]; unfold maxLen; omega)
      have hU := unseal_any ms wr.heap.size _ g 0 (len0 + 4) wr hI (fun e => by cases e) (by rw [hms.out.1]; omega)
      rw [hms.out.1] at hU
      have HU5 := Lib.hid hU
      obtain ⟨ue, hue⟩ : ∃ ue, unsealE ms = ue := ⟨_, rfl⟩
      rw [hue] at HE
      have HUE := Lib.hid hue
      clear hI hU hue hh
      go_wp2_with fail
      refine HU5.out.mono ?_
      rintro e w6 ⟨aa, ba, ca, he, _, _, _, _, _, hB6⟩
      rw [HUE.out] at he
      subst he
      have HB6 := Lib.hid (hB.out.trans (hB6.mono hB.out.size))
      clear hB6 HU5
      by_cases h0 : turn = 0
      · subst h0
        go_wp2
        go_ret
        exact ⟨rfl, HB6.out⟩
      · obtain rfl := HE.out h0
        have h1 : ((turn : Int) == 0) = false := by simp; omega
        go_wp2
        go_ret
        exact ⟨rfl, HB6.out⟩
end Go.Proofs.Ytlnocekiaffbpaa
