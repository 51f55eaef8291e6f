/- The walk of SectionBack: what is packed is unpacked; a burst is found; what is unpacked is packed. -/
import Derived.Test.YtnkhpmpoemodiaaSeN
import Derived.Test.YtnkhpmpoemodiaaDj
import Derived.RegionTactic
set_option linter.unusedVariables false
set_option linter.unusedSectionVars false
set_option linter.unusedSimpArgs false
namespace Go.Proofs.Ytnkhpmpoemodiaa.Se
open Go.RowKit Go.Shelf

theorem pack_small (M : List SecM) (hl : M.length ≤ 300) (h : ∀ x ∈ M, x.body.length ≤ 100) : (packI M).length ≤ 40000 := by
  unfold packI
  split
  · rw [sealI_length]
    unfold innerI
    simp only [List.length_append]
    have h1 := heads_len M
    have h2 := bodies_len M h
    have h3 := putF_len M.length
    have h4 : signI.length = 4 := rfl
    omega
  · simp
theorem and_24 (n : Int) : bits .and .i64 n 16777215 = n % 16777216 := by
  have h511 : (BitVec.ofInt 64 16777215).toNat = 2 ^ 24 - 1 := by decide
  have key : (BitVec.ofInt 64 n &&& BitVec.ofInt 64 16777215).toNat = (n % ((2 ^ 64 : Nat) : Int)).toNat % 2 ^ 24 := by
    rw [BitVec.toNat_and, BitVec.toNat_ofInt, h511, Nat.and_two_pow_sub_one_eq_mod]
  show IntKind.i64.wrap ((BitVec.ofInt 64 n &&& BitVec.ofInt 64 16777215).toNat : Nat) = n % 16777216
  rw [key, IntKind.wrap_i64]
  omega
theorem pow_mod8 (r : Nat) (hr : r < 8) : (2 : Int) ^ r % 256 = ((2 ^ r : Nat) : Int) := by
  have h : ∀ a : Fin 8, (2 : Int) ^ a.val % 256 = ((2 ^ a.val : Nat) : Int) := by decide
  exact h ⟨r, hr⟩
theorem ivals_set (ms : List Int) (d : Nat) (y : Int) : (ivals .u8 ms).toArray.setIfInBounds d (.int .u8 y) = (ivals .u8 (ms.set d y)).toArray := by
  unfold ivals
  rw [List.map_set, List.setIfInBounds_toArray]
set_option maxRecDepth 100000 in
set_option maxHeartbeats 4000000 in
theorem walk_SectionBack (a : Option Addr) (len cap : Nat) (L : List SecV) (a1 : Option Addr) (len1 cap1 : Nat) (z1 : List Int) (at3 t4 : Int) (w : World) (hi : IsSecs w a len cap L) (hi1 : IsRow .u8 w a1 len1 cap1 z1) (w3 : (Lit.int .i64 at3).wf = true) (w4 : (Lit.int .u32 t4).wf = true) :
    Calls Try.prog 9 #[.slice a len cap, .slice a1 len1 cap1, .int .i64 at3, .int .u32 t4] w fun e w' => e = .returned (.bool true) ∧ Below w.heap.size w w' := by
  obtain ⟨b, off, hs⟩ := hi
  obtain ⟨b1, off1, hs1⟩ := hi1.ints
  have hn1 : a1 = none → len1 = 0 ∧ cap1 = 0 := fun e => by subst e; exact hi1.nil
  have ht2 := bounds_u32 w4
  obtain ⟨turn, rfl⟩ : ∃ turn : Nat, t4 = (turn : Int) := ⟨t4.toNat, by omega⟩
  have htl : turn < 4294967296 := by omega
  have HS := Lib.hid hs
  have hsm := hs.rows.small
  have hsm1 := hs1.small
  unfold maxLen at hsm hsm1
  obtain ⟨zb, hzb⟩ : ∃ zb, z1.take len1 = zb := ⟨_, rfl⟩
  rw [hzb] at hs1
  have HS1 := Lib.hid (And.intro hs1 hn1)
  have HAl := Lib.hid (alive_any w)
  clear hs hs1 hn1 hi1 hzb w3 w4 ht2
  go_enter Try.func9, Try.ntmps9
  go_wp2_with fail
  refine HAl.out.mono ?_
  rintro e w1 ⟨rfl, hb1⟩
  have HB1 := Lib.hid hb1
  have HFw := Lib.hid (few_any (HS.out.on hb1))
  obtain ⟨fw, hfw⟩ : ∃ fw, fewB (secsM L) = fw := ⟨_, rfl⟩
  rw [hfw] at HFw
  have HFE := Lib.hid hfw
  clear hb1 HAl hfw
  go_wp2_with fail
  refine HFw.out.mono ?_
  rintro e w2 ⟨rfl, hb2⟩
  have HB2 : Hid (Below w.heap.size w w2) := Lib.hid (HB1.out.trans (hb2.mono HB1.out.size))
  clear hb2 HB1 HFw
  cases fw with
  | false =>
    go_wp2
    go_ret
    exact ⟨rfl, HB2.out⟩
  | true =>
    by_cases h600 : 600 < len1
    · have h600i : (600 : Int) < (len1 : Int) := by omega
      go_wp2
      go_ret
      exact ⟨rfl, HB2.out⟩
    · have h600i : ¬ (600 : Int) < (len1 : Int) := by omega
      have HIn : Hid (In1 w a len cap L b off) := Lib.hid (in1_of HS.out HFE.out)
      have hl300 := HIn.out.len3
      have HI1 : Hid (IntsAt .u8 w.heap.size w a1 b1 off1 zb.length zb ∧ (a1 = none → zb.length = 0 ∧ cap1 = 0) ∧ zb.length ≤ 600 ∧ zb.length = len1 ∧ ∀ x ∈ zb, (Lit.int .u8 x).wf = true) := Lib.hid (by
        have hl := HS1.out.1.length
        rw [hl]
        exact ⟨HS1.out.1, HS1.out.2, by omega, rfl, HS1.out.1.fits⟩)
      clear HS HS1 HFE
      by_cases hE : packE (secsM L) = 0
      · obtain ⟨N, hN⟩ : ∃ N, (packI (secsM L)).length = N := ⟨_, rfl⟩
        have HPk := Lib.hid (pack_good (HIn.out.on HB2.out).at_ (by omega) HIn.out.few hE hN)
        have hN40 : N ≤ 40000 := by rw [← hN]; exact pack_small _ (by rw [HIn.out.ml]; exact hl300) HIn.out.small
        have HEA := Lib.hid (And.intro hE hN)
        have h4N : 4 ≤ N := by
          rw [← hN]
          unfold packI
          rw [if_pos hE, sealI_length]
          omega
        clear hE hN
        go_wp2_with fail
        refine HPk.out.mono ?_
        rintro e w3 ⟨g, rfl, HQ3⟩
        have HB3 : Hid (Below w.heap.size w w3 ∧ w.heap.size ≤ g) := Lib.hid ⟨HB2.out.trans (HQ3.out.1.mono HB2.out.size), Nat.le_trans HB2.out.size HQ3.out.2.1⟩
        have hsml : ∀ x ∈ secsM L, x.body.length ≤ 60000 := fun x hx => by have := HIn.out.small x hx; omega
        have HU3 : Hid (Calls Try.prog 39 #[.slice (some ⟨g, 0, none⟩) N N] w3 (UnG len (secsM L) w3)) := Lib.hid (unpack_good (zs := packI (secsM L)) (whole_ints HQ3.out.2.2.1 HQ3.out.2.2.2.1 (by rw [HEA.out.2]; unfold maxLen; omega)) (fun e => by cases e) (by rw [HEA.out.2]; omega) (pack_back _ HEA.out.1 hsml).1 (pack_back _ HEA.out.1 hsml).2 HIn.out.ml HEA.out.2)
        clear hsml HPk HB2
        go_wp2_with fail
        refine HU3.out.mono ?_
        rintro e w4 ⟨a4, c4, V4, rfl, HQ4⟩
        obtain ⟨b4, o4, hV4⟩ := HQ4.out.1
        have HB4 : Hid (Below w.heap.size w w4 ∧ w4.heap[g]? = some (.cells (ivals .u8 (packI (secsM L))).toArray 5 (0, 0))) := Lib.hid ⟨HB3.out.1.trans (HQ4.out.2.2.mono HB3.out.1.size), heap_below HQ3.out.2.2.1 HQ4.out.2.2 (heap_lt HQ3.out.2.2.1)⟩
        have HV4 := Lib.hid (And.intro hV4 HQ4.out.2.1)
        have HWF := Lib.hid HQ3.out.2.2.2.1
        have HA1 := Lib.hid (as_any (cap := c4) hV4.rows (by omega))
        have hvl := hV4.rows.length
        have HVL := Lib.hid hvl
        clear hV4 HQ4 HQ3 HU3 hvl
        go_wp2_with fail
        refine HA1.out.mono ?_
        rintro e w5 ⟨a5, b5, c5, rfl, HQ5⟩
        rw [HVL.out] at HQ5 ⊢
        have HB5 : Hid (Below w.heap.size w w5) := Lib.hid (HB4.out.1.trans (HQ5.out.2.mono HB4.out.1.size))
        have HA2 := Lib.hid (as_any (cap := cap) (HIn.out.on HB5.out).at_.rows (by omega))
        clear HA1
        go_wp2_with fail
        refine HA2.out.mono ?_
        rintro e w6 ⟨a6, b6, c6, rfl, HQ6⟩
        have hll := HIn.out.at_.rows.length
        rw [hll] at HQ6 ⊢
        have HB6 : Hid (Below w.heap.size w w6 ∧ Below w4.heap.size w4 w6) := Lib.hid ⟨HB5.out.trans (HQ6.out.2.mono HB5.out.size), HQ5.out.2.trans (HQ6.out.2.mono HQ5.out.2.size)⟩
        have HSm : Hid (Calls Try.prog 41 #[.slice a5 len c5, .slice a6 len c6] w6 fun e w' => e = .returned (.bool true) ∧ Below w6.heap.size w6 w') := Lib.hid (by
          have h := rsame_any (cap := c5) (cap' := c6) (HQ5.out.1.on HQ6.out.2) (HV4.out.1.on HB6.out.2).inner HQ6.out.1 (HIn.out.on HB6.out.1).at_.inner
          rw [HV4.out.2, show eqS (secsM L) (secsM L) = true by unfold eqS; simp] at h
          exact h)
        clear HA2 HB5 HQ5 HQ6 hll HVL
        go_wp2_with fail
        refine HSm.out.mono ?_
        rintro e w7 ⟨rfl, hb7⟩
        have HB7 : Hid (Below w.heap.size w w7) := Lib.hid (HB6.out.1.trans (hb7.mono HB6.out.1.size))
        have hH7 : Hid (w7.heap[g]? = some (.cells (ivals .u8 (packI (secsM L))).toArray 5 (0, 0))) := Lib.hid (heap_below (heap_below HB4.out.2 HB6.out.2 (heap_lt HB4.out.2)) hb7 (Nat.lt_of_lt_of_le (heap_lt HB4.out.2) HB6.out.2.size))
        clear hb7 HSm HB6 HB4 HV4
        have hand := and_24 at3
        obtain ⟨at0, hat⟩ : ∃ at0 : Nat, at3 % 16777216 % (8 * ((N : Int) - 4) + 1) = (at0 : Int) := ⟨(at3 % 16777216 % (8 * ((N : Int) - 4) + 1)).toNat, by have := Int.emod_nonneg (at3 % 16777216) (show (8 * ((N : Int) - 4) + 1) ≠ 0 by omega); omega⟩
        have hat2 : at0 + 32 ≤ 8 * N := by have := Int.emod_lt_of_pos (at3 % 16777216) (show (0 : Int) < 8 * ((N : Int) - 4) + 1 by omega); omega
        have h4Ni : (4 : Int) ≤ (N : Int) := by omega
        go_wp2_with fail
        go_loopw [60] (fun i wr => ∃ (k : Nat) (ms : List Int), k ≤ 32 ∧ i = .int .i64 k ∧ Hid (wr.heap[g]? = some (.cells (ivals .u8 ms).toArray 5 (0, 0))) ∧ Hid (ms.length = N ∧ (∀ x ∈ ms, (Lit.int .u8 x).wf = true) ∧ ∀ i, bitAt (nats ms) i = (bitAt (nats (packI (secsM L))) i ^^ burstK at0 turn k i)) ∧ Hid (Below w.heap.size w wr)) (fun i _ => 32 - (intOf i).toNat)
        case atStart => exact ⟨0, packI (secsM L), by omega, rfl, hH7, Lib.hid ⟨HEA.out.2, HWF.out, fun i => by rw [burstK_zero, Bool.xor_false]⟩, HB7⟩
        case round =>
          obtain ⟨k, ms, hk, rfl, hh, hms, hB⟩ := hrel
          clear hH7 HB7
          by_cases hlt : k < 32
          · obtain ⟨q, hq⟩ : ∃ q, at0 + k = q := ⟨_, rfl⟩
            have hql : q / 8 < N := by omega
            obtain ⟨d, hd⟩ : ∃ d, q / 8 = d := ⟨_, rfl⟩
            obtain ⟨r, hr⟩ : ∃ r, q % 8 = r := ⟨_, rfl⟩
            rw [hd] at hql
            have hr8 : r < 8 := by omega
            have HMW := hms.out.2.1
            have hdm : d < ms.length := by rw [hms.out.1]; exact hql
            obtain ⟨x, hx⟩ : ∃ x : Nat, ms.getD d 0 = (x : Int) := ⟨(ms.getD d 0).toNat, by have := bounds_u8 (HMW (ms.getD d 0) (by simp [List.getD, hdm])); omega⟩
            have hx8 : x < 256 := by have := bounds_u8 (HMW (ms.getD d 0) (by simp [List.getD, hdm])); omega
            have hcell : wr.cell? ⟨g, d, none⟩ = some (.int .u8 x) := heap_cell hh.out (by
              unfold ivals
              rw [List.getElem?_toArray, List.getElem?_map, List.getElem?_eq_getElem hdm]
              rw [← hx]
              simp [List.getD, hdm])
            have hfz := heap_frozen hh.out d
            have hblk := heap_lt hh.out
            have hb : (bits .and .u32 ((turn : Int) / 2 ^ k) 1 == 1) = turn.testBit k := by
              have h1 := and1_u32 (turn / 2 ^ k) (Nat.lt_of_le_of_lt (Nat.div_le_self _ _) htl)
              have h2 : (turn : Int) / 2 ^ k = ((turn / 2 ^ k : Nat) : Int) := by rw [Int.natCast_ediv]; simp
              rw [h2, h1, Nat.testBit_eq_decide_div_mod_eq]
              by_cases h3 : turn / 2 ^ k % 2 = 1
              · rw [h3]; simp
              · rw [show turn / 2 ^ k % 2 = 0 by omega]; simp
            have HX := Lib.hid (And.intro hx (And.intro hd (And.intro hr hq)))
            have e1 : IntKind.i64.wrap ((at0 : Int) + (k : Int)) = (q : Int) := by rw [IntWalk.i64_in _ (by omega)]; omega
            have e2 : (q : Int).tdiv 8 = (d : Int) := by rw [Int.tdiv_eq_ediv_of_nonneg (by omega)]; omega
            have e3 : (q : Int).tmod 8 = (r : Int) := by rw [Int.tmod_eq_emod_of_nonneg (by omega)]; omega
            have hx9 : bits .xor .u8 (x : Int) (2 ^ r % 256) = ((x ^^^ 2 ^ r : Nat) : Int) := by
              have h2 : 2 ^ r < 2 ^ 8 := Nat.pow_lt_pow_right (by decide) hr8
              rw [pow_mod8 r hr8]
              exact xor_u8 x (2 ^ r) hx8 (by omega)
            have HNEW : Hid ((ms.set d ((x ^^^ 2 ^ r : Nat) : Int)) = turnI ms q) := Lib.hid (by unfold turnI; rw [hd, hr, hx, Int.toNat_natCast])
            have HQ8 : Hid (q < 8 * ms.length ∧ q / 8 < ms.length) := Lib.hid (by rw [hms.out.1]; omega)
            cases htb : turn.testBit k with
            | true =>
              rw [htb] at hb
              have HTB := Lib.hid htb
              generalize x ^^^ 2 ^ r = y at *
              clear hx hd hr hq HMW hdm htb
              go_wp2
              go_region
              all_goals
                go_wp2
                go_roundw
                case rel =>
                  refine ⟨k + 1, turnI ms q, by omega, by go_num, Lib.hid ?_, Lib.hid ⟨by rw [turnI_length]; exact hms.out.1, turnI_wf hms.out.2.1 q HQ8.out.2, fun i => ?_⟩, Lib.hid (hB.out.setCell HB3.out.2 _).drew⟩
                  · have h1 := heap_set hh.out d (.int .u8 (y : Int))
                    rw [ivals_set, HNEW.out] at h1
                    exact h1
                  · rw [turnI_nats ms q HQ8.out.1, hms.out.2.2 i, burstK_succ, HTB.out, Bool.and_true, HX.out.2.2.2, Bool.xor_assoc]
                case measure => simp [intOf]; omega
            | false =>
              rw [htb] at hb
              have HTB := Lib.hid htb
              clear hx hd hr hq HMW hdm htb hx9
              go_wp2
              go_roundw
              case rel => exact ⟨k + 1, ms, by omega, by go_num, hh, Lib.hid ⟨hms.out.1, hms.out.2.1, fun i => by rw [hms.out.2.2 i, burstK_succ, HTB.out, Bool.and_false, Bool.xor_false]⟩, hB⟩
              case measure => simp [intOf]; omega
          · obtain rfl : k = 32 := by omega
            have HE : Hid (turn ≠ 0 → unpE ms = 44) := Lib.hid (fun h0 => by
              have hu : unsealE (packI (secsM L)) = 0 := by unfold packI; rw [if_pos HEA.out.1]; exact (unseal_seal _).1
              have h := turned_found (packI (secsM L)) ms at0 turn HWF.out hms.out.2.1 (by rw [hms.out.1, HEA.out.2]) (by rw [HEA.out.2]; omega) htl h0 hms.out.2.2 hu (by rw [HEA.out.2]; omega)
              unfold unpE
              rw [h]
              rfl)
            have HU5 := Lib.hid (unpack_any ms wr.heap.size (some ⟨g, 0, none⟩) g 0 N wr (whole_ints hh.out hms.out.2.1 (by rw [hms.out.1]; unfold maxLen; omega)) (fun e => by cases e) (by rw [hms.out.1]; omega))
            rw [hms.out.1] at HU5
            obtain ⟨ue, hue⟩ : ∃ ue, unpE ms = ue := ⟨_, rfl⟩
            rw [hue] at HE
            have HUE5 := Lib.hid hue
            clear hue hh
            go_wp2_with fail
            refine HU5.out.mono ?_
            rintro e w6 ⟨aa, na, ca, Va, rfl, HQ6⟩
            have HB6 : Hid (Below w.heap.size w w6) := Lib.hid (hB.out.trans (HQ6.out.2.2.2.mono hB.out.size))
            rw [HUE5.out]
            clear HQ6 HU5 HUE5 hB
            by_cases h0 : turn = 0
            · subst h0
              clear HE
              have HUb := Lib.hid (unpack_any zb w.heap.size a1 b1 off1 cap1 w6 (HI1.out.1.kept HB6.out (Nat.le_refl _)) HI1.out.2.1 (by have := HI1.out.2.2.1; omega))
              rw [HI1.out.2.2.2.1] at HUb
              have HRB : Hid (unpE zb ≠ 0 → unpL zb = []) := Lib.hid (fun h => by unfold unpL; rw [if_neg h])
              obtain ⟨ue, hue⟩ : ∃ ue, unpE zb = ue := ⟨_, rfl⟩
              have HUE := Lib.hid hue
              rw [hue] at HRB
              clear hue
              go_wp2_with fail
              refine HUb.out.mono ?_
              rintro e w20 ⟨a20, n20, c20, V20, rfl, HQ20⟩
              rw [HUE.out]
              obtain ⟨⟨b20, o20, hV20⟩, hVM20, hn255, hb20⟩ := HQ20.out
              have HB20 : Hid (Below w.heap.size w w20) := Lib.hid (HB6.out.trans (hb20.mono HB6.out.size))
              have HV20 := Lib.hid (And.intro hV20 hVM20)
              have hnn : n20 = (secsM V20).length := (secs_len ⟨b20, o20, hV20⟩).symm
              have HNN := Lib.hid hnn
              clear hV20 hVM20 hb20 HQ20 HUb hnn
              by_cases hu0 : ue = 0
              · subst hu0
                have hpb := unpack_back zb HI1.out.2.2.2.2 HUE.out
                rw [← HV20.out.2] at hpb
                have hpl : (packI (secsM V20)).length = len1 := by rw [hpb.2]; exact HI1.out.2.2.2.1
                have hfl : ((secsM V20).flatMap (·.body)).length ≤ 50000 := by
                  have h1 := hpl
                  unfold packI at h1
                  rw [if_pos hpb.1, sealI_length] at h1
                  unfold innerI at h1
                  simp only [List.length_append] at h1
                  have := HI1.out.2.2.1
                  have h5 := HI1.out.2.2.2.1
                  omega
                have HPk := Lib.hid (pack_good HV20.out.1 (by omega) hfl hpb.1 hpl)
                have HPB := Lib.hid hpb.2
                clear hpb hpl hfl
                go_wp2_with fail
                refine HPk.out.mono ?_
                rintro e w21 ⟨g21, rfl, HQ21⟩
                have HB21 : Hid (Below w.heap.size w w21) := Lib.hid (HB20.out.trans (HQ21.out.1.mono HB20.out.size))
                have HSm : Hid (Calls Try.prog 24 #[.slice (some ⟨g21, 0, none⟩) len1 len1, .slice a1 len1 cap1] w21 fun e w' => e = .returned (.bool true) ∧ w21 = w') := Lib.hid (by
                  have h := same_any (whole_ints HQ21.out.2.2.1 HQ21.out.2.2.2.1 (by rw [HQ21.out.2.2.2.2]; have := HI1.out.2.2.1; have := HI1.out.2.2.2.1; unfold maxLen; omega)) (HI1.out.1.kept HB21.out (Nat.le_refl _)) len1 cap1
                  rw [HPB.out, HI1.out.2.2.2.1, show decide (zb = zb) = true by simp] at h
                  exact h)
                clear HPk HQ21
                go_wp2_with fail
                refine HSm.out.mono ?_
                rintro e w22 ⟨rfl, rfl⟩
                clear HSm
                go_wp2
                go_ret
                exact ⟨rfl, HB21.out⟩
              · have hue : ((ue : Int) != 0) = true := by simp; omega
                have hn0 : n20 = 0 := by rw [HNN.out, HV20.out.2, HRB.out hu0]; rfl
                clear HNN HV20
                subst hn0
                clear hu0
                go_wp2
                go_ret
                exact ⟨rfl, HB20.out⟩
            · obtain rfl := HE.out h0
              have h1 : ((turn : Int) != 0) = true := by simp; omega
              clear h0 HE
              have HUb := Lib.hid (unpack_any zb w.heap.size a1 b1 off1 cap1 w6 (HI1.out.1.kept HB6.out (Nat.le_refl _)) HI1.out.2.1 (by have := HI1.out.2.2.1; omega))
              rw [HI1.out.2.2.2.1] at HUb
              have HRB : Hid (unpE zb ≠ 0 → unpL zb = []) := Lib.hid (fun h => by unfold unpL; rw [if_neg h])
              obtain ⟨ue, hue⟩ : ∃ ue, unpE zb = ue := ⟨_, rfl⟩
              have HUE := Lib.hid hue
              rw [hue] at HRB
              clear hue
              go_wp2_with fail
              refine HUb.out.mono ?_
              rintro e w20 ⟨a20, n20, c20, V20, rfl, HQ20⟩
              rw [HUE.out]
              obtain ⟨⟨b20, o20, hV20⟩, hVM20, hn255, hb20⟩ := HQ20.out
              have HB20 : Hid (Below w.heap.size w w20) := Lib.hid (HB6.out.trans (hb20.mono HB6.out.size))
              have HV20 := Lib.hid (And.intro hV20 hVM20)
              have hnn : n20 = (secsM V20).length := (secs_len ⟨b20, o20, hV20⟩).symm
              have HNN := Lib.hid hnn
              clear hV20 hVM20 hb20 HQ20 HUb hnn
              by_cases hu0 : ue = 0
              · subst hu0
                have hpb := unpack_back zb HI1.out.2.2.2.2 HUE.out
                rw [← HV20.out.2] at hpb
                have hpl : (packI (secsM V20)).length = len1 := by rw [hpb.2]; exact HI1.out.2.2.2.1
                have hfl : ((secsM V20).flatMap (·.body)).length ≤ 50000 := by
                  have h1 := hpl
                  unfold packI at h1
                  rw [if_pos hpb.1, sealI_length] at h1
                  unfold innerI at h1
                  simp only [List.length_append] at h1
                  have := HI1.out.2.2.1
                  have h5 := HI1.out.2.2.2.1
                  omega
                have HPk := Lib.hid (pack_good HV20.out.1 (by omega) hfl hpb.1 hpl)
                have HPB := Lib.hid hpb.2
                clear hpb hpl hfl
                go_wp2_with fail
                refine HPk.out.mono ?_
                rintro e w21 ⟨g21, rfl, HQ21⟩
                have HB21 : Hid (Below w.heap.size w w21) := Lib.hid (HB20.out.trans (HQ21.out.1.mono HB20.out.size))
                have HSm : Hid (Calls Try.prog 24 #[.slice (some ⟨g21, 0, none⟩) len1 len1, .slice a1 len1 cap1] w21 fun e w' => e = .returned (.bool true) ∧ w21 = w') := Lib.hid (by
                  have h := same_any (whole_ints HQ21.out.2.2.1 HQ21.out.2.2.2.1 (by rw [HQ21.out.2.2.2.2]; have := HI1.out.2.2.1; have := HI1.out.2.2.2.1; unfold maxLen; omega)) (HI1.out.1.kept HB21.out (Nat.le_refl _)) len1 cap1
                  rw [HPB.out, HI1.out.2.2.2.1, show decide (zb = zb) = true by simp] at h
                  exact h)
                clear HPk HQ21
                go_wp2_with fail
                refine HSm.out.mono ?_
                rintro e w22 ⟨rfl, rfl⟩
                clear HSm
                go_wp2
                go_ret
                exact ⟨rfl, HB21.out⟩
              · have hue : ((ue : Int) != 0) = true := by simp; omega
                have hn0 : n20 = 0 := by rw [HNN.out, HV20.out.2, HRB.out hu0]; rfl
                clear HNN HV20
                subst hn0
                clear hu0
                go_wp2
                go_ret
                exact ⟨rfl, HB20.out⟩
      · obtain ⟨pe, hpe⟩ : ∃ pe, packE (secsM L) = pe := ⟨_, rfl⟩
        have h0 : pe ≠ 0 := by rw [← hpe]; exact hE
        have HPk := Lib.hid (pack_fault (HIn.out.on HB2.out).at_ (by omega) HIn.out.few hpe h0)
        have hpi : ((pe : Int) == 0) = false := by simp; omega
        clear hE hpe h0
        go_wp2_with fail
        refine HPk.out.mono ?_
        rintro e w3 ⟨rfl, hb3⟩
        have HB3 : Hid (Below w.heap.size w w3) := Lib.hid (HB2.out.trans (hb3.mono HB2.out.size))
        clear hb3 HPk
        have HUb := Lib.hid (unpack_any zb w.heap.size a1 b1 off1 cap1 w3 (HI1.out.1.kept HB3.out (Nat.le_refl _)) HI1.out.2.1 (by have := HI1.out.2.2.1; omega))
        rw [HI1.out.2.2.2.1] at HUb
        have HRB : Hid (unpE zb ≠ 0 → unpL zb = []) := Lib.hid (fun h => by unfold unpL; rw [if_neg h])
        obtain ⟨ue, hue⟩ : ∃ ue, unpE zb = ue := ⟨_, rfl⟩
        have HUE := Lib.hid hue
        rw [hue] at HRB
        clear hue
        go_wp2_with fail
        refine HUb.out.mono ?_
        rintro e w20 ⟨a20, n20, c20, V20, rfl, HQ20⟩
        rw [HUE.out]
        obtain ⟨⟨b20, o20, hV20⟩, hVM20, hn255, hb20⟩ := HQ20.out
        have HB20 : Hid (Below w.heap.size w w20) := Lib.hid (HB3.out.trans (hb20.mono HB3.out.size))
        have HV20 := Lib.hid (And.intro hV20 hVM20)
        have hnn : n20 = (secsM V20).length := (secs_len ⟨b20, o20, hV20⟩).symm
        have HNN := Lib.hid hnn
        clear hV20 hVM20 hb20 HQ20 HUb hnn
        by_cases hu0 : ue = 0
        · subst hu0
          have hpb := unpack_back zb HI1.out.2.2.2.2 HUE.out
          rw [← HV20.out.2] at hpb
          have hpl : (packI (secsM V20)).length = len1 := by rw [hpb.2]; exact HI1.out.2.2.2.1
          have hfl : ((secsM V20).flatMap (·.body)).length ≤ 50000 := by
            have h1 := hpl
            unfold packI at h1
            rw [if_pos hpb.1, sealI_length] at h1
            unfold innerI at h1
            simp only [List.length_append] at h1
            have := HI1.out.2.2.1
            have h5 := HI1.out.2.2.2.1
            omega
          have HPk := Lib.hid (pack_good HV20.out.1 (by omega) hfl hpb.1 hpl)
          have HPB := Lib.hid hpb.2
          clear hpb hpl hfl
          go_wp2_with fail
          refine HPk.out.mono ?_
          rintro e w21 ⟨g21, rfl, HQ21⟩
          have HB21 : Hid (Below w.heap.size w w21) := Lib.hid (HB20.out.trans (HQ21.out.1.mono HB20.out.size))
          have HSm : Hid (Calls Try.prog 24 #[.slice (some ⟨g21, 0, none⟩) len1 len1, .slice a1 len1 cap1] w21 fun e w' => e = .returned (.bool true) ∧ w21 = w') := Lib.hid (by
            have h := same_any (whole_ints HQ21.out.2.2.1 HQ21.out.2.2.2.1 (by rw [HQ21.out.2.2.2.2]; have := HI1.out.2.2.1; have := HI1.out.2.2.2.1; unfold maxLen; omega)) (HI1.out.1.kept HB21.out (Nat.le_refl _)) len1 cap1
            rw [HPB.out, HI1.out.2.2.2.1, show decide (zb = zb) = true by simp] at h
            exact h)
          clear HPk HQ21
          go_wp2_with fail
          refine HSm.out.mono ?_
          rintro e w22 ⟨rfl, rfl⟩
          clear HSm
          go_wp2
          go_ret
          exact ⟨rfl, HB21.out⟩
        · have hue : ((ue : Int) != 0) = true := by simp; omega
          have hn0 : n20 = 0 := by rw [HNN.out, HV20.out.2, HRB.out hu0]; rfl
          clear HNN HV20
          subst hn0
          clear hu0
          go_wp2
          go_ret
          exact ⟨rfl, HB20.out⟩
end Go.Proofs.Ytnkhpmpoemodiaa.Se
