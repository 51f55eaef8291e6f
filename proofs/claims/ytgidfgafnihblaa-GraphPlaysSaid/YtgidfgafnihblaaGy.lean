/- The walk of GraphBounds. -/
import Derived.Test.YtgidfgafnihblaaGx
import Derived.Test.YtgidfgafnihblaaPb0
set_option linter.unusedVariables false
set_option linter.unusedSectionVars false
namespace Go.Proofs.Ytgidfgafnihblaa
open Go.RowKit Rk

theorem and_255 (n : Int) : bits .and .i64 n 255 = n % 256 := by
  have h511 : (BitVec.ofInt 64 255).toNat = 2 ^ 8 - 1 := by decide
  have key : (BitVec.ofInt 64 n &&& BitVec.ofInt 64 255).toNat = (n % ((2 ^ 64 : Nat) : Int)).toNat % 2 ^ 8 := by
    rw [BitVec.toNat_and, BitVec.toNat_ofInt, h511, Nat.and_two_pow_sub_one_eq_mod]
  show IntKind.i64.wrap ((BitVec.ofInt 64 n &&& BitVec.ofInt 64 255).toNat : Nat) = n % 256
  rw [key, IntKind.wrap_i64]
  omega
/-- A number, brought below another. -/
theorem idx (n : Int) {len : Nat} (h : 0 < len) : ∃ p i : Nat, bits .and .i64 n 255 = (p : Int) ∧ ((p : Int)).tmod (len : Int) = (i : Int) ∧ i < len := by
  refine ⟨(n % 256).toNat, (n % 256).toNat % len, by rw [and_255]; omega, ?_, Nat.mod_lt _ h⟩
  rw [Int.tmod_eq_emod_of_nonneg (by omega)]
  omega
theorem IsRow.zs {k : IntKind} {w : World} {a : Option Addr} {len cap : Nat} {z : List Int} (h : IsRow k w a len cap z) : ∃ b off zs, IntsAt k w.heap.size w a b off len zs ∧ (a = none → len = 0 ∧ cap = 0) := by
  obtain ⟨b, off, hi⟩ := h.ints
  exact ⟨b, off, _, hi, fun e => by subst e; exact h.nil⟩
theorem vals_none (n : Nat) (i : Int) : vals (nearD n noTab i) = 0 := by
  unfold nearD
  split
  · rw [rowOf_none]; rfl
  · rfl
set_option maxRecDepth 100000 in
set_option maxHeartbeats 8000000 in
theorem walk_GraphBounds (a0 : Option Addr) (len0 cap0 : Nat) (z0 : List Int) (a1 a2 a3 : Int) (w : World) (w0 : IsRow .i64 w a0 len0 cap0 z0) (w1 : (Lit.int .i64 a1).wf = true) (w2 : (Lit.int .i64 a2).wf = true) (w3 : (Lit.int .i64 a3).wf = true) :
    Calls Try.prog 6 #[.slice a0 len0 cap0, .int .i64 a1, .int .i64 a2, .int .i64 a3] w fun e w' => e = .returned (.bool true) ∧ Below w.heap.size w w' := by
  obtain ⟨b, off, zs, hi, h0⟩ := w0.zs
  have hb3 := bounds_i64 w3
  have hlz := hi.length
  have hsm := hi.small
  unfold maxLen at hsm
  have HI := Lib.hid hi
  have HN := Lib.hid h0
  have HL := Lib.hid hlz
  clear w0 hi h0 hlz w1 w2 w3
  by_cases h30 : 30 < len0
  · go_enter Try.func6, Try.ntmps6
    go_wp2_with fail
    refine (alive_any _).mono ?_
    rintro e w2 ⟨rfl, hB2⟩
    have HB2 := Lib.hid hB2
    clear hB2
    go_wp2
    go_ret
    exact ⟨rfl, HB2.out⟩
  by_cases h2 : len0 < 2
  · have hd2 : decide ((len0 : Int) < 2) = true := by simp; omega
    have hd1 : decide (30 < (len0 : Int)) = false := by simp; omega
    go_enter Try.func6, Try.ntmps6
    go_wp2_with fail
    refine (alive_any _).mono ?_
    rintro e w2 ⟨rfl, hB2⟩
    have HB2 := Lib.hid hB2
    clear hB2
    go_wp2
    go_ret
    exact ⟨rfl, HB2.out⟩
  have hd2 : decide ((len0 : Int) < 2) = false := by simp; omega
  have hd1 : decide (30 < (len0 : Int)) = false := by simp; omega
  have hl2 : 2 ≤ len0 := by omega
  have hl30 : len0 ≤ 30 := by omega
  clear h30 h2 hsm
  obtain ⟨p1, i, hp1, hi1, hil⟩ := idx a1 (show 0 < len0 by omega)
  obtain ⟨p2, j, hp2, hi2, hjl⟩ := idx a2 (show 0 < len0 by omega)
  go_enter Try.func6, Try.ntmps6
  go_wp2_with fail
  refine (alive_any _).mono ?_
  rintro e w2 ⟨rfl, hB2⟩
  have HB2 := Lib.hid hB2
  have HNw := Lib.hid (new_any (cap := cap0) ((HI.out.kept hB2 (Nat.le_refl _)).mono hB2.size) HN.out)
  have z2 := hB2.size
  clear hB2
  go_wp2_with fail
  refine HNw.out.mono ?_
  rintro e w3 ⟨hB, hc⟩
  have HB3 := Lib.hid (HB2.out.trans (hB.mono z2))
  have z3 := HB3.out.size
  clear hB
  rcases hc with ⟨h1, rfl⟩ | ⟨_, g, nb, rfl, hG, hg, hn⟩
  · have hne : (newE zs == 0) = false := by simpa using h1
    have hne2 : (newE zs != 0) = true := by simp [bne, hne]
    generalize newE zs = v at *
    clear h1
    go_wp2
    go_ret
    exact ⟨rfl, HB3.out⟩
  · have HG := Lib.hid hG
    clear hG
    have hz : ((len0 : Int) == 0) = false := by simp; omega
    have hz2 : ¬ ((len0 : Int) = 0) := by omega
    go_wp2
    go_quiet (fail)
    have hbd := below_of_drewN w3 nq
    have HG4 := Lib.hid (HG.out.below hbd)
    have HB4 := Lib.hid (HB3.out.trans (hbd.mono z3))
    revert HG4 HB4
    clear hbd hp1 hp2 hi1 hi2
    generalize w3.drewN nq = w4
    intro HG4 HB4
    have z4 := HB4.out.size
    have hnb : ∀ i, i < w.heap.size → i = nb → False := fun i hi e => by omega
    have HNB := Lib.hid hnb
    clear hnb HG HB3 HNw HB2
    have e1 : joinE len0 noTab (i : Int) (i : Int) 1 = 1 := by unfold joinE; rw [if_pos (.inr (.inr rfl))]
    have e2 : joinE len0 noTab (i : Int) (len0 : Int) 1 = 1 := by unfold joinE; rw [if_pos (.inr (.inl (decide_eq_false (by omega))))]
    have e3 : joinE len0 noTab (-1) (j : Int) 1 = 1 := by unfold joinE; rw [if_pos (.inl (decide_eq_false (by omega)))]
    have E1 := Lib.hid e1
    have E2 := Lib.hid e2
    have E3 := Lib.hid e3
    clear e1 e2 e3
    go_wp2_with fail
    refine (join_lit (v := 1) (F' := noTab) HG4.out HL.out i i 1 E1.out (joinF_no E1.out (by decide))).mono ?_
    rintro e w5 ⟨rfl, hG, ht⟩
    have HB5 := Lib.hid (below_turned HB4.out ht HNB.out z4)
    have HG5 := Lib.hid hG
    have z5 := HB5.out.size
    clear hG ht
    go_wp2_with fail
    refine (join_lit (v := 1) (F' := noTab) HG5.out HL.out i len0 1 E2.out (joinF_no E2.out (by decide))).mono ?_
    rintro e w6 ⟨rfl, hG, ht⟩
    have HB6 := Lib.hid (below_turned HB5.out ht HNB.out z5)
    have HG6 := Lib.hid hG
    have z6 := HB6.out.size
    clear hG ht
    go_wp2_with fail
    refine (join_lit (v := 1) (F' := noTab) HG6.out HL.out (-1) j 1 E3.out (joinF_no E3.out (by decide))).mono ?_
    rintro e w7 ⟨rfl, hG, ht⟩
    have HB7 := Lib.hid (below_turned HB6.out ht HNB.out z6)
    have HG7 := Lib.hid hG
    have z7 := HB7.out.size
    clear hG ht HG4 HG5 HG6 HB4 HB5 HB6 E1 E2 E3
    go_wp2_with fail
    refine (degree_lit (v := 0) HG7.out HL.out i (vals_none _ _)).mono ?_
    rintro e w8 ⟨rfl, hb⟩
    have HB8 := Lib.hid (HB7.out.trans (hb.mono z7))
    have HG8 := Lib.hid (HG7.out.below hb)
    have z8 := HB8.out.size
    clear hb HG7 HB7
    by_cases hij : i = j
    · subst hij
      go_wp2
      go_ret
      exact ⟨rfl, HB8.out⟩
    have hijb : ((i : Int) == (j : Int)) = false := by simpa using (show ¬ ((i : Int) = (j : Int)) by omega)
    have HIL := Lib.hid hil
    have HJL := Lib.hid hjl
    have HIJ := Lib.hid hij
    have EJ := Lib.hid (joinE_two noTab a3 hil hjl hij)
    cases hm : may a3 with
    | false =>
      have E4 : Hid (joinE len0 noTab (i : Int) (j : Int) a3 = 23) := Lib.hid (by rw [EJ.out, if_neg (by rw [hm]; simp)])
      have BT : Hid (btw len0 noTab (i : Int) (j : Int) = 0) := Lib.hid (by rw [btw_nat _ _ hil hjl]; rfl)
      have hnm := may_f hm
      clear hm EJ hij hil hjl
      go_wp2_with fail
      refine (join_lit (v := 23) (F' := noTab) HG8.out HL.out i j a3 E4.out (joinF_no E4.out (by decide))).mono ?_
      rintro e w9 ⟨rfl, hG, ht⟩
      have HB9 := Lib.hid (below_turned HB8.out ht HNB.out z8)
      have HG9 := Lib.hid hG
      have z9 := HB9.out.size
      clear hG ht
      by_cases hge : 1 ≤ a3
      · have d1 : decide (1 ≤ a3) = true := by simpa using hge
        have d2 : decide (a3 ≤ 1099511627776) = false := by simp; omega
        go_wp2_with fail
        refine (between_lit (v := 0) HG9.out HL.out i j BT.out).mono ?_
        rintro e wa ⟨rfl, ht⟩
        have HBa := Lib.hid (below_turned HB9.out ht (fun i hi e => e) z9)
        clear ht
        go_wp2
        go_ret
        exact ⟨rfl, HBa.out⟩
      · have d1 : decide (1 ≤ a3) = false := by simpa using hge
        go_wp2_with fail
        refine (between_lit (v := 0) HG9.out HL.out i j BT.out).mono ?_
        rintro e wa ⟨rfl, ht⟩
        have HBa := Lib.hid (below_turned HB9.out ht (fun i hi e => e) z9)
        clear ht
        go_wp2
        go_ret
        exact ⟨rfl, HBa.out⟩
    | true =>
      have hmb := may_t hm
      have E4 : Hid (joinE len0 noTab (i : Int) (j : Int) a3 = 0) := Lib.hid (by rw [EJ.out, if_pos ⟨hm, by rw [show noTab i j + a3 = a3 by simp [noTab]]; exact hm⟩])
      obtain ⟨F1, hF1⟩ : ∃ F1, joinF len0 noTab (i : Int) (j : Int) a3 = F1 := ⟨_, rfl⟩
      have hF1' : F1 = joinT noTab i j a3 := by rw [← hF1, joinF_yes E4.out hil hjl]; simp [noTab]
      have B1 : Hid (btw len0 F1 (i : Int) (j : Int) = a3) := Lib.hid (by rw [btw_nat _ _ hil hjl, hF1']; simp [joinT])
      have hji : F1 j i = a3 := by rw [hF1']; simp [joinT]
      obtain ⟨lf, hlf⟩ : ∃ lf, 1099511627776 - a3 = lf := ⟨_, rfl⟩
      have E5 : Hid (joinE len0 F1 (j : Int) (i : Int) (lf + 1) = 23) := Lib.hid (by
        rw [joinE_two F1 (lf + 1) hjl hil (Ne.symm hij), if_neg]
        rintro ⟨_, h⟩
        have := may_t h
        rw [hji] at this
        omega)
      have E6 : Hid (lf ≠ 0 → joinE len0 F1 (j : Int) (i : Int) lf = 0) := Lib.hid (fun h0 => by
        rw [joinE_two F1 lf hjl hil (Ne.symm hij), if_pos]
        exact ⟨may_mk (by omega) (by omega), may_mk (by rw [hji]; omega) (by rw [hji]; omega)⟩)
      have B2 : Hid (lf ≠ 0 → btw len0 (joinF len0 F1 (j : Int) (i : Int) lf) (i : Int) (j : Int) = 1099511627776) := Lib.hid (fun h0 => by
        rw [joinF_yes (E6.out h0) hjl hil, btw_nat _ _ hil hjl, hji]
        simp [joinT]
        omega)
      have HF1 := Lib.hid hF1
      have d1 : decide (1 ≤ a3) = true := by simpa using hmb.1
      have d2 : decide (a3 ≤ 1099511627776) = true := by simpa using hmb.2
      have hlw : IntKind.i64.wrap (1099511627776 - a3) = lf := by rw [hlf]; exact IntWalk.i64_in _ ⟨by omega, by omega⟩
      have hlb : 0 ≤ lf ∧ lf ≤ 1099511627776 := by omega
      clear hm EJ hij hil hjl hF1 hF1' hji hlf
      go_wp2_with fail
      refine (join_lit (v := 0) (F' := F1) HG8.out HL.out i j a3 E4.out HF1.out).mono ?_
      rintro e w9 ⟨rfl, hG, ht⟩
      have HB9 := Lib.hid (below_turned HB8.out ht HNB.out z8)
      have HG9 := Lib.hid hG
      have z9 := HB9.out.size
      clear hG ht HG8 HB8
      go_wp2_with fail
      refine (join_lit (v := 23) (F' := F1) HG9.out HL.out j i (lf + 1) E5.out (joinF_no E5.out (by decide))).mono ?_
      rintro e wa ⟨rfl, hG, ht⟩
      have HBa := Lib.hid (below_turned HB9.out ht HNB.out z9)
      have HGa := Lib.hid hG
      have za := HBa.out.size
      clear hG ht HG9 HB9
      go_wp2_with fail
      refine (between_lit (v := a3) HGa.out HL.out i j B1.out).mono ?_
      rintro e wb ⟨rfl, ht⟩
      have HBb := Lib.hid (below_turned HBa.out ht (fun i hi e => e) za)
      have HGb := Lib.hid (HGa.out.calm ht)
      have zb := HBb.out.size
      clear ht HGa HBa
      by_cases hl0 : lf = 0
      · subst hl0
        go_wp2
        go_ret
        exact ⟨by simp, HBb.out⟩
      · have hd0 : (lf == 0) = false := by simpa using hl0
        have HL0 := Lib.hid hl0
        clear hl0
        go_wp2_with fail
        refine (join_lit (v := 0) HGb.out HL.out j i lf (E6.out HL0.out) rfl).mono ?_
        rintro e wc ⟨rfl, hG, ht⟩
        have HBc := Lib.hid (below_turned HBb.out ht HNB.out zb)
        have HGc := Lib.hid hG
        have zc := HBc.out.size
        clear hG ht HGb HBb
        go_wp2_with fail
        refine (between_lit (v := 1099511627776) HGc.out HL.out i j (B2.out HL0.out)).mono ?_
        rintro e wd ⟨rfl, ht⟩
        have HBd := Lib.hid (below_turned HBc.out ht (fun i hi e => e) zc)
        clear ht
        go_wp2
        go_ret
        exact ⟨by simp, HBd.out⟩
end Go.Proofs.Ytgidfgafnihblaa
