/- Contracts: the reference's order and sameness of texts, its check; a number held. -/
import Derived.Test.YtmilchkemobchaaDoorNd
set_option linter.unusedVariables false
set_option linter.unusedSectionVars false
namespace Go.Proofs.YtmilchkemobchaaDoor
open Go.RowKit Ss

section
variable {B : Nat} {w : World} {a : Option Addr} {b off len cap : Nat} {ss : List ByteArray}
set_option maxHeartbeats 1000000 in
theorem xsorted_any (hm : StrsAt B w a b off len ss) : Calls Tryd.prog 15 #[.slice a len cap] w fun e w' => e = .returned (.bool (sortedB ss)) ∧ ∃ n, w' = w.drewN n := by
  have hsm := hm.small
  unfold maxLen at hsm
  have HM := Lib.hid hm
  have hl := hm.length
  have HH : Hid (∀ k, k + 1 < len → ltB (atS ss k) (atS ss (k + 1)) = false → sortedB ss = false) := Lib.hid (fun k hk h => sorted_no (by rw [hl]; exact hk) h)
  have HMs : Hid (srtTo ss len = true → sortedB ss = true) := Lib.hid (fun h => by unfold sortedB; rw [hl]; exact h)
  clear hm hl
  generalize sortedB ss = r at *
  go_enter Tryd.func15, Tryd.ntmps15
  go_wp2
  go_loopw [3] (fun i wr => ∃ j : Nat, 1 ≤ j ∧ (j ≤ len ∨ j = 1) ∧ i = .int .i64 j ∧ Hid (srtTo ss j = true) ∧ Hid (∃ n, wr = w.drewN n)) (fun i _ => len - (intOf i).toNat)
  case atStart => exact ⟨1, Nat.le_refl _, .inr rfl, rfl, Lib.hid rfl, Lib.hid ⟨0, rfl⟩⟩
  case round =>
    obtain ⟨j, hj1, hj, rfl, HJ, HW⟩ := hrel
    by_cases hlt : j < len
    · obtain ⟨k, hk⟩ : ∃ k, j = k + 1 := ⟨j - 1, by omega⟩
      have hI : StrsAt B wr a b off len ss := by obtain ⟨n, rfl⟩ := HW.out; exact ⟨HM.out.addr, HM.out.length, HM.out.small, HM.out.below, fun i hi => HM.out.cell i hi, HM.out.fits⟩
      have c1 := strs_at hI j hlt
      have c2 := strs_at hI k (by omega)
      obtain rfl : a = some ⟨b, off, none⟩ := hI.addr.resolve_left (by omega)
      have hji : (j : Int) < (len : Int) := by omega
      have hw : IntKind.i64.wrap ((j : Int) - 1) = (k : Int) := by rw [show (j : Int) - 1 = (k : Int) by omega]; exact IntWalk.i64_in _ (by omega)
      have hki : (k : Int) < (len : Int) := by omega
      have hk0 : (0 : Int) ≤ (k : Int) := by omega
      have HHk := Lib.hid (HH.out k (by omega))
      have HS : Hid (srtTo ss (j + 1) = (srtTo ss j && (j == 0 || ltB (atS ss k) (atS ss j)))) := Lib.hid (by rw [srtTo_succ, show j - 1 = k by omega])
      rw [← hk] at HHk
      generalize atS ss j = y at *
      generalize atS ss k = x at *
      clear hk hI
      cases hq : ltB x y with
      | true =>
        have g1 : Op.bytesLess x.toList y.toList = true := hq
        have HS2 : Hid (srtTo ss (j + 1) = true) := Lib.hid (by rw [HS.out, HJ.out, hq]; simp)
        clear hq
        go_wp2
        go_quiet (fail)
        go_wp2
        go_roundw
        case rel => exact ⟨j + 1, by omega, .inl (by omega), by go_num, HS2, Lib.hid (by obtain ⟨n, h⟩ := HW.out; exact ⟨_, by rw [h, drewN_two]⟩)⟩
        case measure => simp [intOf]; omega
      | false =>
        have g1 : Op.bytesLess x.toList y.toList = false := hq
        have HR := Lib.hid (HHk.out hq)
        clear hq
        go_wp2
        go_quiet (fail)
        go_wp2
        go_ret
        exact ⟨nretb HR.out.symm, by obtain ⟨n, h⟩ := HW.out; exact ⟨_, by rw [h, drewN_two]⟩⟩
    · have HR := Lib.hid (HMs.out (srtTo_iff.2 (fun i hi => srtTo_iff.1 HJ.out i (by omega))))
      go_wp2
      go_ret
      exact ⟨nretb HR.out.symm, HW.out⟩
end
def sameB (xs ys : List ByteArray) : Bool := decide (xs = ys)
theorem same_iff {xs ys : List ByteArray} (hl : xs.length = ys.length) (h : ∀ i, i < xs.length → atS xs i = atS ys i) : xs = ys := by
  apply List.ext_getElem hl
  intro i h1 h2
  have := h i h1
  simpa [atS, List.getD, h1, h2] using this
set_option maxHeartbeats 1000000 in
theorem xsame_any {B B' : Nat} {w : World} {a a' : Option Addr} {b b' off off' len len' cap cap' : Nat} {xs ys : List ByteArray} (hx : StrsAt B w a b off len xs) (hy : StrsAt B' w a' b' off' len' ys) :
    Calls Tryd.prog 18 #[.slice a len cap, .slice a' len' cap'] w fun e w' => e = .returned (.bool (sameB xs ys)) ∧ ∃ n, w' = w.drewN n := by
  have hsm := hx.small
  unfold maxLen at hsm
  have HX := Lib.hid hx
  have HY := Lib.hid hy
  have hlx := hx.length
  have hly := hy.length
  by_cases hll : len = len'
  · subst hll
    have HT : Hid ((∀ i, i < len → atS xs i = atS ys i) → sameB xs ys = true) := Lib.hid (fun h => decide_eq_true (same_iff (by omega) (fun i hi => h i (by omega))))
    have HF : Hid (∀ i, i < len → atS xs i ≠ atS ys i → sameB xs ys = false) := Lib.hid (fun i hi h => decide_eq_false (fun e => h (by rw [e])))
    clear hx hy hlx hly
    generalize sameB xs ys = r at *
    go_enter Tryd.func18, Tryd.ntmps18
    go_wp2
    go_loopw [5] (fun i wr => ∃ j : Nat, j ≤ len ∧ i = .int .i64 j ∧ Hid (∀ i, i < j → atS xs i = atS ys i) ∧ Hid (∃ n, wr = w.drewN n)) (fun i _ => len - (intOf i).toNat)
    case atStart => exact ⟨0, Nat.zero_le _, rfl, Lib.hid (fun i hi => absurd hi (Nat.not_lt_zero _)), Lib.hid ⟨0, rfl⟩⟩
    case round =>
      obtain ⟨j, hj, rfl, HJ, HW⟩ := hrel
      by_cases hlt : j < len
      · have c1 : wr.cell? ⟨b, off + j, none⟩ = some (.string (atS xs j)) := by obtain ⟨n, rfl⟩ := HW.out; exact strs_at HX.out j hlt
        have c2 : wr.cell? ⟨b', off' + j, none⟩ = some (.string (atS ys j)) := by obtain ⟨n, rfl⟩ := HW.out; exact strs_at HY.out j hlt
        obtain rfl : a = some ⟨b, off, none⟩ := HX.out.addr.resolve_left (by omega)
        obtain rfl : a' = some ⟨b', off', none⟩ := HY.out.addr.resolve_left (by omega)
        have hji : (j : Int) < (len : Int) := by omega
        have HFj := Lib.hid (HF.out j hlt)
        have HN : Hid (atS xs j = atS ys j → ∀ i, i < j + 1 → atS xs i = atS ys i) := Lib.hid (fun h i hi => by
          by_cases e : i = j
          · rw [e]; exact h
          · exact HJ.out i (by omega))
        generalize atS xs j = x at *
        generalize atS ys j = y at *
        by_cases h : x = y
        · have g1 := eqS_true h
          have HN2 := Lib.hid (HN.out h)
          clear h
          go_wp2
          go_quiet (fail)
          go_wp2
          go_roundw
          case rel => exact ⟨j + 1, by omega, by go_num, HN2, Lib.hid (by obtain ⟨n, h⟩ := HW.out; exact ⟨_, by rw [h, drewN_two]⟩)⟩
          case measure => simp [intOf]; omega
        · have g1 := eqS_false h
          have HR := Lib.hid (HFj.out h)
          clear h
          go_wp2
          go_quiet (fail)
          go_wp2
          go_ret
          exact ⟨nretb HR.out.symm, by obtain ⟨n, h⟩ := HW.out; exact ⟨_, by rw [h, drewN_two]⟩⟩
      · obtain rfl : j = len := by omega
        have HR := Lib.hid (HT.out HJ.out)
        go_wp2
        go_ret
        exact ⟨nretb HR.out.symm, HW.out⟩
  · have HF : Hid (sameB xs ys = false) := Lib.hid (decide_eq_false (fun e => hll (by rw [← hlx, ← hly, e])))
    have g1 : ((len : Int) == (len' : Int)) = false := by simp; omega
    have g2 : ((len : Int) != (len' : Int)) = true := by simp; omega
    clear hx hy hlx hly
    generalize sameB xs ys = r at *
    go_enter Tryd.func18, Tryd.ntmps18
    go_wp2
    go_ret
    exact ⟨nretb HF.out.symm, 0, rfl⟩
theorem held_any (n : Int) (h : Nat) (h1 : -9223372036854775808 ≤ n) (h2 : n ≤ 9223372036854775807) (hh : h ≤ 1000) (w : World) : Calls Tryd.prog 11 #[.int .i64 n, .int .i64 0, .int .i64 (h : Int)] w fun e w' => (∃ m : Nat, m ≤ h ∧ e = .returned (.int .i64 (m : Int))) ∧ w = w' := by
  by_cases a : (h : Int) < n
  · go_enter Tryd.func11, Tryd.ntmps11
    go_wp2
    go_ret
    exact ⟨⟨h, Nat.le_refl _, rfl⟩, rfl⟩
  · by_cases b : n < 0
    · have hx : ¬ (h : Int) < n := a
      go_enter Tryd.func11, Tryd.ntmps11
      go_wp2
      go_ret
      exact ⟨⟨0, Nat.zero_le _, rfl⟩, rfl⟩
    · obtain ⟨k, rfl⟩ : ∃ k : Nat, n = (k : Int) := ⟨n.toNat, by omega⟩
      have g1 : decide ((h : Int) < (k : Int)) = false := by simp; omega
      have g2 : decide ((k : Int) < 0) = false := by simp
      go_enter Tryd.func11, Tryd.ntmps11
      go_wp2
      go_ret
      exact ⟨⟨k, by omega, rfl⟩, rfl⟩
/-- The bytes that the reference takes for letters, and for others. -/
theorem oldB (c : Int) : okB c = (decide (97 ≤ c ∧ c ≤ 122) || (decide (48 ≤ c ∧ c ≤ 57) || decide (c = 95))) := by unfold okB letB digB; rw [Bool.or_assoc]
set_option maxHeartbeats 2000000 in
theorem xcheck_any (s : ByteArray) (hs : s.size ≤ maxLen) (w : World) : Calls Tryd.prog 13 #[.string s] w fun e w' => e = .returned (.int .i64 (chkE s)) ∧ w = w' := by
  unfold maxLen at hs
  by_cases h1 : s.size < 1
  · have HE := Lib.hid (chk_no (s := s) (by unfold nameB; rw [decide_eq_false (fun h => by omega)]; rfl))
    have h0 : s.size = 0 := by omega
    generalize chkE s = c at *
    go_enter Tryd.func13, Tryd.ntmps13
    go_wp2
    go_ret
    exact ⟨by rw [HE.out]; rfl, rfl⟩
  · have h1' : 1 ≤ s.size := by omega
    have g0 : decide ((s.size : Int) < 1) = false := by simp; omega
    by_cases h2 : 64 < s.size
    · have HE := Lib.hid (chk_no (s := s) (by unfold nameB; rw [decide_eq_false (fun h => by omega)]; rfl))
      have g1 : decide (64 < (s.size : Int)) = true := by simp; omega
      go_enter Tryd.func13, Tryd.ntmps13
      go_wp2
      go_ret
      exact ⟨by rw [HE.out]; rfl, rfl⟩
    · have g1 : decide (64 < (s.size : Int)) = false := by simp; omega
      have HGood : Hid (letB (byS s 0) = true → okTo s s.size = true → chkE s = 0) := Lib.hid (fun h3 h => chk_yes (chk_good h1' (by omega) h3 h))
      have HBad : Hid (∀ k, k < s.size → okB (byS s k) = false → chkE s = 40) := Lib.hid (fun k hk h => chk_no (chk_bad hk h))
      have HBad0 : Hid (letB (byS s 0) = false → chkE s = 40) := Lib.hid (fun h => chk_no (chk_letter h))
      generalize chkE s = ce at *
      go_enter Tryd.func13, Tryd.ntmps13
      go_wp2
      go_loop [3] (fun i => ∃ k : Nat, i = .int .i64 k ∧ k ≤ s.size ∧ Hid (okTo s k = true) ∧ Hid (k = 0 ∨ letB (byS s 0) = true)) (fun i => s.size - (intOf i).toNat)
      case atStart => exact ⟨0, rfl, Nat.zero_le _, Lib.hid rfl, Lib.hid (.inl rfl)⟩
      case round =>
        obtain ⟨k, rfl, hk, HK, HL0⟩ := hrel
        by_cases hlt : k < s.size
        · have hki : (k : Int) < (s.size : Int) := by omega
          have hb := byS_bd s k
          have hg := byS_get s hlt
          have HBk := Lib.hid (HBad.out k hlt)
          have HS := Lib.hid (okTo_succ s k)
          have HO : Hid (okB (byS s k) = (letB (byS s k) || digB (byS s k) || decide (byS s k = 95))) := Lib.hid rfl
          have HZ : Hid (k = 0 → byS s 0 = byS s k) := Lib.hid (fun h => by rw [h])
          obtain ⟨l0, hl0⟩ : ∃ x, byS s 0 = x := ⟨_, rfl⟩
          rw [hl0] at HL0 HZ HBad0
          have HLL := Lib.hid hl0
          clear hl0
          generalize byS s k = c at *
          obtain ⟨d1, e1⟩ : ∃ d, decide (97 ≤ c) = d := ⟨_, rfl⟩
          obtain ⟨d2, e2⟩ : ∃ d, decide (c ≤ 122) = d := ⟨_, rfl⟩
          obtain ⟨d3, e3⟩ : ∃ d, decide (48 ≤ c) = d := ⟨_, rfl⟩
          obtain ⟨d4, e4⟩ : ∃ d, decide (c ≤ 57) = d := ⟨_, rfl⟩
          obtain ⟨d5, e5⟩ : ∃ d, (c == 95) = d := ⟨_, rfl⟩
          have hlet : letB c = (d1 && d2) := by rw [← e1, ← e2]; unfold letB; simp
          have hdig : digB c = (d3 && d4) := by rw [← e3, ← e4]; unfold digB; simp
          have hun : decide (c = 95) = d5 := by rw [← e5]; rfl
          have HOK : Hid (okB c = ((d1 && d2) || (d3 && d4) || d5)) := Lib.hid (by rw [HO.out, hlet, hdig, hun])
          have HLT := Lib.hid hlet
          clear hlet hdig hun HO
          by_cases h0 : k = 0
          · have HZ2 := Lib.hid (HZ.out h0)
            have g3 : ((k : Int) == 0) = true := by simp; omega
            have HK0 := Lib.hid h0
            clear h0
            cases d1 <;> cases d2 <;> cases d3 <;> cases d4 <;> cases d5
            all_goals first
              | (have HS2 : Hid (okTo s (k + 1) = true) := Lib.hid (by rw [HS.out, HK.out, HOK.out]; rfl)
                 have HL2 : Hid (k + 1 = 0 ∨ letB (byS s 0) = true) := Lib.hid (.inr (by rw [HLL.out, HZ2.out, HLT.out]; rfl))
                 go_wp2
                 go_round
                 case rel => exact ⟨k + 1, by go_num, by omega, HS2, HL2⟩
                 case measure => simp [intOf]; omega)
              | (have HE : Hid (ce = 40) := Lib.hid (HBad0.out (by rw [HZ2.out, HLT.out]; rfl))
                 go_wp2
                 go_ret
                 exact ⟨nret HE.out.symm, rfl⟩)
          · have g3 : ((k : Int) == 0) = false := by simp; omega
            have HL2 : Hid (k + 1 = 0 ∨ letB (byS s 0) = true) := Lib.hid (.inr (by rw [HLL.out]; exact HL0.out.resolve_left h0))
            clear h0
            cases d1 <;> cases d2 <;> cases d3 <;> cases d4 <;> cases d5
            all_goals first
              | (have HS2 : Hid (okTo s (k + 1) = true) := Lib.hid (by rw [HS.out, HK.out, HOK.out]; rfl)
                 go_wp2
                 go_round
                 case rel => exact ⟨k + 1, by go_num, by omega, HS2, HL2⟩
                 case measure => simp [intOf]; omega)
              | (have HE : Hid (ce = 40) := Lib.hid (HBk.out (by rw [HOK.out]; rfl))
                 go_wp2
                 go_ret
                 exact ⟨nret HE.out.symm, rfl⟩)
        · have hke : s.size = k := by omega
          have HE := Lib.hid (HGood.out (HL0.out.resolve_left (by omega)) (by rw [hke]; exact HK.out))
          have hki : ¬ k < s.size := hlt
          clear hke
          go_wp2
          go_ret
          exact ⟨nret HE.out.symm, rfl⟩
end Go.Proofs.YtmilchkemobchaaDoor
