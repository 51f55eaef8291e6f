/- The walk of PairingFirst. -/
import Derived.Test.YtcmgmcooaljjdaaYn
set_option linter.unusedVariables false
set_option linter.unusedSectionVars false
set_option linter.unusedSimpArgs false
namespace Go.Proofs.Ytcmgmcooaljjdaa.L10
open Go.RowKit Go.Shelf Rk

set_option maxRecDepth 100000 in
set_option maxHeartbeats 8000000 in
theorem walk_PairingFirst (a0 : Option Addr) (len0 cap0 : Nat) (z0 : List Int) (a1 : Option Addr) (len1 cap1 : Nat) (z1 : List RopV) (w : World) (w0 : IsRow .i64 w a0 len0 cap0 z0) (w1 : IsRops w a1 len1 cap1 z1) :
    Calls Try.prog 6 #[.slice a0 len0 cap0, .slice a1 len1 cap1] w fun e w' => e = .returned (.bool true) ∧ Below w.heap.size w w' := by
  obtain ⟨b0, off0, zs, hi0, hn0⟩ := w0.zz
  obtain ⟨_, b1, off1, hi1⟩ := w1
  have H0 := Lib.hid hi0
  have HN := Lib.hid hn0
  have H1 := Lib.hid hi1
  obtain rfl := hi0.length
  clear w0 hi0 hn0 hi1
  go_enter Try.func6, Try.ntmps6
  go_wp2_with fail
  refine (alive_any _).mono ?_
  rintro e x1 ⟨rfl, hB1⟩
  have HB1 := Lib.hid hB1
  have HBd := Lib.hid (build_any (cap0 := cap0) (cap1 := cap1) ((H0.out.kept hB1 (Nat.le_refl _)).mono hB1.size) HN.out ((H1.out.kept hB1 (Nat.le_refl _)).mono hB1.size))
  have z1s := hB1.size
  clear hB1
  go_wp2_with fail
  refine HBd.out.mono ?_
  rintro e x2 ⟨hB, hc⟩
  have HB2 := Lib.hid (HB1.out.trans (hB.mono z1s))
  clear hB HBd
  rcases hc with ⟨_, rfl⟩ | ⟨⟨hl30, _⟩, g, nb, lo, Bx, X, rfl, hR, _, _⟩
  · have HB3 := Lib.hid (HB2.out.alloc HB2.out.size (.cells #[.slice none 0 0, .slice none 0 0] 29))
    go_wp2
    go_ret
    exact ⟨rfl, HB3.out⟩
  have hR' := hR.base HB1.out
  have hal := (Below.refl x2.heap.size x2).alloc (Nat.le_refl _) (.cells #[.slice X.wa zs.length X.wc, .slice X.ra zs.length X.rc] 29)
  have HR := Lib.hid (hR'.on hal)
  have HTab := Lib.hid hR.one.tab
  clear hR hR' hal HB2 HB1 z1s
  unfold XD.val
  obtain ⟨F, hF⟩ : ∃ F, joins zs.length noTab z1 = F := ⟨_, rfl⟩
  rw [hF] at HR HTab
  clear hF
  have C1 := Lib.hid (heavy_any HR.out.one)
  go_wp2_with fail
  generalize x2.alloc (.cells #[.slice X.wa zs.length X.wc, .slice X.ra zs.length X.rc] 29) = x3 at *
  refine C1.out.mono ?_
  rintro e x4 ⟨pb, rfl, hp, _, hb⟩
  have HW : Hid (WhR w g nb zs F pb (heavyF zs.length F) x4) := Lib.hid ⟨HR.out.one.below hb, hp, HR.out.below.trans (hb.mono HR.out.below.size)⟩
  clear hp hb C1 HR
  obtain ⟨n, hn⟩ : ∃ n, zs.length = n := ⟨_, rfl⟩
  have HNz := Lib.hid hn
  have HCB : Hid (∀ W, WhR w g nb zs F pb (heavyF n F) W → ∀ a b, a < n → b < n → Calls Try.prog 21 #[.pointer (some ⟨g, 0, none⟩), .int .i64 (a : Int), .int .i64 (b : Int)] W (fun e w' => e = .returned (.int .i64 (F a b)) ∧ Hid (WhR w g nb zs F pb (heavyF n F) w'))) := Lib.hid (fun W hW a b ha hb => (between_lit hW.one hn (a : Int) (b : Int) (btw_nat n F ha hb)).mono (fun e w' ⟨he, ht⟩ => ⟨he, Lib.hid (hW.on (below_of_turned ht))⟩))
  have HCC : Hid (∀ W, WhR w g nb zs F pb (heavyF n F) W → Calls Try.prog 20 #[.slice (some ⟨pb, 0, none⟩) n n] W (fun e w' => e = .returned (.int .i64 ((leftN (heavyF n F) : Nat) : Int)) ∧ Hid (Below w.heap.size w w'))) := Lib.hid (fun W hW => by
    have h1 := hW.part
    rw [hn] at h1
    exact (mcount_any (cap := n) h1 (fun e => by cases e) (by omega)).mono (fun e w' ⟨he, hb⟩ => ⟨he, Lib.hid (hW.below.trans (hb.mono hW.below.size))⟩))
  have HCell : Hid (∀ W, WhR w g nb zs F pb (heavyF n F) W → ∀ i, i < n → W.cell? ⟨pb, i, none⟩ = some (.int .i64 ((heavyF n F).getD i 0))) := Lib.hid (fun W hW i hi => hW.cell (by rw [hn]; exact hi))
  rw [hn] at HW HTab hl30 ⊢
  clear hn
  go_wp2
  go_loopw [27] (fun i wr => ∃ j : Nat, i = .int .i64 j ∧ j ≤ n ∧ Hid (∀ a, a < j → ∀ c, c < n → F a c = 0) ∧ Hid (WhR w g nb zs F pb (heavyF n F) wr)) (fun i _ => n - (intOf i).toNat)
  case atStart => exact ⟨0, rfl, Nat.zero_le _, Lib.hid (fun a ha => absurd ha (Nat.not_lt_zero _)), HW⟩
  case round =>
    clear HW
    obtain ⟨j, rfl, hj, HZ, HW⟩ := hrel
    by_cases hlt : j < n
    · have hji : (j : Int) < (n : Int) := by omega
      go_wp2
      go_loopw [10, 32] (fun sv i wr => ∃ q : Nat, i = .int .i64 q ∧ q ≤ n ∧ sv = .int .i64 (maxTo (F j) q) ∧ Hid (WhR w g nb zs F pb (heavyF n F) wr)) (fun _ i _ => n - (intOf i).toNat)
      case atStart => exact ⟨0, rfl, Nat.zero_le _, rfl, HW⟩
      case round =>
        clear HW
        obtain ⟨q, rfl, hq, rfl, HW⟩ := hrel
        by_cases hlq : q < n
        · have hqi : (q : Int) < (n : Int) := by omega
          have C2 := Lib.hid (HCB.out _ HW.out j q hlt hlq)
          have HS : Hid (maxTo (F j) (q + 1) = max (maxTo (F j) q) (F j q)) := Lib.hid rfl
          generalize maxTo (F j) q = m at *
          generalize F j q = x at *
          go_wp2_with fail
          refine C2.out.mono ?_
          rintro e w5 ⟨rfl, HW5⟩
          clear C2 HW
          go_wp2
          all_goals
            go_roundw
            case rel => exact ⟨q + 1, by go_num, by omega, congrArg (Value.int .i64) (by rw [HS.out]; omega), HW5⟩
            case measure => simp [intOf]; omega
        · obtain rfl : q = n := by omega
          have hmb := maxTo_bd (f := F j) (M := 1099511627776) (fun b => ⟨HTab.out.lo j b, HTab.out.hi j b⟩) (by decide) q
          have HM : Hid (0 < maxTo (F j) q → ∃ b : Nat, (heavyF q F).getD j 0 = (b : Int) ∧ b < q ∧ b ≠ j ∧ F j b = maxTo (F j) q) := Lib.hid (heavy_most HTab.out hlt HZ.out)
          have HMs : Hid (maxTo (F j) q = 0 → (heavyF q F).getD j 0 = (j : Int)) := Lib.hid (heavy_self HTab.out hlt)
          have HZ2 : Hid (maxTo (F j) q = 0 → ∀ a, a < j + 1 → ∀ c, c < q → F a c = 0) := Lib.hid (fun h0 a ha c hc => by
            by_cases e : a = j
            · subst e
              have h1 := maxTo_le (f := F a) hc
              have h2 := HTab.out.lo a c
              omega
            · exact HZ.out a (by omega) c hc)
          have ca := HCell.out _ HW.out j hlt
          obtain ⟨m, hm⟩ : ∃ m, maxTo (F j) q = m := ⟨_, rfl⟩
          rw [hm] at HM HMs HZ2 hmb ⊢
          by_cases hp : 0 < m
          · have g1 : decide (0 < m) = true := by simpa using hp
            obtain ⟨b, h1, h2, h3, h4⟩ := HM.out hp
            have C2 := Lib.hid (HCB.out _ HW.out j b hlt h2)
            rw [h4] at C2
            rw [h1] at ca
            have g2 : ((b : Int) != (j : Int)) = true := by simp; omega
            have g3 : ((b : Int) == (j : Int)) = false := by simp; omega
            clear h1 h2 h3 h4 hm HM HMs HZ2 hp
            go_wp2_with (go_at_call 21; refine C2.out.mono ?_; clear C2; rintro e w5 ⟨rfl, HW5⟩)
            go_ret
            exact ⟨rfl, HW5.out.below⟩
          · have h0 : m = 0 := by omega
            have g1 : decide (0 < m) = false := by simpa using hp
            rw [HMs.out h0] at ca
            have HZ3 := Lib.hid (HZ2.out h0)
            clear h0 hm HM HMs HZ2 hp
            go_wp2
            go_roundw
            case rel => exact ⟨j + 1, by go_num, by omega, HZ3, HW⟩
            case measure => simp [intOf]; omega
    · obtain rfl : j = n := by omega
      have C3 := Lib.hid (HCC.out _ HW.out)
      rw [heavy_none HTab.out HZ.out] at C3
      go_wp2_with fail
      refine C3.out.mono ?_
      rintro e w5 ⟨rfl, HB5⟩
      clear C3
      go_wp2
      go_ret
      exact ⟨rfl, HB5.out⟩
end Go.Proofs.Ytcmgmcooaljjdaa.L10
