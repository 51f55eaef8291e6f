/- The walk of PairingWhole. -/
import Derived.Test.YtcmgmcooaljjdaaYm
set_option linter.unusedVariables false
set_option linter.unusedSectionVars false
set_option linter.unusedSimpArgs false
namespace Go.Proofs.Ytcmgmcooaljjdaa
open Go.RowKit Go.Shelf Rk

/-- A graph, and mates of its things. -/
structure WhR (w : World) (g nb : Nat) (zs : List Int) (F : Nat → Nat → Int) (pb : Nat) (ms : List Int) (W : World) : Prop where
  one : IsG W g nb zs F
  part : IntsAt .i64 W.heap.size W (some ⟨pb, 0, none⟩) pb 0 zs.length ms
  below : Below w.heap.size w W
theorem WhR.on {w W W' : World} {g nb pb : Nat} {zs ms : List Int} {F : Nat → Nat → Int} (h : WhR w g nb zs F pb ms W) (hb : Below W.heap.size W W') : WhR w g nb zs F pb ms W' :=
  ⟨h.one.below hb, (h.part.kept hb (Nat.le_refl _)).mono hb.size, h.below.trans (hb.mono h.below.size)⟩
theorem WhR.cell {w W : World} {g nb pb : Nat} {zs ms : List Int} {F : Nat → Nat → Int} (h : WhR w g nb zs F pb ms W) {i : Nat} (hi : i < zs.length) : W.cell? ⟨pb, i, none⟩ = some (.int .i64 (ms.getD i 0)) := by
  have := h.part.cell i hi
  rwa [Nat.zero_add] at this
/-- Was something between any, so far? -/
def someB (n : Nat) (F : Nat → Nat → Int) (j q : Nat) : Bool := anyR j (fun a => anyR n (fun b => decide (0 < F a b))) || anyR q (fun b => decide (0 < F j b))
theorem someB_step (n : Nat) (F : Nat → Nat → Int) (j q : Nat) : someB n F j (q + 1) = (someB n F j q || decide (0 < F j q)) := by
  unfold someB
  rw [anyR_succ, Bool.or_assoc]
theorem someB_row (n : Nat) (F : Nat → Nat → Int) (j : Nat) : someB n F (j + 1) 0 = someB n F j n := by
  unfold someB
  rw [anyR_succ, anyR_zero, Bool.or_false]
theorem someB_all {n : Nat} {F : Nat → Nat → Int} : someB n F n 0 = true ↔ ∃ a, a < n ∧ ∃ b, b < n ∧ 0 < F a b := by
  unfold someB
  rw [anyR_zero, Bool.or_false, anyR_iff]
  constructor
  · rintro ⟨a, h1, h2⟩
    obtain ⟨b, h3, h4⟩ := anyR_iff.1 h2
    exact ⟨a, h1, b, h3, of_decide_eq_true h4⟩
  · rintro ⟨a, h1, b, h3, h4⟩
    exact ⟨a, h1, anyR_iff.2 ⟨b, h3, decide_eq_true h4⟩⟩
/-- No two are wrong. -/
theorem whole_ok {n : Nat} {F : Nat → Nat → Int} (ht : Tab n F) {a b : Nat} (ha : a < n) (hb : b < n) :
    (((((heavyF n F).getD a 0 == (a : Int)) && ((heavyF n F).getD b 0 == (b : Int))) && decide (0 < F a b)) || ((((heavyF n F).getD a 0 == (b : Int)) && ((a : Int) != (b : Int))) && (F a b == 0))) = false := by
  obtain ⟨c, h1, h2, h3⟩ := heavy_at ht ha
  rw [Bool.or_eq_false_iff]
  constructor
  · refine Bool.eq_false_iff.2 fun h => ?_
    simp only [Bool.and_eq_true, beq_iff_eq, decide_eq_true_eq] at h
    have := heavy_alone ht ha hb h.1.1 h.1.2
    omega
  · refine Bool.eq_false_iff.2 fun h => ?_
    simp only [Bool.and_eq_true, beq_iff_eq, bne_iff_ne, ne_eq] at h
    rw [h1] at h
    have hcb : c = b := by have := h.1.1; omega
    subst hcb
    have := h3 (fun e => h.1.2 (by rw [e]))
    omega
namespace L10
set_option maxRecDepth 100000 in
set_option maxHeartbeats 8000000 in
theorem walk_PairingWhole (a0 : Option Addr) (len0 cap0 : Nat) (z0 : List Int) (a1 : Option Addr) (len1 cap1 : Nat) (z1 : List RopV) (w : World) (w0 : IsRow .i64 w a0 len0 cap0 z0) (w1 : IsRops w a1 len1 cap1 z1) :
    Calls Try.prog 4 #[.slice a0 len0 cap0, .slice a1 len1 cap1] w fun e w' => e = .returned (.bool true) ∧ Below w.heap.size w w' := by
  obtain ⟨b0, off0, zs, hi0, hn0⟩ := w0.zz
  obtain ⟨_, b1, off1, hi1⟩ := w1
  have H0 := Lib.hid hi0
  have HN := Lib.hid hn0
  have H1 := Lib.hid hi1
  obtain rfl := hi0.length
  clear w0 hi0 hn0 hi1
  go_enter Try.func4, Try.ntmps4
  go_wp2_with fail
  refine (alive_any _).mono ?_
  rintro e x1 ⟨rfl, hB1⟩
  have HB1 := Lib.hid hB1
  have HBd := Lib.hid (build_any (cap0 := cap0) (cap1 := cap1) ((H0.out.kept hB1 (Nat.le_refl _)).mono hB1.size) HN.out ((H1.out.kept hB1 (Nat.le_refl _)).mono hB1.size))
  have z1s := hB1.size
  clear hB1
  go_wp2_with fail
  refine HBd.out.mono ?_
  rintro e x2 ⟨hB, hc⟩
  have HB2 := Lib.hid (HB1.out.trans (hB.mono z1s))
  clear hB HBd
  rcases hc with ⟨_, rfl⟩ | ⟨⟨hl30, _⟩, g, nb, lo, Bx, X, rfl, hR, _, _⟩
  · have HB3 := Lib.hid (HB2.out.alloc HB2.out.size (.cells #[.slice none 0 0, .slice none 0 0] 29))
    go_wp2
    go_ret
    exact ⟨rfl, HB3.out⟩
  have hR' := hR.base HB1.out
  have hal := (Below.refl x2.heap.size x2).alloc (Nat.le_refl _) (.cells #[.slice X.wa zs.length X.wc, .slice X.ra zs.length X.rc] 29)
  have HR := Lib.hid (hR'.on hal)
  have HTab := Lib.hid hR.one.tab
  clear hR hR' hal HB2 HB1 z1s
  unfold XD.val
  obtain ⟨F, hF⟩ : ∃ F, joins zs.length noTab z1 = F := ⟨_, rfl⟩
  rw [hF] at HR HTab
  clear hF
  have C1 := Lib.hid (heavy_any HR.out.one)
  go_wp2_with fail
  generalize x2.alloc (.cells #[.slice X.wa zs.length X.wc, .slice X.ra zs.length X.rc] 29) = x3 at *
  refine C1.out.mono ?_
  rintro e x4 ⟨pb, rfl, hp, _, hb⟩
  have HW : Hid (WhR w g nb zs F pb (heavyF zs.length F) x4) := Lib.hid ⟨HR.out.one.below hb, hp, HR.out.below.trans (hb.mono HR.out.below.size)⟩
  clear hp hb C1 HR
  have CR := Lib.hid (mright_lit (cap := zs.length) (v := true) HW.out.part (heavy_right HTab.out))
  obtain ⟨n, hn⟩ : ∃ n, zs.length = n := ⟨_, rfl⟩
  have HNz := Lib.hid hn
  have HCB : Hid (∀ W, WhR w g nb zs F pb (heavyF n F) W → ∀ a b, a < n → b < n → Calls Try.prog 21 #[.pointer (some ⟨g, 0, none⟩), .int .i64 (a : Int), .int .i64 (b : Int)] W (fun e w' => e = .returned (.int .i64 (F a b)) ∧ Hid (WhR w g nb zs F pb (heavyF n F) w'))) := Lib.hid (fun W hW a b ha hb => (between_lit hW.one hn (a : Int) (b : Int) (btw_nat n F ha hb)).mono (fun e w' ⟨he, ht⟩ => ⟨he, Lib.hid (hW.on (below_of_turned ht))⟩))
  have HCC : Hid (∀ W, WhR w g nb zs F pb (heavyF n F) W → Calls Try.prog 20 #[.slice (some ⟨pb, 0, none⟩) n n] W (fun e w' => e = .returned (.int .i64 ((leftN (heavyF n F) : Nat) : Int)) ∧ Hid (Below w.heap.size w w'))) := Lib.hid (fun W hW => by
    have h1 := hW.part
    rw [hn] at h1
    exact (mcount_any (cap := n) h1 (fun e => by cases e) (by omega)).mono (fun e w' ⟨he, hb⟩ => ⟨he, Lib.hid (hW.below.trans (hb.mono hW.below.size))⟩))
  have HCell : Hid (∀ W, WhR w g nb zs F pb (heavyF n F) W → ∀ i, i < n → W.cell? ⟨pb, i, none⟩ = some (.int .i64 ((heavyF n F).getD i 0))) := Lib.hid (fun W hW i hi => hW.cell (by rw [hn]; exact hi))
  rw [hn] at HW HTab CR hl30 ⊢
  clear hn
  go_wp2_with (go_at_call 16; refine CR.out.mono ?_; clear CR; rintro e w' ⟨rfl, rfl⟩)
  go_loopw [9, 39] (fun sv i wr => ∃ j : Nat, i = .int .i64 j ∧ j ≤ n ∧ sv = .bool (someB n F j 0) ∧ Hid (WhR w g nb zs F pb (heavyF n F) wr)) (fun _ i _ => n - (intOf i).toNat)
  case atStart => exact ⟨0, rfl, Nat.zero_le _, rfl, HW⟩
  case round =>
    clear HW
    obtain ⟨j, rfl, hj, rfl, HW⟩ := hrel
    by_cases hlt : j < n
    · have hji : (j : Int) < (n : Int) := by omega
      go_wp2
      go_loopw [9, 44] (fun sv i wr => ∃ q : Nat, i = .int .i64 q ∧ q ≤ n ∧ sv = .bool (someB n F j q) ∧ Hid (WhR w g nb zs F pb (heavyF n F) wr)) (fun _ i _ => n - (intOf i).toNat)
      case atStart => exact ⟨0, rfl, Nat.zero_le _, rfl, HW⟩
      case round =>
        clear HW
        obtain ⟨q, rfl, hq, rfl, HW⟩ := hrel
        by_cases hlq : q < n
        · have hqi : (q : Int) < (n : Int) := by omega
          have C2 := Lib.hid (HCB.out _ HW.out j q hlt hlq)
          have HS := Lib.hid (someB_step n F j q)
          have hok := whole_ok HTab.out hlt hlq
          have HCa := Lib.hid (fun W (hW : WhR w g nb zs F pb (heavyF n F) W) => HCell.out W hW j hlt)
          have HCb := Lib.hid (fun W (hW : WhR w g nb zs F pb (heavyF n F) W) => HCell.out W hW q hlq)
          obtain ⟨sb, hsb⟩ : ∃ sb, someB n F j q = sb := ⟨_, rfl⟩
          obtain ⟨x, hx⟩ : ∃ x, F j q = x := ⟨_, rfl⟩
          obtain ⟨ya, hya⟩ : ∃ x, (heavyF n F).getD j 0 = x := ⟨_, rfl⟩
          obtain ⟨yb, hyb⟩ : ∃ x, (heavyF n F).getD q 0 = x := ⟨_, rfl⟩
          rw [hx, hya, hyb] at hok
          rw [hsb, hx] at HS
          rw [hsb]
          rw [hx] at C2
          rw [hya] at HCa
          rw [hyb] at HCb
          clear hsb hx hya hyb
          obtain ⟨d1, e1⟩ : ∃ d, (ya == (j : Int)) = d := ⟨_, rfl⟩
          obtain ⟨d2, e2⟩ : ∃ d, (yb == (q : Int)) = d := ⟨_, rfl⟩
          obtain ⟨d3, e3⟩ : ∃ d, decide (0 < x) = d := ⟨_, rfl⟩
          obtain ⟨d4, e4⟩ : ∃ d, (ya == (q : Int)) = d := ⟨_, rfl⟩
          obtain ⟨d5, e5⟩ : ∃ d, ((j : Int) != (q : Int)) = d := ⟨_, rfl⟩
          obtain ⟨d6, e6⟩ : ∃ d, (x == 0) = d := ⟨_, rfl⟩
          rw [e1, e2, e3, e4, e5, e6] at hok
          rw [e3] at HS
          have HOK := Lib.hid hok
          clear hok
          go_wp2_with fail
          refine C2.out.mono ?_
          rintro e w5 ⟨rfl, HW5⟩
          have ca := HCa.out _ HW5.out
          have cb := HCb.out _ HW5.out
          clear C2 HW HCa HCb
          cases sb <;> cases d1 <;> cases d2 <;> cases d3 <;> cases d4 <;> cases d5 <;> cases d6
          all_goals first
            | exact absurd HOK.out (by decide)
            | (clear HOK
               go_wp2
               go_roundw
               case rel => exact ⟨q + 1, by go_num, by omega, by rw [HS.out]; rfl, HW5⟩
               case measure => simp [intOf]; omega)
        · obtain rfl : q = n := by omega
          have HS := Lib.hid (someB_row q F j)
          go_wp2
          go_roundw
          case rel => exact ⟨j + 1, by go_num, by omega, by rw [HS.out], HW⟩
          case measure => simp [intOf]; omega
    · obtain rfl : j = n := by omega
      have C3 := Lib.hid (HCC.out _ HW.out)
      obtain ⟨hl0, hl1, hl2, hl3⟩ := left_heavy HTab.out
      have hall := someB_all (n := j) (F := F)
      rw [← hl3] at hall
      obtain ⟨sb, hsb⟩ : ∃ sb, someB j F j 0 = sb := ⟨_, rfl⟩
      rw [hsb] at hall ⊢
      generalize leftN (heavyF j F) = N at *
      have g1 : decide ((j : Int) ≤ 2 * (N : Int)) = true := by simp; omega
      clear hl0 hl3 hsb
      go_wp2_with fail
      refine C3.out.mono ?_
      rintro e w5 ⟨rfl, HB5⟩
      clear C3
      cases sb with
      | true =>
        have g2 : decide (N < j) = true := by simp; exact hall.1 rfl
        have g3 : N < j := hall.1 rfl
        clear hall
        go_wp2
        go_ret
        exact ⟨rfl, HB5.out⟩
      | false =>
        have g3 : ¬ N < j := fun h => by have := hall.2 h; cases this
        have g2 : decide (N < j) = false := by simp; omega
        clear hall
        go_wp2
        go_ret
        exact ⟨rfl, HB5.out⟩
end L10
end Go.Proofs.Ytcmgmcooaljjdaa
