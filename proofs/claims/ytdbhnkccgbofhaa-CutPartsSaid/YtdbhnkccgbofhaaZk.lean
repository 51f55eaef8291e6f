/- The walk of CutBounds. -/
import Derived.Test.YtdbhnkccgbofhaaZj
set_option linter.unusedVariables false
set_option linter.unusedSectionVars false
namespace Go.Proofs.Ytdbhnkccgbofhaa
open Go.RowKit Rk

theorem IsRow.zs {k : IntKind} {w : World} {a : Option Addr} {len cap : Nat} {z : List Int} (h : IsRow k w a len cap z) : ∃ b off zs, IntsAt k w.heap.size w a b off len zs ∧ (a = none → len = 0 ∧ cap = 0) := by
  obtain ⟨b, off, hi⟩ := h.ints
  exact ⟨b, off, _, hi, fun e => by subst e; exact h.nil⟩
/-- A part weighs nothing just if no thing has it. -/
theorem wtsT_zero {ws ms : List Int} (hw : ∀ x ∈ ws, 1 ≤ x ∧ x ≤ 1099511627776) (hl : ms.length = ws.length) (hp : ∀ p ∈ ms, 0 ≤ p) : ∀ j, j ≤ ws.length → ∀ p : Nat, wtsT ws ms j p = 0 ↔ ¬ (p : Int) ∈ ms.take j
  | 0, _, p => by simp [wtsT]
  | j + 1, hj, p => by
    have h1 := wtsT_zero hw hl hp j (by omega) p
    have hjm : j < ms.length := by omega
    have h2 := (wtsT_bd ms hw j (by omega) p).1
    have h3 := getD_wts hw (k := j) (by omega)
    have h4 := hp (ms.getD j 0) (by rw [List.getD_eq_getElem?_getD, List.getElem?_eq_getElem hjm]; exact List.getElem_mem _)
    rw [mem_take_succ' ms hjm]
    simp only [wtsT, upd]
    by_cases e : p = (ms.getD j 0).toNat
    · rw [if_pos e, ← e]
      exact ⟨fun h => by omega, fun h => absurd (.inl (by omega)) h⟩
    · rw [if_neg e, h1]
      exact ⟨fun h h5 => by rcases h5 with h5 | h5; omega; exact h h5, fun h h5 => h (.inr h5)⟩
theorem maxT_ge {ws : List Int} : ∀ j, ∀ i, i < j → ws.getD i 0 ≤ maxT ws j
  | 0, i, h => absurd h (Nat.not_lt_zero _)
  | j + 1, i, h => by
    simp only [maxT]
    by_cases e : i = j
    · subst e; omega
    · have := maxT_ge (ws := ws) j i (by omega); omega
theorem upV_mul {a b : Int} (h1 : 0 ≤ a) (h2 : 1 ≤ b) : a ≤ upV a b * b := by
  unfold upV
  split
  · omega
  · rename_i h
    have h3 := Int.lt_ediv_add_one_mul_self (a - 1) (show 0 < b by omega)
    omega
theorem upV_mono {a b : Int} (h1 : 0 ≤ a) (h2 : 1 ≤ b) : upV a (b + 1) ≤ upV a b := by
  unfold upV
  by_cases h : a < 1
  · rw [if_pos (.inl h), if_pos (.inl h)]; exact Int.le_refl _
  · rw [if_neg (by omega), if_neg (by omega)]
    have h3 : (a - 1) / (b + 1) ≤ (a - 1) / b := by
      have h4 : (a - 1) / (b + 1) * b ≤ a - 1 := by
        have h5 := Int.ediv_mul_le (a - 1) (show b + 1 ≠ 0 by omega)
        have h6 : 0 ≤ (a - 1) / (b + 1) := Int.ediv_nonneg (by omega) (by omega)
        have h7 : (a - 1) / (b + 1) * (b + 1) = (a - 1) / (b + 1) * b + (a - 1) / (b + 1) := by rw [Int.mul_add, Int.mul_one]
        omega
      exact (Int.le_ediv_iff_mul_le (by omega)).2 h4
    omega
theorem bound_facts {ws : List Int} (hw : ∀ x ∈ ws, 1 ≤ x ∧ x ≤ 1099511627776) (hs : ws.length ≤ 30) {k : Int} (h1 : 1 ≤ k) (h2 : k ≤ 60) :
    ∃ bd, boundF ws k = bd ∧ 0 ≤ bd ∧ bd ≤ 40000000000000 ∧ ws.sum ≤ bd * k ∧ boundF ws (k + 1) ≤ bd ∧ boundF ws 0 = 0 ∧ boundF ws 4097 = 0 ∧ ∀ i, i < ws.length → ws.getD i 0 ≤ bd := by
  have hb := sum_bd hw
  have hm := maxT_bd hw ws.length (Nat.le_refl _)
  have hu := upV_bd (a := ws.sum) (b := k) hb.1
  have hu2 := upV_mul (a := ws.sum) hb.1 h1
  have hu3 := upV_mono (a := ws.sum) hb.1 h1
  have e1 : boundF ws k = upV ws.sum k + maxT ws ws.length := if_pos (decide_eq_true ⟨h1, by omega⟩)
  have e2 : boundF ws (k + 1) = upV ws.sum (k + 1) + maxT ws ws.length := if_pos (decide_eq_true ⟨by omega, by omega⟩)
  refine ⟨_, e1, by omega, by omega, ?_, by rw [e2]; omega, if_neg (by simp [withinF]), if_neg (by simp [withinF]), fun i hi => ?_⟩
  · have h3 : 0 ≤ maxT ws ws.length * k := Int.mul_nonneg hm.1 (by omega)
    rw [Int.add_mul]; omega
  · have := maxT_ge (ws := ws) _ i hi; omega
namespace L09
/-- What stands behind a build: a graph, and what lay before. -/
structure BdR (w : World) (g nb : Nat) (zs : List Int) (F : Nat → Nat → Int) (W : World) : Prop where
  one : IsG W g nb zs F
  below : Below w.heap.size w W
theorem BdR.on {w W W' : World} {g nb : Nat} {zs : List Int} {F : Nat → Nat → Int} (h : BdR w g nb zs F W) (hb : Below W.heap.size W W') : BdR w g nb zs F W' := ⟨h.one.below hb, h.below.trans (hb.mono h.below.size)⟩
set_option maxRecDepth 100000 in
set_option maxHeartbeats 8000000 in
theorem walk_CutBounds (a0 : Option Addr) (len0 cap0 : Nat) (z0 : List Int) (a1 : Option Addr) (len1 cap1 : Nat) (z1 : List RopV) (a2 : Option Addr) (len2 cap2 : Nat) (z2 : List Int) (a3 : Int) (w : World) (w0 : IsRow .i64 w a0 len0 cap0 z0) (w1 : IsRops w a1 len1 cap1 z1) (w2 : IsRow .i64 w a2 len2 cap2 z2) (w3 : (Lit.int .i64 a3).wf = true) :
    Calls Try.prog 6 #[.slice a0 len0 cap0, .slice a1 len1 cap1, .slice a2 len2 cap2, .int .i64 a3] w fun e w' => e = .returned (.bool true) ∧ Below w.heap.size w w' := by
  obtain ⟨b0, off0, zs, hi0, hn0⟩ := w0.zs
  obtain ⟨_, b1, off1, hi1⟩ := w1
  obtain ⟨b2, off2, ms, hi2, _⟩ := w2.zs
  have H0 := Lib.hid hi0
  have HN := Lib.hid hn0
  have H1 := Lib.hid hi1
  have H2 := Lib.hid hi2
  have HL0 := Lib.hid hi0.length
  have HL2 := Lib.hid hi2.length
  clear w0 w2 hi0 hn0 hi1 hi2 w3
  go_enter Try.func6, Try.ntmps6
  go_wp2_with fail
  refine (alive_any _).mono ?_
  rintro e x1 ⟨rfl, hB1⟩
  have HB1 := Lib.hid hB1
  have HBd := Lib.hid (build_any (cap0 := cap0) (cap1 := cap1) ((H0.out.kept hB1 (Nat.le_refl _)).mono hB1.size) HN.out ((H1.out.kept hB1 (Nat.le_refl _)).mono hB1.size))
  have z1s := hB1.size
  clear hB1
  go_wp2_with fail
  refine HBd.out.mono ?_
  rintro e x2 ⟨hB, hc⟩
  have HB2 := Lib.hid (HB1.out.trans (hB.mono z1s))
  clear hB HBd HB1
  rcases hc with ⟨_, rfl⟩ | ⟨⟨hl30, _⟩, g, nb, lo, Bx, X, rfl, hR, _, _⟩
  · have HB3 := Lib.hid (HB2.out.alloc HB2.out.size (.cells #[.slice none 0 0, .slice none 0 0] 29))
    go_wp2
    go_ret
    exact ⟨by simp, HB3.out⟩
  have hal := (Below.refl x2.heap.size x2).alloc (Nat.le_refl _) (.cells #[.slice X.wa zs.length X.wc, .slice X.ra zs.length X.rc] 29)
  have HR := Lib.hid (BdR.on ⟨hR.one, HB2.out⟩ hal)
  have HW := Lib.hid hR.one.wts
  clear hR HB2 hal
  rw [HL0.out] at hl30
  unfold XD.val
  by_cases hk : ¬ (1 ≤ a3 ∧ a3 ≤ 60)
  · obtain ⟨y1, hy1⟩ : ∃ y, decide (a3 < 1) = y := ⟨_, rfl⟩
    obtain ⟨y2, hy2⟩ : ∃ y, decide (60 < a3) = y := ⟨_, rfl⟩
    have hor : (y1 || y2) = true := by rw [← hy1, ← hy2]; simp; omega
    clear hk
    cases y1 <;> cases y2 <;> first
      | (simp at hor; done)
      | (go_wp2
         go_ret
         exact ⟨by simp, HR.out.below⟩)
  have hk' := Classical.not_not.1 hk
  have d1 : decide (a3 < 1) = false := by simp; omega
  have d2 : decide (60 < a3) = false := by simp; omega
  clear hk
  by_cases h60 : 60 < len2
  · have d3 : decide (60 < (len2 : Int)) = true := by simp; omega
    go_wp2
    go_ret
    exact ⟨by simp, HR.out.below⟩
  have d3 : decide (60 < (len2 : Int)) = false := by simp; omega
  go_upto_region 6 with fail
  revert HR
  generalize x2.alloc (.cells #[.slice X.wa zs.length X.wc, .slice X.ra zs.length X.rc] 29) = x3
  intro HR
  obtain ⟨bd, hbd, hbd0, hbd1, hbm, hbk, hb0, hb4, hbw⟩ := bound_facts HW.out (by rw [HL0.out]; exact hl30) hk'.1 hk'.2
  have HBW := Lib.hid hbw
  have C1 := Lib.hid (bound_any HR.out.one a3)
  have C2 := Lib.hid (bound_any HR.out.one (a3 + 1))
  have C3 := Lib.hid (bound_any HR.out.one 0)
  have C4 := Lib.hid (bound_any HR.out.one 4097)
  have CT := Lib.hid (total_any HR.out.one)
  rw [hbd] at C1
  rw [hb0] at C3
  rw [hb4] at C4
  generalize boundF zs (a3 + 1) = bd2 at *
  obtain ⟨s, hs⟩ : ∃ s, zs.sum = s := ⟨_, rfl⟩
  rw [hs] at CT hbm
  have hmul : bd * a3 ≤ 2400000000000000 := by
    have := Int.mul_le_mul hbd1 hk'.2 (by omega) (by omega)
    omega
  have hmul0 : 0 ≤ bd * a3 := Int.mul_nonneg hbd0 (by omega)
  obtain ⟨bm, hbm'⟩ : ∃ bm, bd * a3 = bm := ⟨_, rfl⟩
  have hw1 : IntKind.i64.wrap bm = bm := IntWalk.i64_in _ (by rw [← hbm']; omega)
  have hw0 : wrap64 bm = bm := IntWalk.wrap64_in _ ⟨by rw [← hbm']; omega, by rw [← hbm']; omega⟩
  have hw2 : IntKind.i64.wrap (a3 + 1) = a3 + 1 := IntWalk.i64_in _ (by omega)
  rw [hbm'] at hbm hmul hmul0
  have e1 : decide (bm < s) = false := by simp; omega
  have e2 : decide (bd < bd2) = false := by simp; omega
  clear hbd hb0 hb4 hbw hs hbm hbk hmul hmul0
  go_wp2_with (first
    | (go_at_call 20; refine C1.out.mono ?_; clear C1; rintro e w' ⟨rfl, rfl⟩)
    | (go_at_call 31; refine CT.out.mono ?_; clear CT; rintro e w' ⟨rfl, rfl⟩)
    | (go_at_call 20; refine C2.out.mono ?_; clear C2; rintro e w' ⟨rfl, rfl⟩)
    | (go_at_call 20; refine C3.out.mono ?_; clear C3; rintro e w' ⟨rfl, rfl⟩)
    | (go_at_call 20; refine C4.out.mono ?_; clear C4; rintro e w' ⟨rfl, rfl⟩))
  clear hw0 hw1 e1 e2 hw2 hbm'
  go_loop [71] (fun i => ∃ j : Nat, j ≤ len0 ∧ i = .int .i64 j) (fun i => len0 - (intOf i).toNat)
  case atStart => exact ⟨0, Nat.zero_le _, rfl⟩
  case round =>
    obtain ⟨j, hj, rfl⟩ := hrel
    by_cases hlt : j < len0
    · have hI := H0.out.kept HR.out.below (Nat.le_refl _)
      have hcell := hI.cell j hlt
      obtain rfl : a0 = some ⟨b0, off0, none⟩ := H0.out.addr.resolve_left (by omega)
      have hb := HBW.out j (by rw [HL0.out]; exact hlt)
      have hd : decide (bd < zs.getD j 0) = false := by simp only [decide_eq_false_iff_not]; omega
      generalize zs.getD j 0 = y at *
      clear hI hb
      go_wp2
      go_round
      case rel => exact ⟨j + 1, by omega, by go_num⟩
      case measure => simp [intOf]; omega
    · obtain rfl : j = len0 := by omega
      have hI2 := (H2.out.kept HR.out.below (Nat.le_refl _)).mono HR.out.below.size
      have CR := Lib.hid (cright_any (cap := cap2) HR.out.one hI2 (Nat.le_refl _) a3)
      cases hr : rightP zs.length ms a3 with
      | false =>
        rw [hr] at CR
        clear hr hI2
        go_wp2_with fail
        refine CR.out.mono ?_
        rintro e x4 ⟨rfl, hb⟩
        have HB4 := Lib.hid (HR.out.on hb).below
        clear hb
        go_wp2
        go_ret
        exact ⟨rfl, HB4.out⟩
      | true =>
        rw [hr] at CR
        have hrt := rightP_t hr
        have HRP := Lib.hid hr
        obtain ⟨kk, rfl⟩ : ∃ kk : Nat, a3 = (kk : Int) := ⟨a3.toNat, by omega⟩
        have HZ : Hid (∀ p : Nat, wtsT zs ms zs.length p = 0 ↔ ¬ (p : Int) ∈ ms) := Lib.hid (fun p => by
          rw [wtsT_zero HW.out hrt.1 (fun q hq => (hrt.2.2 q hq).1) _ (Nat.le_refl _) p, List.take_of_length_le (by rw [hrt.1]; exact Nat.le_refl _)])
        clear hr hI2 hrt
        go_wp2_with fail
        refine CR.out.mono ?_
        rintro e x4 ⟨rfl, hb⟩
        have HR4 := Lib.hid (HR.out.on hb)
        clear hb CR
        have CW := Lib.hid (weights_any (cap := cap2) HR4.out.one ((H2.out.kept HR4.out.below (Nat.le_refl _)).mono HR4.out.below.size) (kk : Int))
        go_wp2_with fail
        refine CW.out.mono ?_
        rintro e x5 (⟨h0, _⟩ | ⟨_, wb, rfl, hWt⟩)
        · rw [HRP.out] at h0; cases h0
        have HR5 := Lib.hid (HR4.out.on hWt.below)
        have HWt := Lib.hid hWt
        clear hWt CW
        rw [Int.toNat_natCast] at HWt ⊢
        have CE := Lib.hid (lempty_any (cap := cap2) ((H2.out.kept HR5.out.below (Nat.le_refl _)).mono HR5.out.below.size) (by omega) (kk : Int) (by omega) 1000 (by decide))
        rw [Int.toNat_natCast, List.take_of_length_le (by have := emptyL_length (fun x => decide (x ∈ ms)) kk; omega)] at CE
        go_wp2
        go_loop [15, 89] (fun c i => ∃ j : Nat, j ≤ kk ∧ i = .int .i64 j ∧ c = .int .i64 ((emptyL (fun x => decide (x ∈ ms)) j).length : Nat)) (fun _ i => kk - (intOf i).toNat)
        case atStart => exact ⟨0, Nat.zero_le _, rfl, rfl⟩
        case round =>
          obtain ⟨j', hj', rfl, rfl⟩ := hrel
          by_cases hlt' : j' < kk
          · have hcell : x5.cell? ⟨wb, j', none⟩ = some (.int .i64 (wtsT zs ms zs.length j')) := heap_cell HWt.out.row (rowC_at _ hlt')
            have hz := HZ.out j'
            have hel := emptyL_length (fun x => decide (x ∈ ms)) j'
            have HE : Hid ((emptyL (fun x => decide (x ∈ ms)) (j' + 1)).length = (emptyL (fun x => decide (x ∈ ms)) j').length + if wtsT zs ms zs.length j' = 0 then 1 else 0) := Lib.hid (by
              rw [emptyL, List.length_append]
              by_cases e : (j' : Int) ∈ ms
              · rw [if_pos (by simpa using e), if_neg (fun h => hz.1 h e)]; rfl
              · rw [if_neg (by simpa using e), if_pos (hz.2 e)]; rfl)
            generalize (emptyL (fun x => decide (x ∈ ms)) j').length = c at *
            generalize wtsT zs ms zs.length j' = y at *
            have hw5 : IntKind.i64.wrap ((c : Int) + 1) = (c : Int) + 1 := IntWalk.i64_in _ (by omega)
            clear hz
            by_cases hy : y = 0
            · subst hy
              go_wp2
              go_round
              case rel => exact ⟨j' + 1, by omega, by go_num, by rw [HE.out, if_pos rfl]; simp⟩
              case measure => simp [intOf]; omega
            · have hyb : (y == 0) = false := by simpa using hy
              go_wp2
              go_round
              case rel => exact ⟨j' + 1, by omega, by go_num, by rw [HE.out, if_neg hy]; rfl⟩
              case measure => simp [intOf]; omega
          · obtain rfl : j' = kk := by omega
            go_wp2_with fail
            refine CE.out.mono ?_
            rintro e x6 ⟨v, rfl, hg, hb⟩
            obtain ⟨a6, cap6, rfl⟩ := hg.slice
            have HB6 := Lib.hid (HR5.out.on hb).below
            clear hg hb
            go_wp2
            go_ret
            exact ⟨by simp, HB6.out⟩
end L09
end Go.Proofs.Ytdbhnkccgbofhaa
