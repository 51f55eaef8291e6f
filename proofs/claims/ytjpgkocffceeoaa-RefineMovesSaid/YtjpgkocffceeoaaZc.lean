/- Contracts: what a part may weigh; whether parts fit. -/
import Derived.Test.YtjpgkocffceeoaaZb
import Derived.IntWalk
set_option linter.unusedVariables false
set_option linter.unusedSectionVars false
namespace Go.Proofs.Ytjpgkocffceeoaa
open Go.RowKit Rk

def upV (a b : Int) : Int := if a < 1 ∨ b < 1 then 0 else (a - 1) / b + 1
theorem up_any (a b : Int) (w : World) (a1 : -9223372036854775808 ≤ a) (a2 : a ≤ 9223372036854775807) (b1 : -9223372036854775808 ≤ b) (b2 : b ≤ 9223372036854775807) :
    Calls Try.prog 44 #[.int .i64 a, .int .i64 b] w fun e w' => e = .returned (.int .i64 (upV a b)) ∧ w = w' := by
  by_cases ha : a < 1
  · have H : Hid (upV a b = 0) := Lib.hid (by unfold upV; exact if_pos (.inl ha))
    go_enter Try.func44, Try.ntmps44
    go_wp2
    go_ret
    exact ⟨ret1 H.out.symm, rfl⟩
  · by_cases hb : b < 1
    · have H : Hid (upV a b = 0) := Lib.hid (by unfold upV; exact if_pos (.inr hb))
      go_enter Try.func44, Try.ntmps44
      go_wp2
      go_ret
      exact ⟨ret1 H.out.symm, rfl⟩
    · have H : Hid (upV a b = (a - 1) / b + 1) := Lib.hid (by unfold upV; exact if_neg (by omega))
      have hd := IntWalk.tdiv_le (a - 1) b (by omega) (by omega)
      have hb0 : (b == 0) = false := by simp; omega
      go_enter Try.func44, Try.ntmps44
      go_wp2
      go_ret
      exact ⟨ret1 H.out.symm, rfl⟩
/-- The greatest of the first j. -/
def maxT (ws : List Int) : Nat → Int
  | 0 => 0
  | j + 1 => max (maxT ws j) (ws.getD j 0)
theorem maxT_bd {ws : List Int} (hw : ∀ x ∈ ws, 1 ≤ x ∧ x ≤ 1099511627776) : ∀ j, j ≤ ws.length → 0 ≤ maxT ws j ∧ maxT ws j ≤ 1099511627776
  | 0, _ => by simp [maxT]
  | j + 1, hj => by
    have h1 := maxT_bd hw j (by omega)
    have h3 := getD_wts hw (k := j) (by omega)
    simp only [maxT]
    omega
theorem sum_bd {ws : List Int} (hw : ∀ x ∈ ws, 1 ≤ x ∧ x ≤ 1099511627776) : 0 ≤ ws.sum ∧ ws.sum ≤ 1099511627776 * (ws.length : Int) := by
  induction ws with
  | nil => simp
  | cons x l ih =>
    have h1 := ih (fun y hy => hw y (List.mem_cons_of_mem _ hy))
    have h2 := hw x (List.mem_cons_self ..)
    rw [List.sum_cons, List.length_cons]
    omega
theorem upV_bd {a b : Int} (h1 : 0 ≤ a) : 0 ≤ upV a b ∧ upV a b ≤ a := by
  unfold upV
  split
  · omega
  · rename_i h
    have hb : 1 ≤ b := by omega
    have h3 : 0 ≤ (a - 1) / b := Int.ediv_nonneg (by omega) (by omega)
    have h4 : (a - 1) / b ≤ a - 1 := Int.ediv_le_self _ (by omega)
    omega
/-- What a part may weigh. -/
def boundF (ws : List Int) (k : Int) : Int := if withinF k 1 4096 = true then upV ws.sum k + maxT ws ws.length else 0
set_option maxRecDepth 100000 in
set_option maxHeartbeats 1000000 in
theorem bound_any {w : World} {g nb : Nat} {ws : List Int} {F : Nat → Nat → Int} (h : IsG w g nb ws F) (k : Int) :
    Calls Try.prog 14 #[.pointer (some ⟨g, 0, none⟩), .int .i64 k] w fun e w' => e = .returned (.int .i64 (boundF ws k)) ∧ w = w' := by
  have HK := Lib.hid (rcount_any k)
  cases hr : withinF k 1 4096 with
  | false =>
    rw [hr] at HK
    have H : Hid (boundF ws k = 0) := Lib.hid (by unfold boundF; rw [if_neg (by rw [hr]; simp)])
    clear h hr
    go_enter Try.func14, Try.ntmps14
    go_wp2_with (go_at_call 39; refine (HK.out _).mono ?_; rintro e w' ⟨rfl, rfl⟩)
    go_ret
    exact ⟨ret1 H.out.symm, rfl⟩
  | true =>
    rw [hr] at HK
    have hk := of_decide_eq_true hr
    have HL := Lib.hid (glen_any h)
    have HT := Lib.hid (total_any h)
    have hsb := sum_bd h.wts
    have hub := upV_bd (a := ws.sum) (b := k) hsb.1
    have HU := Lib.hid (up_any ws.sum k w (by omega) (by have := h.small; omega) (by omega) (by omega))
    have H : Hid (boundF ws k = upV ws.sum k + maxT ws ws.length) := Lib.hid (by unfold boundF; rw [if_pos hr])
    have hmb := fun j hj => maxT_bd h.wts j hj
    have HMB := Lib.hid hmb
    have hsm := h.small
    have HH := Lib.hid h
    obtain ⟨n, hn⟩ : ∃ n, ws.length = n := ⟨_, rfl⟩
    have HN := Lib.hid hn
    rw [hn] at HL H hsm HMB hsb
    generalize ws.sum = s at *
    generalize upV s k = u at *
    clear h hr hmb hn
    go_enter Try.func14, Try.ntmps14
    go_wp2_with (first
      | (go_at_call 39; refine (HK.out _).mono ?_; rintro e w' ⟨rfl, rfl⟩)
      | (go_at_call 38; refine HL.out.mono ?_; rintro e w' ⟨rfl, rfl⟩))
    go_loop [5, 16] (fun m i => ∃ (j : Nat) (x : Int), j ≤ n ∧ i = .int .i64 j ∧ m = .int .i64 x ∧ Hid (maxT ws j = x)) (fun _ i => n - (intOf i).toNat)
    case atStart => exact ⟨0, 0, Nat.zero_le _, rfl, rfl, Lib.hid rfl⟩
    case round =>
      obtain ⟨j, x, hj, rfl, rfl, hx⟩ := hrel
      by_cases hlt : j < n
      · have hwt : wtOf ws (j : Int) = ws.getD j 0 := by unfold wtOf; rw [if_pos ⟨by omega, by rw [HN.out]; omega⟩, Int.toNat_natCast]
        have HG := Lib.hid (weight_lit HH.out j hwt)
        have HS : Hid (maxT ws (j + 1) = max x (ws.getD j 0)) := Lib.hid (by rw [← hx.out]; rfl)
        generalize ws.getD j 0 = y at *
        clear hwt
        by_cases hxy : x < y
        · have hm1 : max x y = y := by omega
          have hm2 : x ≤ y := by omega
          have hm3 : ¬ y ≤ x := by omega
          have hm4 : ¬ y < x := by omega
          rw [hm1] at HS
          go_wp2_with (go_at_call 43; refine HG.out.mono ?_; rintro e w' ⟨rfl, rfl⟩)
          go_round
          case rel => exact ⟨j + 1, y, by omega, by go_num, rfl, HS⟩
          case measure => simp [intOf]; omega
        · have hm1 : max x y = x := by omega
          have hm2 : y ≤ x := by omega
          rw [hm1] at HS
          by_cases heq : x = y
          · subst heq
            go_wp2_with (go_at_call 43; refine HG.out.mono ?_; rintro e w' ⟨rfl, rfl⟩)
            go_round
            case rel => exact ⟨j + 1, x, by omega, by go_num, rfl, HS⟩
            case measure => simp [intOf]; omega
          · have hm3 : ¬ x ≤ y := by omega
            have hm4 : y < x := by omega
            go_wp2_with (go_at_call 43; refine HG.out.mono ?_; rintro e w' ⟨rfl, rfl⟩)
            go_round
            case rel => exact ⟨j + 1, x, by omega, by go_num, rfl, HS⟩
            case measure => simp [intOf]; omega
      · obtain rfl : j = n := by omega
        have hxb := HMB.out j (Nat.le_refl _)
        rw [hx.out] at hxb H
        have hw : IntKind.i64.wrap (u + x) = u + x := IntWalk.i64_in _ (by omega)
        go_wp2_with (first
          | (go_at_call 45; refine HT.out.mono ?_; rintro e w' ⟨rfl, rfl⟩)
          | (go_at_call 44; refine HU.out.mono ?_; rintro e w' ⟨rfl, rfl⟩))
        go_ret
        exact ⟨ret1 H.out.symm, rfl⟩
theorem heavy_any (p k : Int) (kb : Nat) (w : World) (c : w.cell? ⟨kb, 0, none⟩ = some (.int .i64 k)) : Calls Try.prog 50 #[.int .i64 p, .pointer (some ⟨kb, 0, none⟩)] w fun e w' => e = .returned (.bool (decide (k < p))) ∧ w = w' := by
  go_enter Try.func50, Try.ntmps50
  go_wp2
  go_ret
  exact ⟨rfl, rfl⟩
/-- Is one of the first n above? -/
def overs (f : Nat → Int) (n : Nat) (k : Int) : Bool := (List.range n).any (fun p => decide (k < f p))
set_option maxRecDepth 100000 in
set_option maxHeartbeats 1000000 in
theorem index64_any {w : World} {wb len : Nat} {f : Nat → Int} (hm : w.heap[wb]? = some (.cells (rowC len f) 2 (0, 0))) (hsm : len ≤ 4096) (k : Int) (kb : Nat) (c : w.cell? ⟨kb, 0, none⟩ = some (.int .i64 k)) :
    Calls Try.prog 70 #[.slice (some ⟨wb, 0, none⟩) len len, .func (.func 50) #[] #[.pointer (some ⟨kb, 0, none⟩)]] w fun e w' => ∃ r : Int, e = .returned (.int .i64 r) ∧ decide (0 ≤ r) = overs f len k ∧ w = w' := by
  have HM := Lib.hid hm
  have HC := Lib.hid c
  clear hm
  go_enter Try.func70, Try.ntmps70
  go_wp2
  go_loop [8] (fun i => ∃ j : Nat, j ≤ len ∧ i = .int .i64 j ∧ Hid (overs f j k = false)) (fun i => len - (intOf i).toNat)
  case atStart => exact ⟨0, Nat.zero_le _, rfl, Lib.hid rfl⟩
  case round =>
    obtain ⟨j, hj, rfl, hs⟩ := hrel
    by_cases hlt : j < len
    · have hcell : w.cell? ⟨wb, 0 + j, none⟩ = some (.int .i64 (f j)) := by rw [Nat.zero_add]; exact heap_cell HM.out (rowC_at f hlt)
      rw [Nat.zero_add] at hcell
      have HT : Hid (overs f (j + 1) k = (overs f j k || decide (k < f j))) := Lib.hid (by unfold overs; rw [List.range_succ, List.any_append]; simp)
      have HMEM : Hid (decide (k < f j) = true → overs f len k = true) := Lib.hid (fun e => by unfold overs; exact List.any_eq_true.2 ⟨j, List.mem_range.2 hlt, e⟩)
      generalize f j = x at *
      have HW := Lib.hid (heavy_any x k kb w c)
      clear c
      cases hx : decide (k < x) with
      | false =>
        rw [hx] at HW HT
        clear hx
        go_wp2_with (go_at_call 50; refine HW.out.mono ?_; rintro e w' ⟨rfl, rfl⟩)
        go_round
        case rel => exact ⟨j + 1, by omega, by go_num, Lib.hid (by rw [HT.out, hs.out]; rfl)⟩
        case measure => simp [intOf]; omega
      | true =>
        rw [hx] at HW
        have HE := Lib.hid (HMEM.out hx)
        clear hx
        go_wp2_with (go_at_call 50; refine HW.out.mono ?_; rintro e w' ⟨rfl, rfl⟩)
        go_ret
        exact ⟨_, rfl, by rw [HE.out]; simp, rfl⟩
    · obtain rfl : j = len := by omega
      go_wp2
      go_ret
      exact ⟨-1, rfl, by rw [hs.out]; rfl, rfl⟩
theorem contains64_any {w : World} {wb len : Nat} {f : Nat → Int} (hm : w.heap[wb]? = some (.cells (rowC len f) 2 (0, 0))) (hsm : len ≤ 4096) (k : Int) (kb : Nat) (c : w.cell? ⟨kb, 0, none⟩ = some (.int .i64 k)) :
    Calls Try.prog 51 #[.slice (some ⟨wb, 0, none⟩) len len, .func (.func 50) #[] #[.pointer (some ⟨kb, 0, none⟩)]] w fun e w' => e = .returned (.bool (overs f len k)) ∧ w = w' := by
  have H := Lib.hid (index64_any hm hsm k kb c)
  clear hm c
  go_enter Try.func51, Try.ntmps51
  go_wp2_with fail
  refine H.out.mono ?_
  rintro e w' ⟨r, rfl, hr, rfl⟩
  have HR := Lib.hid hr
  clear hr
  go_wp2
  go_ret
  exact ⟨retb HR.out, rfl⟩
/-- Do parts fit? -/
def fitsF (ws ms : List Int) (k : Int) : Bool := rightP ws.length ms k && !overs (wtsT ws ms ws.length) k.toNat (boundF ws k)
set_option maxRecDepth 100000 in
set_option maxHeartbeats 1000000 in
theorem fits_any {w : World} {g nb : Nat} {ws : List Int} {F : Nat → Nat → Int} (h : IsG w g nb ws F) {a : Option Addr} {b off len cap : Nat} {ms : List Int} (hm : IntsAt .i64 w.heap.size w a b off len ms) (k : Int) :
    Calls Try.prog 21 #[.pointer (some ⟨g, 0, none⟩), .slice a len cap, .int .i64 k] w fun e w' => e = .returned (.bool (fitsF ws ms k)) ∧ Below w.heap.size w w' := by
  have HBo := Lib.hid (bound_any h k)
  obtain ⟨bd, hbd⟩ : ∃ bd, boundF ws k = bd := ⟨_, rfl⟩
  have b0 : Below w.heap.size w (w.alloc (.cells #[.int .i64 bd] 2)) := (Below.refl _ w).alloc (Nat.le_refl _) _
  have bk : Boxed (w.alloc (.cells #[.int .i64 bd] 2)) w.heap.size 2 (.int .i64 bd) := Boxed.new w _ _
  have h1 := h.below b0
  have hm1 := (hm.kept b0 (Nat.le_refl _)).mono b0.size
  have HC := Lib.hid (cright_any (cap := cap) h1 hm1 (Nat.le_refl _) k)
  have HW : Hid (∀ W, Below (w.alloc (.cells #[.int .i64 bd] 2)).heap.size (w.alloc (.cells #[.int .i64 bd] 2)) W → Calls Try.prog 19 #[.pointer (some ⟨g, 0, none⟩), .slice a len cap, .int .i64 k] W (WtsPost ws ms k W)) := Lib.hid (fun W hW => weights_any (h1.below hW) ((hm1.kept hW (Nat.le_refl _)).mono hW.size) k)
  rw [hbd] at HBo
  have HB := Lib.hid b0
  have HBk := Lib.hid bk
  have HF : Hid (fitsF ws ms k = (rightP ws.length ms k && !overs (wtsT ws ms ws.length) k.toNat bd)) := Lib.hid (by unfold fitsF; rw [hbd])
  clear h hm b0 bk h1 hm1 hbd
  cases hr : rightP ws.length ms k with
  | false =>
    rw [hr] at HC HF
    clear hr
    go_enter Try.func21, Try.ntmps21
    go_wp2_with (go_at_call 14; refine HBo.out.mono ?_; rintro e w' ⟨rfl, rfl⟩)
    refine HC.out.mono ?_
    rintro e w1 ⟨rfl, hb⟩
    have HB1 := Lib.hid (HB.out.trans (hb.mono HB.out.size))
    clear hb
    go_wp2
    go_ret
    exact ⟨retb (by rw [HF.out]; rfl), HB1.out⟩
  | true =>
    rw [hr] at HC HF
    have hk := (rightP_t hr).2.1
    have HR := Lib.hid hr
    have hk4 : k.toNat ≤ 4096 := by omega
    clear hr
    go_enter Try.func21, Try.ntmps21
    go_wp2_with (go_at_call 14; refine HBo.out.mono ?_; rintro e w' ⟨rfl, rfl⟩)
    refine HC.out.mono ?_
    rintro e w1 ⟨rfl, hb⟩
    have HB1 := Lib.hid hb
    have z1 := hb.size
    have HW1 := Lib.hid (HW.out _ hb)
    clear hb
    go_wp2_with fail
    refine HW1.out.mono ?_
    rintro e w2 (⟨h0, _⟩ | ⟨_, wb, rfl, hW⟩)
    · rw [HR.out] at h0; cases h0
    have HX := Lib.hid (contains64_any hW.row hk4 bd w.heap.size (Boxed.cell (show Boxed w2 _ 2 _ from heap_below (heap_below HBk.out HB1.out (heap_lt HBk.out)) hW.below (by have := heap_lt HBk.out; omega))))
    have HB2 := Lib.hid (HB.out.trans ((HB1.out.trans (hW.below.mono z1)).mono HB.out.size))
    clear hW
    go_wp2_with (go_at_call 51; refine HX.out.mono ?_; rintro e w' ⟨rfl, rfl⟩)
    go_ret
    exact ⟨retb (by rw [HF.out]; simp), HB2.out⟩
end Go.Proofs.Ytjpgkocffceeoaa
