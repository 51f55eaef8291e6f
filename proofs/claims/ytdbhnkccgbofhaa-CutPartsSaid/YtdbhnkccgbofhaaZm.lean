/- The walk of CutGains. -/
import Derived.Test.YtdbhnkccgbofhaaZl
set_option linter.unusedVariables false
set_option linter.unusedSectionVars false
namespace Go.Proofs.Ytdbhnkccgbofhaa
open Go.RowKit Rk

theorem ints_rowC {W : World} {b n : Nat} {f : Nat → Int} {ty : TypeId} (h : W.heap[b]? = some (.cells (rowC n f) ty (0, 0))) (hn : n ≤ 65536) (hf : ∀ i, i < n → (Lit.int .i64 (f i)).wf = true) : IntsAt .i64 W.heap.size W (some ⟨b, 0, none⟩) b 0 n ((List.range n).map f) :=
  ⟨.inr rfl, by simp, by unfold maxLen; omega, .inr (heap_lt h), fun i hi => by
    rw [show ((List.range n).map f).getD i 0 = f i by simp [List.getD, hi], Nat.zero_add]
    exact heap_cell h (rowC_at f hi), fun x hx => by
    obtain ⟨i, hi, rfl⟩ := List.mem_map.1 hx
    exact hf i (List.mem_range.1 hi)⟩
theorem madeInts (w : World) (n : Nat) (hn : n ≤ 4096) :
    (Instr.makeSlice 24 (.int .i64 (n : Int)) (.int .i64 (n : Int))).run Try.prog w = .ok (.slice (some ⟨w.heap.size, 0, none⟩) n n) (w.alloc (.cells (rowC n (fun _ => 0)) 3)) := by
  obtain ⟨i0, hi, hz0, hz1, hz2⟩ := info_parts L09.Try.infoInt
  have h := run_make (P := Try.prog) w 24 3 i0 _ Try.underlying24 hi hz0 .i64 .i64 n n (by omega) (Int.le_refl _) (by rw [hz2]; omega) (by omega)
  rw [hz1, show (Value.int IntKind.i64 0).cells = #[Value.int IntKind.i64 0] from rfl] at h
  have e : madeCells #[Value.int IntKind.i64 0] n = rowC n (fun _ => 0) := by
    apply Array.ext
    · simp [size_madeCells, rowC]
    · intro i h1 h2
      simp [madeCells, rowC, Nat.mod_one]
  simp only [Int.toNat_natCast, Nat.mul_one] at h
  rw [h, e]
theorem and_255 (n : Int) : bits .and .i64 n 255 = n % 256 := by
  have h511 : (BitVec.ofInt 64 255).toNat = 2 ^ 8 - 1 := by decide
  have key : (BitVec.ofInt 64 n &&& BitVec.ofInt 64 255).toNat = (n % ((2 ^ 64 : Nat) : Int)).toNat % 2 ^ 8 := by
    rw [BitVec.toNat_and, BitVec.toNat_ofInt, h511, Nat.and_two_pow_sub_one_eq_mod]
  show IntKind.i64.wrap ((BitVec.ofInt 64 n &&& BitVec.ofInt 64 255).toNat : Nat) = n % 256
  rw [key, IntKind.wrap_i64]
  omega
theorem zeros_getD (n i : Nat) : mOf ((List.range n).map (fun _ => (0 : Int))) i = 0 := by
  unfold mOf
  by_cases h : i < n <;> simp [List.getD, h]
theorem zeros_right (n : Nat) : rightP n ((List.range n).map (fun _ => (0 : Int))) 1 = true :=
  rightP_mk (by simp) (by omega) (by omega) (fun p hp => by obtain ⟨_, _, rfl⟩ := List.mem_map.1 hp; omega)
theorem zeros_fit {ws : List Int} (hw : ∀ x ∈ ws, 1 ≤ x ∧ x ≤ 1099511627776) : fitsF ws ((List.range ws.length).map (fun _ => (0 : Int))) 1 = true := by
  unfold fitsF
  rw [zeros_right, Bool.true_and]
  have h1 := wtsT_all (ws := ws) (ms := (List.range ws.length).map (fun _ => (0 : Int))) (k := 1) (by simp) (fun p hp => by obtain ⟨_, _, rfl⟩ := List.mem_map.1 hp; omega)
  have h2 := upV_mul (a := ws.sum) (b := 1) (sum_bd hw).1 (Int.le_refl _)
  have h3 := maxT_bd hw ws.length (Nat.le_refl _)
  have e1 : boundF ws 1 = upV ws.sum 1 + maxT ws ws.length := if_pos (by simp [withinF])
  simp only [sumTo] at h1
  have e2 : overs (wtsT ws ((List.range ws.length).map (fun _ => (0 : Int))) ws.length) (1 : Int).toNat (boundF ws 1) = false := by
    show overs _ 1 _ = false
    simp only [overs, List.range_succ, List.range_zero, List.nil_append, List.any_cons, List.any_nil, Bool.or_false]
    rw [decide_eq_false_iff_not, e1]; omega
  rw [e2]; rfl
theorem IntsAt.set {W : World} {a : Option Addr} {b len : Nat} {zs : List Int} {cur : Array Value} {ty : TypeId} (h : IntsAt .i64 W.heap.size W a b 0 len zs) (hg : W.heap[b]? = some (.cells cur ty (0, 0))) {i : Nat} (hi : i < len) {v : Int} (hv : (Lit.int .i64 v).wf = true) :
    IntsAt .i64 (W.setCell ⟨b, i, none⟩ (.int .i64 v)).heap.size (W.setCell ⟨b, i, none⟩ (.int .i64 v)) a b 0 len (zs.set i v) := by
  have hg2 := heap_set hg i (.int .i64 v)
  have hc : ∀ j, j < len → cur[j]? = some (.int .i64 (zs.getD j 0)) := fun j hj => by
    have := h.cell j hj
    rw [Nat.zero_add] at this
    simpa [World.cell?, hg] using this
  have hl := h.length
  refine ⟨h.addr, by rw [List.length_set]; exact hl, h.small, .inr (heap_lt hg2), fun j hj => ?_, fun x hx => ?_⟩
  · rw [Nat.zero_add]
    refine heap_cell hg2 ?_
    have h1 := hc j hj
    have hjs := (Array.getElem?_eq_some_iff.1 h1).1
    by_cases e : i = j
    · subst e
      rw [Array.getElem?_setIfInBounds_self_of_lt hjs]
      simp [List.getD, hl, hj]
    · rw [Array.getElem?_setIfInBounds_ne e, h1]
      simp [List.getD, e]
  · rcases List.mem_or_eq_of_mem_set hx with h1 | h1
    · exact h.fits x h1
    · rw [h1]; exact hv
theorem set_mOf {ms : List Int} {i : Nat} (hi : i < ms.length) (v : Int) : mOf (ms.set i v) i = v ∧ ∀ b, b ≠ i → mOf (ms.set i v) b = mOf ms b := by
  unfold mOf
  refine ⟨by simp [List.getD, hi], fun b hb => ?_⟩
  simp [List.getD, Ne.symm hb]
theorem set_right {n : Nat} {ms : List Int} {k : Int} (h : rightP n ms k = true) (i : Nat) {v : Int} (h0 : 0 ≤ v) (h1 : v < k) : rightP n (ms.set i v) k = true := by
  obtain ⟨h2, h3, h4⟩ := rightP_t h
  refine rightP_mk (by rw [List.length_set]; exact h2) h3.1 h3.2 fun p hp => ?_
  rcases List.mem_or_eq_of_mem_set hp with h5 | h5
  · exact h4 p h5
  · subst h5; exact ⟨h0, h1⟩
theorem own_ints {w : World} {base : Nat} {e : TypeId} {v : Value} {n : Nat} {zs : List Int} (h : w.ownsRow base e 1 v n (ivals .i64 zs)) (hn : zs.length = n) (hf : ∀ x ∈ zs, (Lit.int .i64 x).wf = true) (h0 : 0 < n) :
    ∃ g cap cur, v = .slice (some ⟨g, 0, none⟩) n cap ∧ base ≤ g ∧ w.heap[g]? = some (.cells cur e (0, 0)) ∧ IntsAt .i64 w.heap.size w (some ⟨g, 0, none⟩) g 0 n zs := by
  obtain ⟨a, cap, b, rfl, _, _, hb, HS⟩ := Gath.ints (.inr h) hn hf
  rcases h.2 with ⟨h1, h2⟩ | ⟨g, c9, cur, h1, hg, hc, _⟩
  · omega
  · have h3 : a = some ⟨b, 0, none⟩ := HS.addr.resolve_left (by omega)
    subst h3
    cases h1
    exact ⟨b, cap, cur, rfl, hg, hc, HS⟩
theorem own_cell {w : World} {g n : Nat} {zs : List Int} {cur : Array Value} {ty : TypeId} (h : IntsAt .i64 w.heap.size w (some ⟨g, 0, none⟩) g 0 n zs) (hc : w.heap[g]? = some (.cells cur ty (0, 0))) {i : Nat} (hi : i < n) : w.cell? ⟨g, i, none⟩ = some (.int .i64 (zs.getD i 0)) := by
  have := h.cell i hi
  rwa [Nat.zero_add] at this
namespace L09
set_option maxRecDepth 100000 in
set_option maxHeartbeats 8000000 in
theorem walk_CutGains (a0 : Option Addr) (len0 cap0 : Nat) (z0 : List Int) (a1 : Option Addr) (len1 cap1 : Nat) (z1 : List RopV) (a2 : Option Addr) (len2 cap2 : Nat) (z2 : List Int) (a3 a4 a5 : Int) (w : World) (w0 : IsRow .i64 w a0 len0 cap0 z0) (w1 : IsRops w a1 len1 cap1 z1) (w2 : IsRow .i64 w a2 len2 cap2 z2) (w3 : (Lit.int .i64 a3).wf = true) (w4 : (Lit.int .i64 a4).wf = true) (w5 : (Lit.int .i64 a5).wf = true) :
    Calls Try.prog 4 #[.slice a0 len0 cap0, .slice a1 len1 cap1, .slice a2 len2 cap2, .int .i64 a3, .int .i64 a4, .int .i64 a5] w fun e w' => e = .returned (.bool true) ∧ Below w.heap.size w w' := by
  obtain ⟨b0, off0, zs, hi0, hn0⟩ := w0.zs
  obtain ⟨_, b1, off1, hi1⟩ := w1
  obtain ⟨b2, off2, ms, hi2, hn2⟩ := w2.zs
  have H0 := Lib.hid hi0
  have HN := Lib.hid hn0
  have H1 := Lib.hid hi1
  have H2 := Lib.hid hi2
  have HL0 := Lib.hid hi0.length
  have HL2 := Lib.hid hi2.length
  clear w0 w2 hi0 hn0 hi1 hi2 hn2 w3 w4 w5
  go_enter Try.func4, Try.ntmps4
  go_wp2_with fail
  refine (alive_any _).mono ?_
  rintro e x1 ⟨rfl, hB1⟩
  have HB1 := Lib.hid hB1
  have HBd := Lib.hid (build_any (cap0 := cap0) (cap1 := cap1) ((H0.out.kept hB1 (Nat.le_refl _)).mono hB1.size) HN.out ((H1.out.kept hB1 (Nat.le_refl _)).mono hB1.size))
  have z1s := hB1.size
  clear hB1
  go_wp2_with fail
  refine HBd.out.mono ?_
  rintro e x2 ⟨hB, hc⟩
  have HB2 := Lib.hid (HB1.out.trans (hB.mono z1s))
  clear hB HBd HB1
  rcases hc with ⟨_, rfl⟩ | ⟨⟨hl30, _⟩, g, nb, lo, Bx, X, rfl, hR, _, _⟩
  · have HB3 := Lib.hid (HB2.out.alloc HB2.out.size (.cells #[.slice none 0 0, .slice none 0 0] 29))
    go_wp2
    go_ret
    exact ⟨by simp, HB3.out⟩
  have hal := (Below.refl x2.heap.size x2).alloc (Nat.le_refl _) (.cells #[.slice X.wa zs.length X.wc, .slice X.ra zs.length X.rc] 29)
  have HR := Lib.hid (BdR.on ⟨hR.one, HB2.out⟩ hal)
  have HW := Lib.hid hR.one.wts
  have HT := Lib.hid hR.one.tab
  clear hR HB2 hal
  rw [HL0.out] at hl30
  generalize joins zs.length noTab z1 = F at *
  unfold XD.val
  by_cases hk : 60 < len2 ∨ 60 < a3
  · obtain ⟨y1, hy1⟩ : ∃ y, decide (60 < (len2 : Int)) = y := ⟨_, rfl⟩
    obtain ⟨y2, hy2⟩ : ∃ y, decide (60 < a3) = y := ⟨_, rfl⟩
    have hor : (y1 || y2) = true := by rw [← hy1, ← hy2]; simp; omega
    clear hk
    cases y1 <;> cases y2 <;> first
      | (simp at hor; done)
      | (go_wp2
         go_ret
         exact ⟨by simp, HR.out.below⟩)
  have d1 : decide (60 < (len2 : Int)) = false := by simp; omega
  have d2 : decide (60 < a3) = false := by simp; omega
  have hl260 : len2 ≤ 60 := by omega
  have ha3 : a3 ≤ 60 := by omega
  clear hk
  have CR := Lib.hid (cright_any (cap := cap2) HR.out.one ((H2.out.kept HR.out.below (Nat.le_refl _)).mono HR.out.below.size) (Nat.le_refl _) a3)
  go_upto_region 4 with fail
  revert HR CR
  generalize x2.alloc (.cells #[.slice X.wa zs.length X.wc, .slice X.ra zs.length X.rc] 29) = x3
  intro HR CR
  cases hr : rightP zs.length ms a3 with
  | false =>
    rw [hr] at CR
    clear hr
    go_wp2_with fail
    refine CR.out.mono ?_
    rintro e x4 ⟨rfl, hb⟩
    have HB4 := Lib.hid (HR.out.on hb).below
    clear hb
    go_wp2
    go_ret
    exact ⟨by simp, HB4.out⟩
  | true =>
    rw [hr] at CR
    have hrt := rightP_t hr
    have HRP := Lib.hid hr
    have HRT := Lib.hid hrt
    obtain ⟨kk, rfl⟩ : ∃ kk : Nat, a3 = (kk : Int) := ⟨a3.toNat, by omega⟩
    have hkk1 : 1 ≤ kk := by omega
    have hkk : kk ≤ 60 := by omega
    have HLn : Hid (len2 = zs.length) := Lib.hid (by rw [← HL2.out]; exact hrt.1)
    have HSum := Lib.hid (wtsT_all hrt.1 hrt.2.2)
    have HSb := Lib.hid (fun p => wtsT_bd ms HW.out zs.length (Nat.le_refl _) p)
    clear hr hrt
    go_wp2_with fail
    refine CR.out.mono ?_
    rintro e x4 ⟨rfl, hb⟩
    have HR4 := Lib.hid (HR.out.on hb)
    clear hb CR
    have CW := Lib.hid (weights_any (cap := cap2) HR4.out.one ((H2.out.kept HR4.out.below (Nat.le_refl _)).mono HR4.out.below.size) (kk : Int))
    go_wp2_with fail
    refine CW.out.mono ?_
    rintro e x5 (⟨h0, _⟩ | ⟨_, wb, rfl, hWt⟩)
    · rw [HRP.out] at h0; cases h0
    have HR5 := Lib.hid (HR4.out.on hWt.below)
    have HWt := Lib.hid hWt
    clear hWt CW
    rw [Int.toNat_natCast] at HWt ⊢
    go_wp2
    go_loop [16, 54] (fun c i => ∃ j : Nat, j ≤ kk ∧ i = .int .i64 j ∧ c = .int .i64 (sumTo j (wtsT zs ms zs.length))) (fun _ i => kk - (intOf i).toNat)
    case atStart => exact ⟨0, Nat.zero_le _, rfl, rfl⟩
    case round =>
      obtain ⟨j', hj', rfl, rfl⟩ := hrel
      by_cases hlt' : j' < kk
      · have hcell : x5.cell? ⟨wb, j', none⟩ = some (.int .i64 (wtsT zs ms zs.length j')) := heap_cell HWt.out.row (rowC_at _ hlt')
        have h1 := sumTo_nonneg j' (f := wtsT zs ms zs.length) (fun b _ => (HSb.out b).1)
        have h2 := sumTo_mono (f := wtsT zs ms zs.length) (fun b _ => (HSb.out b).1) (j' + 1) (show j' + 1 ≤ kk by omega)
        rw [HSum.out] at h2
        have h3 := sum_bd HW.out
        rw [HL0.out] at h3
        have HE : Hid (sumTo (j' + 1) (wtsT zs ms zs.length) = sumTo j' (wtsT zs ms zs.length) + wtsT zs ms zs.length j') := Lib.hid rfl
        rw [HE.out] at h2
        have h4 := (HSb.out j').1
        generalize sumTo j' (wtsT zs ms zs.length) = c at *
        generalize wtsT zs ms zs.length j' = y at *
        have hw5 : IntKind.i64.wrap (c + y) = c + y := IntWalk.i64_in _ (by omega)
        clear h1 h2 h3 h4
        go_wp2
        go_round
        case rel => exact ⟨j' + 1, by omega, by go_num, by rw [HE.out]⟩
        case measure => simp [intOf]; omega
      · obtain rfl : j' = kk := by omega
        rw [HSum.out]
        have hmk := madeInts x5 len2 (by omega)
        have hal := (Below.refl x5.heap.size x5).alloc (Nat.le_refl _) (.cells (rowC len2 (fun _ => 0)) 3)
        have HR6 := Lib.hid (HR5.out.on hal)
        have HO6 := Lib.hid (ints_rowC (World.alloc_heap_new x5 (.cells (rowC len2 (fun _ => 0)) 3)) (by omega) (fun _ _ => by decide))
        have CT := Lib.hid (total_any HR6.out.one)
        have CC := Lib.hid (cut_any (cap := len2) HR6.out.one (by rw [HL0.out]; omega) HO6.out 1)
        rw [show cutF zs.length F ((List.range len2).map (fun _ => (0 : Int))) 1 = 0 from (if_pos (by rw [HLn.out]; exact zeros_right _)).trans (cut_one HT.out (fun a b _ _ => by rw [zeros_getD, zeros_getD]))] at CC
        have HZF : Hid (fitsF zs ((List.range len2).map (fun _ => (0 : Int))) 1 = true) := Lib.hid (by rw [HLn.out]; exact zeros_fit HW.out)
        generalize zs.sum = s at *
        clear hal
        go_upto_region 13 with fail
        clear hmk
        generalize x5.alloc (.cells (rowC len2 (fun _ => 0)) 3) = x6 at *
        go_wp2_with (go_at_call 31; refine CT.out.mono ?_; clear CT; rintro e w' ⟨rfl, rfl⟩)
        refine CC.out.mono ?_
        clear CC
        rintro e x7 ⟨rfl, hb⟩
        have HR7 := Lib.hid (HR6.out.on hb)
        have CF := Lib.hid (fits_any (cap := len2) HR7.out.one ((HO6.out.kept hb (Nat.le_refl _)).mono hb.size) 1)
        rw [HZF.out] at CF
        clear hb
        go_wp2_with fail
        refine CF.out.mono ?_
        clear CF
        rintro e x8 ⟨rfl, hb⟩
        have HR8 := Lib.hid (HR7.out.on hb)
        clear hb HO6 HZF
        have hDl : (edgesD zs.length F).length ≤ 900 := Nat.le_trans (upTo_len _ _ _) (by rw [HL0.out]; have := Nat.mul_le_mul hl30 hl30; omega)
        have hEb : ∀ x ∈ edgesD zs.length F, 0 ≤ x.2.2 ∧ x.2.2 ≤ 1099511627776 := fun x hx => by
          obtain ⟨p, q, _, _, _, e, _⟩ := mem_upTo _ hx
          rw [e]; exact ⟨HT.out.lo p q, HT.out.hi p q⟩
        have HCB := Lib.hid (fun l => cuS_bd l (edgesD zs.length F) hEb)
        have HC1 : Hid (cutF zs.length F ms (j' : Int) = cuS ms (edgesD zs.length F)) := Lib.hid (if_pos HRP.out)
        have CP := Lib.hid (cut_any (cap := cap2) HR8.out.one (by rw [HL0.out]; omega) ((H2.out.kept HR8.out.below (Nat.le_refl _)).mono HR8.out.below.size) (j' : Int))
        have hc0 := HCB.out ms
        rw [HC1.out] at CP
        obtain ⟨cc, hcc⟩ : ∃ cc, cuS ms (edgesD zs.length F) = cc := ⟨_, rfl⟩
        have HCC := Lib.hid hcc
        rw [hcc] at CP hc0
        have hd0 : decide (cc < 0) = false := by simp only [decide_eq_false_iff_not]; omega
        clear hDl hEb hcc HC1
        go_wp2_with fail
        refine CP.out.mono ?_
        clear CP
        rintro e x9 ⟨rfl, hb⟩
        have HR9 := Lib.hid (HR8.out.on hb)
        clear hb
        by_cases hl0 : len2 = 0
        · have HL00 := Lib.hid hl0
          have hd9 : ((len2 : Int) == 0) = true := by simp; exact hl0
          clear hl0
          go_wp2
          go_ret
          exact ⟨by simp, HR9.out.below⟩
        have hd9 : ((len2 : Int) == 0) = false := by simp; exact hl0
        obtain rfl : a2 = some ⟨b2, off2, none⟩ := H2.out.addr.resolve_left hl0
        obtain ⟨c4, hc4⟩ : ∃ c4 : Nat, bits .and .i64 a4 255 = (c4 : Int) := ⟨(a4 % 256).toNat, by rw [and_255]; omega⟩
        obtain ⟨c5, hc5⟩ : ∃ c5 : Nat, bits .and .i64 a5 255 = (c5 : Int) := ⟨(a5 % 256).toNat, by rw [and_255]; omega⟩
        obtain ⟨i4, hi4, hi4l⟩ : ∃ i4 : Nat, Int.tmod (c4 : Int) (len2 : Int) = (i4 : Int) ∧ i4 < len2 := ⟨c4 % len2, by rw [Int.tmod_eq_emod_of_nonneg (by omega)]; exact (Int.natCast_emod c4 len2).symm, Nat.mod_lt _ (by omega)⟩
        obtain ⟨i5, hi5, hi5l⟩ : ∃ i5 : Nat, Int.tmod (c5 : Int) (j' : Int) = (i5 : Int) ∧ i5 < j' := ⟨c5 % j', by rw [Int.tmod_eq_emod_of_nonneg (by omega)]; exact (Int.natCast_emod c5 j').symm, Nat.mod_lt _ (by omega)⟩
        have hd8 : ((j' : Int) == 0) = false := by simp; omega
        go_wp2
        go_quiet (fail)
        have HR10 := Lib.hid (HR9.out.on (show Below x9.heap.size x9 (x9.drewN nq) from ⟨rfl, rfl, rfl, Nat.le_refl _, fun _ _ => rfl⟩))
        clear hc4 hc5 hi4 hi5 hd8 hd9
        generalize x9.drewN nq = y0 at *
        have HM0 := Lib.hid ((H2.out.kept HR10.out.below (Nat.le_refl _)).mono HR10.out.below.size)
        obtain ⟨n0, hi, hz0, hz1, hz2⟩ := info_parts L09.Try.infoInt
        have HI := Lib.hid hi
        have HZ0 := Lib.hid hz0
        have HZ1 := Lib.hid hz1
        have HZ2 := Lib.hid hz2
        have hcells : ∀ o : Obj, ∀ j u, (ivals .i64 ms)[j]? = some u → (y0.alloc o).cell? ((⟨b2, off2, none⟩ : Addr).add j) = some u := by
          intro o j u hj
          unfold ivals at hj
          rw [List.getElem?_map] at hj
          obtain ⟨n, hn, rfl⟩ := Option.map_eq_some_iff.1 hj
          obtain ⟨hjl, hjn⟩ := List.getElem?_eq_some_iff.1 hn
          have hjl2 : j < len2 := by rw [← HL2.out]; exact hjl
          have hc := HM0.out.cell j hjl2
          have hlt : b2 < y0.heap.size := HM0.out.below.resolve_left (by omega)
          rw [addr_add, World.cell?_alloc_lt y0 o (a := ⟨b2, off2 + j, none⟩) hlt, hc]
          simp [List.getD, hn]
        have HCe := Lib.hid hcells
        clear hi hz0 hz1 hz2 hcells
        go_wp2_with (at_builtin; refine wpList_append_own _ rfl _ _ 24 rfl y0.heap.size 3 n0 (.int .i64 0) 1 8 Try.underlying24 HI.out HZ0.out HZ1.out HZ2.out rfl (by decide) (.slice (some ⟨y0.heap.size, 0, none⟩) 0 0) 0 [] rfl (World.ownsRow_made y0 #[] 0 (Nat.le_refl _) (Nat.zero_le _) rfl) ⟨b2, off2, none⟩ len2 cap2 (ivals .i64 ms) rfl (by unfold ivals; rw [List.length_map, HL2.out, Nat.mul_one]) (HCe.out _) (by unfold ivals; intro u hu; obtain ⟨n, _, rfl⟩ := List.mem_map.1 hu; rfl) (by unfold maxLen; omega) (by omega) (by simp) ?_; intro v' y1 hown hgrow hnil; rw [List.nil_append, Nat.zero_add] at hown; obtain ⟨g1, cap5, cur, rfl, hg1, hcur, HS⟩ := own_ints hown HL2.out HM0.out.fits (by omega); have q1 := heap_frozen hcur i4; have k1 := own_cell HS hcur hi4l)
        have hby : Below y0.heap.size y0 y1 := ((Below.refl _ y0).alloc (Nat.le_refl _) _).grown hgrow (by simp) (fun k hk => by simp [Value.ownBlock] at hk; omega)
        have HR11 := Lib.hid (HR10.out.on (hby.setCell (p := ⟨g1, i4, none⟩) hg1 (.int .i64 (i5 : Int))))
        have HMv := Lib.hid (IntsAt.set HS hcur hi4l (wf_small i5 (by omega)))
        clear hown hgrow hnil hcur q1 k1 hby HS HCe
        generalize y1.setCell ⟨g1, i4, none⟩ (.int .i64 (i5 : Int)) = y2 at *
        have HMs := Lib.hid (set_mOf (ms := ms) (i := i4) (by rw [HL2.out]; exact hi4l) (i5 : Int))
        have HRs := Lib.hid (set_right HRP.out i4 (v := (i5 : Int)) (by omega) (by omega))
        have hiz : belowB (i4 : Int) (zs.length : Int) = true := decide_eq_true ⟨by omega, by rw [← HLn.out]; omega⟩
        have hik : belowB (i5 : Int) (j' : Int) = true := decide_eq_true ⟨by omega, by omega⟩
        have hpm := HRT.out.2.2 (ms.getD i4 0) (by rw [List.getD_eq_getElem?_getD, List.getElem?_eq_getElem (by rw [HL2.out]; exact hi4l)]; exact List.getElem_mem _)
        have hik2 : belowB (ms.getD i4 0) (j' : Int) = true := decide_eq_true hpm
        have hcg := cut_gain HT.out (ms := ms) (ms' := ms.set i4 (i5 : Int)) (i := i4) (tq := (i5 : Int)) (by rw [← HLn.out]; exact hi4l) HMs.out.1 HMs.out.2
        have hgb := gain_back HT.out (ms := ms) (ms' := ms.set i4 (i5 : Int)) (i := i4) (tq := (i5 : Int)) HMs.out.1 HMs.out.2
        rw [HCC.out] at hcg
        have hc2 := HCB.out (ms.set i4 (i5 : Int))
        have hc1 := HCB.out ms
        rw [HCC.out] at hc1
        have HCG := Lib.hid (gain_any (cap := cap2) HR11.out.one ((H2.out.kept HR11.out.below (Nat.le_refl _)).mono HR11.out.below.size) (j' : Int) (i4 : Int) (i5 : Int))
        rw [show gainF zs.length F ms (j' : Int) (i4 : Int) (i5 : Int) = gnS ms i4 (i5 : Int) (rowOf zs.length (F i4)) from (if_pos ⟨HRP.out, hiz, hik⟩).trans (by rw [Int.toNat_natCast])] at HCG
        have HC2 : Hid (cutF zs.length F ms (j' : Int) = cc) := Lib.hid ((if_pos HRP.out).trans HCC.out)
        have HC3 : Hid (cutF zs.length F (ms.set i4 (i5 : Int)) (j' : Int) = cuS (ms.set i4 (i5 : Int)) (edgesD zs.length F)) := Lib.hid (if_pos HRs.out)
        have HG2 : Hid (gainF zs.length F (ms.set i4 (i5 : Int)) (j' : Int) (i4 : Int) (ms.getD i4 0) = - gnS ms i4 (i5 : Int) (rowOf zs.length (F i4))) := Lib.hid ((if_pos ⟨HRs.out, hiz, hik2⟩).trans (by rw [Int.toNat_natCast]; exact hgb))
        have hDl : (edgesD zs.length F).length ≤ 900 := Nat.le_trans (upTo_len _ _ _) (by rw [HL0.out]; have := Nat.mul_le_mul hl30 hl30; omega)
        generalize gnS ms i4 (i5 : Int) (rowOf zs.length (F i4)) = gv at *
        generalize cuS (ms.set i4 (i5 : Int)) (edgesD zs.length F) = cc2 at *
        generalize (edgesD zs.length F).length = dl at *
        have hw1 : IntKind.i64.wrap (cc - cc2) = gv := by rw [hcg]; exact IntWalk.i64_in _ (by omega)
        have hw1' : wrap64 (cc - cc2) = gv := by rw [hcg]; exact IntWalk.wrap64_in _ ⟨by omega, by omega⟩
        have hw2 : IntKind.i64.wrap (-gv) = -gv := IntWalk.i64_in _ (by omega)
        clear hcg hgb hc1 hc2 hDl hiz hik hik2 hpm hc0 hd0
        go_wp2_with fail
        refine HCG.out.mono ?_
        clear HCG
        rintro e y3 ⟨rfl, hb⟩
        have HR12 := Lib.hid (HR11.out.on hb)
        have HMv3 := Lib.hid ((HMv.out.kept hb (Nat.le_refl _)).mono hb.size)
        clear hb HMv
        have CQ := Lib.hid (cut_any (cap := cap2) HR12.out.one (by rw [HL0.out]; omega) ((H2.out.kept HR12.out.below (Nat.le_refl _)).mono HR12.out.below.size) (j' : Int))
        rw [HC2.out] at CQ
        go_wp2_with fail
        refine CQ.out.mono ?_
        clear CQ
        rintro e y4 ⟨rfl, hb⟩
        have HR13 := Lib.hid (HR12.out.on hb)
        have HMv4 := Lib.hid ((HMv3.out.kept hb (Nat.le_refl _)).mono hb.size)
        clear hb HMv3
        have CQ := Lib.hid (cut_any (cap := cap5) HR13.out.one (by rw [HL0.out]; omega) HMv4.out (j' : Int))
        rw [HC3.out] at CQ
        go_wp2_with fail
        refine CQ.out.mono ?_
        clear CQ
        rintro e y5 ⟨rfl, hb⟩
        have HR14 := Lib.hid (HR13.out.on hb)
        have HMv5 := Lib.hid ((HMv4.out.kept hb (Nat.le_refl _)).mono hb.size)
        clear hb HMv4
        have hcp := ((H2.out.kept HR14.out.below (Nat.le_refl _)).mono HR14.out.below.size).cell i4 hi4l
        have CQ := Lib.hid (gain_any (cap := cap5) HR14.out.one HMv5.out (j' : Int) (i4 : Int) (ms.getD i4 0))
        rw [HG2.out] at CQ
        clear HG2
        generalize ms.getD i4 0 = pv at *
        go_wp2_with fail
        refine CQ.out.mono ?_
        clear CQ
        rintro e y6 ⟨rfl, hb⟩
        have HR15 := Lib.hid (HR14.out.on hb)
        clear hb
        go_wp2
        go_ret
        exact ⟨by simp, HR15.out.below⟩
end L09
end Go.Proofs.Ytdbhnkccgbofhaa
