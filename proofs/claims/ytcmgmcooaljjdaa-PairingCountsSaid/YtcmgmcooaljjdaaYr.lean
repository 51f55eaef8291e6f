/- The walk of PairingCounts. -/
import Derived.Test.YtcmgmcooaljjdaaYm
import Derived.Deep.QuietTactic
import Derived.BigQuiet
set_option linter.unusedVariables false
set_option linter.unusedSectionVars false
set_option linter.unusedSimpArgs false
namespace Go.Proofs.Ytcmgmcooaljjdaa
open Go.RowKit Go.Shelf Rk

/-- The pair at a place. -/
theorem counts_at (ms : List Int) {i : Nat} (hi : i < (pairsL ms ms.length).length) : ∃ t : Nat, ((pairsL ms ms.length).map (·.1)).getD i 0 = (t : Int) ∧ t < ms.length ∧ ((pairsL ms ms.length).map (·.2)).getD i 0 = ms.getD t 0 ∧ (t : Int) < ms.getD t 0 ∧ ∀ k, i = k + 1 → ((pairsL ms ms.length).map (·.1)).getD k 0 < (t : Int) := by
  obtain ⟨p, hp⟩ : ∃ p, (pairsL ms ms.length)[i]? = some p := ⟨_, List.getElem?_eq_getElem hi⟩
  obtain ⟨x, y⟩ := p
  obtain ⟨t, rfl, h1, h2, rfl⟩ := pairs_at hp
  have e1 : ((pairsL ms ms.length).map (·.1)).getD i 0 = (t : Int) := by simp [List.getD, hp]
  refine ⟨t, e1, h1, by simp [List.getD, hp], h2, fun k hk => ?_⟩
  subst hk
  obtain ⟨q, hq⟩ : ∃ q, (pairsL ms ms.length)[k]? = some q := ⟨_, List.getElem?_eq_getElem (by omega)⟩
  have := pairs_rise ms ms.length k q _ hq hp
  simpa [List.getD, hq] using this
theorem pairsD_right {ms : List Int} (h : mateR ms = true) : pairsD ms = pairsL ms ms.length := if_pos h
theorem pairsD_wrong {ms : List Int} (h : mateR ms = false) : pairsD ms = [] := if_neg (by rw [h]; decide)
/-- Both rows of pairs, as they lie. -/
structure CoR (w : World) (a : Option Addr) (b off : Nat) (ms : List Int) (a1 : Option Addr) (b1 : Nat) (a2 : Option Addr) (b2 m : Nat) (xs ys : List Int) (W : World) : Prop where
  mate : IntsAt .i64 W.heap.size W a b off ms.length ms
  row1 : IntsAt .i64 W.heap.size W a1 b1 0 m xs
  row2 : IntsAt .i64 W.heap.size W a2 b2 0 m ys
  below : Below w.heap.size w W
theorem CoR.on {w W W' : World} {a a1 a2 : Option Addr} {b off b1 b2 m : Nat} {ms xs ys : List Int} (h : CoR w a b off ms a1 b1 a2 b2 m xs ys W) (hb : Below W.heap.size W W') : CoR w a b off ms a1 b1 a2 b2 m xs ys W' :=
  ⟨(h.mate.kept hb (Nat.le_refl _)).mono hb.size, (h.row1.kept hb (Nat.le_refl _)).mono hb.size, (h.row2.kept hb (Nat.le_refl _)).mono hb.size, h.below.trans (hb.mono h.below.size)⟩
theorem fits_fst {k : IntKind} {B : Nat} {w : World} {a : Option Addr} {b off len : Nat} {ms : List Int} (h : IntsAt k B w a b off len ms) : True := trivial
theorem pairs_fits {B : Nat} {w : World} {a : Option Addr} {b off len : Nat} {ms : List Int} (h : IntsAt .i64 B w a b off len ms) (hl : len ≤ 60000) : (∀ x ∈ (pairsD ms).map (·.1), (Lit.int .i64 x).wf = true) ∧ ∀ y ∈ (pairsD ms).map (·.2), (Lit.int .i64 y).wf = true := by
  unfold pairsD
  split
  · constructor
    · intro x hx
      obtain ⟨p, hp, rfl⟩ := List.mem_map.1 hx
      obtain ⟨i, h1, _, rfl⟩ := mem_pairsL.1 hp
      exact wf_nat i (by have := h.length; omega)
    · intro x hx
      obtain ⟨p, hp, rfl⟩ := List.mem_map.1 hx
      obtain ⟨i, h1, _, rfl⟩ := mem_pairsL.1 hp
      exact h.fits _ (by rw [List.getD_eq_getElem?_getD, List.getElem?_eq_getElem h1]; exact List.getElem_mem _)
  · constructor <;> intro x hx <;> cases hx
namespace L10
set_option maxRecDepth 100000 in
set_option maxHeartbeats 8000000 in
theorem walk_PairingCounts (a0 : Option Addr) (len0 cap0 : Nat) (z0 : List Int) (w : World) (w0 : IsRow .i64 w a0 len0 cap0 z0) :
    Calls Try.prog 5 #[.slice a0 len0 cap0] w fun e w' => e = .returned (.bool true) ∧ Below w.heap.size w w' := by
  obtain ⟨b0, off0, ms, hi0, hn0⟩ := w0.zz
  have H0 := Lib.hid hi0
  have HN := Lib.hid hn0
  obtain rfl := hi0.length
  clear w0 hi0 hn0
  go_enter Try.func5, Try.ntmps5
  go_wp2_with fail
  refine (alive_any _).mono ?_
  rintro e x1 ⟨rfl, hB1⟩
  have HB1 := Lib.hid hB1
  have HM1 := Lib.hid ((H0.out.kept hB1 (Nat.le_refl _)).mono hB1.size)
  clear hB1
  by_cases h60 : 60 < ms.length
  · have d0 : decide (60 < (ms.length : Int)) = true := by simp; omega
    go_wp2
    go_ret
    exact ⟨rfl, HB1.out⟩
  have d0 : decide (60 < (ms.length : Int)) = false := by simp; omega
  have CP := Lib.hid (lpairs_any (cap := cap0) HM1.out HN.out (by omega) 1000 (by decide))
  have hT : (pairsD ms).take (1000 : Int).toNat = pairsD ms := List.take_of_length_le (by have := pairsD_length ms; show _ ≤ 1000; omega)
  rw [hT] at CP
  have HFit := Lib.hid (pairs_fits HM1.out (by omega))
  clear hT
  go_wp2_with fail
  refine CP.out.mono ?_
  rintro e x2 ⟨v1, v2, rfl, hg1, hg2, hb⟩
  obtain ⟨a1, c1, b1, rfl, _, _, _, hi1⟩ := Gath.ints (k := .i64) hg1 (List.length_map _) HFit.out.1
  obtain ⟨a2, c2, b2, rfl, _, _, _, hi2⟩ := Gath.ints (k := .i64) hg2 (List.length_map _) HFit.out.2
  have HC : Hid (CoR w a0 b0 off0 ms a1 b1 a2 b2 (pairsD ms).length ((pairsD ms).map (·.1)) ((pairsD ms).map (·.2)) x2) := Lib.hid ⟨(HM1.out.kept hb (Nat.le_refl _)).mono hb.size, hi1, hi2, HB1.out.trans (hb.mono HB1.out.size)⟩
  clear hg1 hg2 hi1 hi2 hb CP HB1 HM1 HFit
  have CC := Lib.hid (mcount_any (cap := cap0) HC.out.mate HN.out (by omega))
  cases hr : mateR ms with
  | false =>
    have CR := Lib.hid (mright_lit (cap := cap0) (v := false) HC.out.mate hr)
    rw [show leftN ms = 0 from if_neg (by rw [hr]; decide)] at CC
    rw [show (pairsD ms).length = 0 by rw [pairsD_wrong hr]; rfl]
    clear hr
    go_wp2_with (first
      | (go_at_call 16; refine CR.out.mono ?_; clear CR; rintro e w' ⟨rfl, rfl⟩)
      | (go_at_call 20; refine CC.out.mono ?_; clear CC; rintro e w12 ⟨rfl, hb12⟩; have HB12 := Lib.hid (HC.out.on hb12).below; clear hb12))
    go_ret
    exact ⟨rfl, HB12.out⟩
  | true =>
    have CR := Lib.hid (mright_lit (cap := cap0) (v := true) HC.out.mate hr)
    have HLeft : Hid (leftN ms = ms.length - (pairsL ms ms.length).length) := Lib.hid (if_pos hr)
    clear CC
    rw [pairsD_right hr] at HC ⊢
    have hhalf := pairs_half hr
    have HAt := Lib.hid (fun i hi => counts_at ms (i := i) hi)
    have hLn := pairsL_length ms ms.length
    obtain ⟨L, hL⟩ : ∃ L, pairsL ms ms.length = L := ⟨_, rfl⟩
    rw [hL] at HLeft HC HAt hhalf hLn ⊢
    obtain ⟨m, hm⟩ : ∃ m, L.length = m := ⟨_, rfl⟩
    rw [hm] at HLeft HC HAt hhalf hLn ⊢
    generalize L.map (·.1) = xs at *
    generalize L.map (·.2) = ys at *
    have HHalf := Lib.hid hhalf
    clear hr hL hm hhalf
    obtain ⟨n, hn⟩ : ∃ n, ms.length = n := ⟨_, rfl⟩
    have HMc := Lib.hid HC.out.mate
    have HAl := Lib.hid (alone_le ms)
    rw [hn] at HMc HLeft HHalf HAt CR h60 d0 hLn ⊢
    have HN2 := Lib.hid hn
    have HNn : Hid (a0 = none → n = 0 ∧ cap0 = 0) := Lib.hid (by rw [← hn]; exact HN.out)
    clear hn
    go_wp2_with (go_at_call 16; refine CR.out.mono ?_; clear CR; rintro e w' ⟨rfl, rfl⟩)
    go_loop [5, 37] (fun s i => ∃ j : Nat, i = .int .i64 j ∧ j ≤ n ∧ s = .int .i64 ((aloneN ms j : Nat) : Int)) (fun _ i => n - (intOf i).toNat)
    case atStart => exact ⟨0, rfl, Nat.zero_le _, rfl⟩
    case round =>
      obtain ⟨j, rfl, hj, rfl⟩ := hrel
      by_cases hlt : j < n
      · have c1 := HMc.out.cell j hlt
        obtain rfl : a0 = some ⟨b0, off0, none⟩ := HMc.out.addr.resolve_left (by omega)
        have hji : (j : Int) < (n : Int) := by omega
        have hal := HAl.out j
        have HS := Lib.hid (alone_succ ms j)
        generalize aloneN ms j = s at *
        generalize ms.getD j 0 = y at *
        by_cases hy : y = (j : Int)
        · have g1 : (y == (j : Int)) = true := by simpa using hy
          have HS2 : Hid (aloneN ms (j + 1) = s + 1) := Lib.hid (by rw [HS.out, if_pos hy])
          have hw : IntKind.i64.wrap ((s : Int) + 1) = (s : Int) + 1 := IntWalk.i64_in _ (by omega)
          clear hy HS
          go_wp2
          go_round
          case rel => exact ⟨j + 1, by go_num, by omega, by rw [HS2.out]; go_num⟩
          case measure => simp [intOf]; omega
        · have g1 : (y == (j : Int)) = false := by simpa using hy
          have HS2 : Hid (aloneN ms (j + 1) = s) := Lib.hid (by rw [HS.out, if_neg hy]; rfl)
          clear hy HS
          go_wp2
          go_round
          case rel => exact ⟨j + 1, by go_num, by omega, by rw [HS2.out]⟩
          case measure => simp [intOf]; omega
      · obtain rfl : j = n := by omega
        obtain ⟨al, hal⟩ : ∃ al, aloneN ms j = al := ⟨_, rfl⟩
        rw [hal] at HHalf ⊢
        clear hal
        go_wp2
        go_loopw [50] (fun i wr => ∃ q : Nat, i = .int .i64 q ∧ q ≤ m ∧ Hid (CoR w a0 b0 off0 ms a1 b1 a2 b2 m xs ys wr)) (fun i _ => m - (intOf i).toNat)
        case atStart => exact ⟨0, rfl, Nat.zero_le _, HC⟩
        case round =>
          clear HC
          obtain ⟨q, rfl, hq, HC⟩ := hrel
          by_cases hlq : q < m
          · obtain ⟨t, t1, t2, t3, t4, t5⟩ := HAt.out q hlq
            have hqi : (q : Int) < (m : Int) := by omega
            have hti : (t : Int) < (j : Int) := by omega
            have k1 := HC.out.row1.cell q hlq
            have k2 := HC.out.row2.cell q hlq
            have hM := HC.out.mate
            rw [HN2.out] at hM
            have k3 := hM.cell t t2
            have HT5 := Lib.hid t5
            obtain rfl : a1 = some ⟨b1, 0, none⟩ := HC.out.row1.addr.resolve_left (by omega)
            obtain rfl : a2 = some ⟨b2, 0, none⟩ := HC.out.row2.addr.resolve_left (by omega)
            obtain rfl : a0 = some ⟨b0, off0, none⟩ := hM.addr.resolve_left (by omega)
            rw [Nat.zero_add] at k1 k2
            rw [t1] at k1
            rw [t3] at k2
            have HX := Lib.hid (fun k (hk : k < m) => HC.out.row1.cell k hk)
            clear t1 t3 t5 hM
            generalize ms.getD t 0 = y at k2 k3 t4
            have g1 : decide (y ≤ (t : Int)) = false := by simp; omega
            have g2 : (y == y) = true := by simp
            have g2' : (y != y) = false := by simp
            clear t4
            by_cases h0 : q = 0
            · have g3 : decide (0 < (q : Int)) = false := by simp; omega
              have g4 : decide (0 < q) = false := by simp; omega
              clear h0
              go_wp2
              go_quiet (fail)
              go_wp2
              go_roundw
              case rel => exact ⟨q + 1, by go_num, by omega, Lib.hid (HC.out.on ⟨rfl, rfl, rfl, Nat.le_refl _, fun _ _ => rfl⟩)⟩
              case measure => simp [intOf]; omega
            · obtain ⟨k, hk⟩ : ∃ k, q = k + 1 := ⟨q - 1, by omega⟩
              have g3 : decide (0 < (q : Int)) = true := by simp; omega
              have g4 : decide (0 < q) = true := by simp; omega
              have k4 := HX.out k (by omega)
              rw [Nat.zero_add] at k4
              have t6 := HT5.out k hk
              have hw : IntKind.i64.wrap ((q : Int) - 1) = (k : Int) := by rw [show (q : Int) - 1 = (k : Int) by omega]; exact IntWalk.i64_in _ (by omega)
              have hki : (k : Int) < (m : Int) := by omega
              have hk0 : (0 : Int) ≤ (k : Int) := by omega
              generalize xs.getD k 0 = x at k4 t6
              have g5 : decide ((t : Int) ≤ x) = false := by simp; omega
              clear hk t6 h0
              go_wp2
              go_quiet (fail)
              go_wp2
              go_roundw
              case rel => exact ⟨q + 1, by go_num, by omega, Lib.hid (HC.out.on ⟨rfl, rfl, rfl, Nat.le_refl _, fun _ _ => rfl⟩)⟩
              case measure => simp [intOf]; omega
          · obtain rfl : q = m := by omega
            have hM := HC.out.mate
            rw [HN2.out] at hM
            have CC2 := Lib.hid (mcount_any (cap := cap0) hM HNn.out (by omega))
            rw [HLeft.out] at CC2
            have hhalf := HHalf.out
            have g1 : ((al : Int) + 2 * (q : Int) == (j : Int)) = true := by simp; omega
            have hw1 : IntKind.i64.wrap (2 * (q : Int)) = 2 * (q : Int) := IntWalk.i64_in _ (by omega)
            have hw2 : IntKind.i64.wrap ((al : Int) + 2 * (q : Int)) = (al : Int) + 2 * (q : Int) := IntWalk.i64_in _ (by omega)
            have hw3 : IntKind.i64.wrap ((j : Int) - (q : Int)) = ((j - q : Nat) : Int) := by rw [show (j : Int) - (q : Int) = ((j - q : Nat) : Int) by omega]; exact IntWalk.i64_in _ (by omega)
            have hj2 : (j : Int) - (q : Int) = ((j - q : Nat) : Int) := by omega
            have HJ2 := Lib.hid hj2
            obtain ⟨cn, hcn⟩ : ∃ cn, j - q = cn := ⟨_, rfl⟩
            have g4 : ((cn : Int) == (j : Int) - (q : Int)) = true := by rw [hj2, hcn]; simp
            rw [hcn] at CC2 hw3
            have HCn := Lib.hid hcn
            clear hhalf hj2 hcn hM
            go_wp2_with (go_at_call 20; refine CC2.out.mono ?_; clear CC2; rintro e w12 ⟨rfl, hb12⟩; have HB12 := Lib.hid (HC.out.on hb12).below; clear hb12)
            go_ret
            exact ⟨rfl, HB12.out⟩
end L10
end Go.Proofs.Ytcmgmcooaljjdaa
