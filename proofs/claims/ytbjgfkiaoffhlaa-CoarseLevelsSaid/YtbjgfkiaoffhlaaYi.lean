/- Contracts: the reference's Right and Pairs (layer 10). -/
import Derived.Test.YtbjgfkiaoffhlaaYd
import Derived.Test.YtbjgfkiaoffhlaaYf
import Derived.Test.YtbjgfkiaoffhlaaGbr
import Derived.Test.YtbjgfkiaoffhlaaGn
set_option linter.unusedVariables false
set_option linter.unusedSectionVars false
namespace Go.Proofs.Ytbjgfkiaoffhlaa
open Go.RowKit Go.Shelf Rk

theorem mateOk_lo {ms : List Int} {j : Nat} (h : ¬ (0 ≤ ms.getD j 0 ∧ ms.getD j 0 < (ms.length : Int))) : mateOk ms j = false :=
  decide_eq_false (fun h2 => h ⟨h2.1, h2.2.1⟩)
set_option maxRecDepth 100000 in
set_option maxHeartbeats 2000000 in
theorem xmright_any {B : Nat} {w : World} {a : Option Addr} {b off len cap : Nat} {ms : List Int} (hm : IntsAt .i64 B w a b off len ms) :
    Calls Try.prog 17 #[.slice a len cap] w fun e w' => e = .returned (.bool (mateR ms)) ∧ w = w' := by
  have hsm := hm.small
  unfold maxLen at hsm
  have HM := Lib.hid hm
  have hl := hm.length
  have HA : Hid ((∀ i, i < len → mateOk ms i = true) → mateR ms = true) := Lib.hid (fun h => mateR_all (by rw [hl]; exact h))
  have HO : Hid (∀ i, i < len → mateOk ms i = false → mateR ms = false) := Lib.hid (fun i hi => mateOk_false (by rw [hl]; exact hi))
  have HD : Hid (∀ i, mateOk ms i = decide (0 ≤ ms.getD i 0 ∧ ms.getD i 0 < (len : Int) ∧ ms.getD (ms.getD i 0).toNat 0 = (i : Int))) := Lib.hid (fun i => by rw [← hl]; rfl)
  clear hm hl
  generalize mateR ms = res at *
  go_enter Try.func17, Try.ntmps17
  go_wp2
  go_loop [3] (fun i => ∃ j : Nat, j ≤ len ∧ i = .int .i64 j ∧ Hid (∀ i, i < j → 0 ≤ ms.getD i 0 ∧ ms.getD i 0 < (len : Int))) (fun i => len - (intOf i).toNat)
  case atStart => exact ⟨0, Nat.zero_le _, rfl, Lib.hid (fun i hi => absurd hi (Nat.not_lt_zero _))⟩
  case round =>
    obtain ⟨j, hj, rfl, HJ⟩ := hrel
    by_cases hlt : j < len
    · have c1 := HM.out.cell j hlt
      obtain rfl : a = some ⟨b, off, none⟩ := HM.out.addr.resolve_left (by omega)
      have hd := HD.out j
      have hjn : (j : Int) < (len : Int) := by omega
      by_cases h1 : ms.getD j 0 < 0
      · have d1 : decide (ms.getD j 0 < 0) = true := by simpa using h1
        have hr := Lib.hid (HO.out j hlt (by rw [hd]; exact decide_eq_false (fun h => by omega)))
        clear hd h1
        generalize ms.getD j 0 = y at *
        go_wp2
        go_ret
        exact ⟨mretb hr.out.symm, rfl⟩
      · have d1 : decide (ms.getD j 0 < 0) = false := by simpa using h1
        by_cases h2 : (len : Int) ≤ ms.getD j 0
        · have d2 : decide ((len : Int) ≤ ms.getD j 0) = true := by simpa using h2
          have hr := Lib.hid (HO.out j hlt (by rw [hd]; exact decide_eq_false (fun h => by omega)))
          clear hd h1 h2
          generalize ms.getD j 0 = y at *
          go_wp2
          go_ret
          exact ⟨mretb hr.out.symm, rfl⟩
        · have d2 : decide ((len : Int) ≤ ms.getD j 0) = false := by simpa using h2
          have HJ2 : Hid (∀ i, i < j + 1 → 0 ≤ ms.getD i 0 ∧ ms.getD i 0 < (len : Int)) := Lib.hid (fun i hi => by
            by_cases e : i = j
            · subst e; omega
            · exact HJ.out i (by omega))
          clear hd h1 h2
          generalize ms.getD j 0 = y at c1 d1 d2
          go_wp2
          go_round
          case rel => exact ⟨j + 1, by omega, by go_num, HJ2⟩
          case measure => simp [intOf]; omega
    · obtain rfl : j = len := by omega
      have HB := HJ
      clear HJ
      go_wp2
      go_loop [4] (fun i => ∃ k : Nat, k ≤ j ∧ i = .int .i64 k ∧ Hid (∀ i, i < k → mateOk ms i = true)) (fun i => j - (intOf i).toNat)
      case atStart => exact ⟨0, Nat.zero_le _, rfl, Lib.hid (fun i hi => absurd hi (Nat.not_lt_zero _))⟩
      case round =>
        obtain ⟨k, hk, rfl, HK⟩ := hrel
        by_cases hlt : k < j
        · have c1 := HM.out.cell k hlt
          obtain rfl : a = some ⟨b, off, none⟩ := HM.out.addr.resolve_left (by omega)
          have hd := HD.out k
          have hkn : (k : Int) < (j : Int) := by omega
          have hbb := HB.out k hlt
          obtain ⟨q, hq⟩ : ∃ q : Nat, ms.getD k 0 = (q : Int) := ⟨_, (Int.toNat_of_nonneg hbb.1).symm⟩
          rw [hq] at c1 hd hbb
          have hql : q < j := by omega
          have hqn : (q : Int) < (j : Int) := by omega
          have c2 := HM.out.cell q hql
          rw [Int.toNat_natCast] at hd
          clear hbb hq
          by_cases h3 : ms.getD q 0 = (k : Int)
          · have d3 : (ms.getD q 0 == (k : Int)) = true := by simpa using h3
            have d4 : (ms.getD q 0 != (k : Int)) = false := by simpa using h3
            have hok : mateOk ms k = true := by rw [hd]; exact decide_eq_true ⟨by omega, hqn, h3⟩
            have HK2 : Hid (∀ i, i < k + 1 → mateOk ms i = true) := Lib.hid (fun i hi => by
              by_cases e : i = k
              · subst e; exact hok
              · exact HK.out i (by omega))
            clear hd hok h3
            generalize ms.getD q 0 = z at c2 d3 d4
            go_wp2
            go_round
            case rel => exact ⟨k + 1, by omega, by go_num, HK2⟩
            case measure => simp [intOf]; omega
          · have d3 : (ms.getD q 0 == (k : Int)) = false := by simpa using h3
            have d4 : (ms.getD q 0 != (k : Int)) = true := by simpa using h3
            have hr := Lib.hid (HO.out k hlt (by rw [hd]; exact decide_eq_false (fun h => h3 h.2.2)))
            clear hd h3
            generalize ms.getD q 0 = z at c2 d3 d4
            go_wp2
            go_ret
            exact ⟨mretb hr.out.symm, rfl⟩
        · obtain rfl : k = j := by omega
          have hr := Lib.hid (HA.out HK.out)
          go_wp2
          go_ret
          exact ⟨mretb hr.out.symm, rfl⟩
theorem Gx.Try.infoInt : (Try.prog.info? 3).map (fun i => (i.zero, i.size, i.bytes)) = some (some (.int .i64 0), 1, 8) := Gc.Try.infoInt
/-- Two rows that grow side by side. -/
structure TwoR (w : World) (v1 v2 : Value) (xs ys : List Int) (b1 b2 : Option Nat) (W : World) : Prop where
  g1 : GB W w.heap.size 3 1 v1 xs.length (ivals .i64 xs) b1
  g2 : GB W w.heap.size 3 1 v2 ys.length (ivals .i64 ys) b2
  ne : ∀ g, b1 = some g → b2 ≠ some g
  below : Below w.heap.size w W
section
variable {w : World} {W W' : World} {v1 v2 : Value} {xs ys : List Int} {b1 b2 : Option Nat}
theorem TwoR.alloc (h : TwoR w v1 v2 xs ys b1 b2 W) (o : Obj) : TwoR w v1 v2 xs ys b1 b2 (W.alloc o) := ⟨h.g1.alloc o, h.g2.alloc o, h.ne, h.below.alloc h.below.size o⟩
theorem TwoR.on (h : TwoR w v1 v2 xs ys b1 b2 W) (hb : Below W.heap.size W W') : TwoR w v1 v2 xs ys b1 b2 W' := ⟨h.g1.below hb, h.g2.below hb, h.ne, h.below.trans (hb.mono h.below.size)⟩
theorem TwoR.app1 {x : Int} {g c : Nat} {row : Option Nat} (h : TwoR w v1 v2 xs ys b1 b2 W) (hG : GB W' w.heap.size 3 1 (.slice (some ⟨g, 0, none⟩) (xs.length + 1) c) (xs.length + 1) (ivals .i64 xs ++ [.int .i64 x]) (some g)) (hg : W.grownBy W' row) (hr : row = none ∨ row = b1) (hgr : b1 = some g ∨ W.heap.size ≤ g) :
    TwoR w (.slice (some ⟨g, 0, none⟩) (xs.length + 1) c) v2 (xs ++ [x]) ys (some g) b2 W' := by
  have hrow : ∀ r, row = some r → b1 = some r := fun r e => by rcases hr with e2 | e2; rw [e] at e2; cases e2; rw [← e2, e]
  refine ⟨by rw [ivals_snoc, List.length_append]; exact hG, h.g2.kept hg (fun r e e2 => h.ne r (hrow r e2) e), fun g' e e2 => ?_, h.below.grown hg h.below.size (fun r e => (h.g1.lt r (hrow r e)).1)⟩
  cases e
  rcases hgr with e3 | e3
  · exact h.ne g e3 e2
  · have := (h.g2.lt g e2).2.1; omega
theorem TwoR.app2 {x : Int} {g c : Nat} {row : Option Nat} (h : TwoR w v1 v2 xs ys b1 b2 W) (hG : GB W' w.heap.size 3 1 (.slice (some ⟨g, 0, none⟩) (ys.length + 1) c) (ys.length + 1) (ivals .i64 ys ++ [.int .i64 x]) (some g)) (hg : W.grownBy W' row) (hr : row = none ∨ row = b2) (hgr : b2 = some g ∨ W.heap.size ≤ g) :
    TwoR w v1 (.slice (some ⟨g, 0, none⟩) (ys.length + 1) c) xs (ys ++ [x]) b1 (some g) W' := by
  have hrow : ∀ r, row = some r → b2 = some r := fun r e => by rcases hr with e2 | e2; rw [e] at e2; cases e2; rw [← e2, e]
  refine ⟨h.g1.kept hg (fun r e e2 => h.ne r e (hrow r e2)), by rw [ivals_snoc, List.length_append]; exact hG, fun g' e e2 => ?_, h.below.grown hg h.below.size (fun r e => (h.g2.lt r (hrow r e)).1)⟩
  cases e2
  rcases hgr with e3 | e3
  · exact h.ne g e e3
  · have := (h.g1.lt g e).2.1; omega
end
/-- A slice that is somewhere. -/
def SomeSl (v : Value) : Prop := ∃ ad n c, v = .slice (some ad) n c
/-- What a call leaves: two rows of new memory. -/
def PairPost (w : World) (T : List (Int × Int)) (e : Ending) (w' : World) : Prop :=
  ∃ v1 v2, e = .returned (.tuple #[v1, v2]) ∧ Gath w' w.heap.size 3 1 v1 T.length (ivals .i64 (T.map (·.1))) ∧ Gath w' w.heap.size 3 1 v2 T.length (ivals .i64 (T.map (·.2))) ∧ Below w.heap.size w w' ∧ SomeSl v1 ∧ SomeSl v2
theorem TwoR.pair {w W : World} {v1 v2 : Value} {b1 b2 : Option Nat} {T : List (Int × Int)} (h : TwoR w v1 v2 (T.map (·.1)) (T.map (·.2)) b1 b2 W) (s1 : SomeSl v1) (s2 : SomeSl v2) : PairPost w T (.returned (.tuple #[v1, v2])) W := by
  have h1 := h.g1.gath
  have h2 := h.g2.gath
  rw [List.length_map] at h1 h2
  exact ⟨v1, v2, rfl, h1, h2, h.below, s1, s2⟩
set_option maxRecDepth 100000 in
set_option maxHeartbeats 4000000 in
theorem xmpairs_any {w : World} {a : Option Addr} {b off len cap : Nat} {ms : List Int} (hm : IntsAt .i64 w.heap.size w a b off len ms) (hlen : len ≤ 60000) :
    Calls Try.prog 19 #[.slice a len cap] w (PairPost w (pairsD ms)) := by
  obtain ⟨i0, hi, hz0, hz1, hz2⟩ := info_parts Gx.Try.infoInt
  have HI := Lib.hid hi
  have HZ0 := Lib.hid hz0
  have HZ1 := Lib.hid hz1
  have HZ2 := Lib.hid hz2
  clear hi hz0 hz1 hz2
  have HM := Lib.hid hm
  have HRt : Hid (∀ W, Below w.heap.size w W → Calls Try.prog 17 #[.slice a len cap] W fun e w' => e = .returned (.bool (mateR ms)) ∧ W = w') := Lib.hid (fun W hW => xmright_any (HM.out.kept hW (Nat.le_refl _)))
  have hl := hm.length
  obtain ⟨q, hq⟩ : ∃ q, mateR ms = q := ⟨_, rfl⟩
  have HE : Hid (pairsD ms = if q = true then pairsL ms len else []) := Lib.hid (by unfold pairsD; rw [hq, hl])
  rw [hq] at HRt
  clear hm hl hq
  have hR0 : TwoR w (.slice (some ⟨w.heap.size, 0, none⟩) 0 0) (.slice (some ⟨w.heap.size + 1, 0, none⟩) 0 0) [] [] none none ((w.alloc (.cells #[] 3)).alloc (.cells #[] 3)) := ⟨gb_nil _ _ _ _ _, gb_nil _ _ _ _ _, (fun g e => by cases e), ((Below.refl _ w).alloc (Nat.le_refl _) _).alloc (by simp) _⟩
  have HR0 := Lib.hid hR0
  clear hR0
  go_enter Try.func19, Try.ntmps19
  go_wp2
  go_loopw [4, 5, 6] (fun tv uv i wr => ∃ (j : Nat) (b1 b2 : Option Nat), j ≤ len ∧ i = .int .i64 j ∧ (j = 0 ∨ q = true) ∧ Hid (SomeSl tv) ∧ Hid (SomeSl uv) ∧ Hid (TwoR w tv uv ((pairsL ms j).map (·.1)) ((pairsL ms j).map (·.2)) b1 b2 wr)) (fun _ _ i _ => len - (intOf i).toNat)
  case atStart => exact ⟨0, none, none, Nat.zero_le _, rfl, .inl rfl, Lib.hid ⟨_, _, _, rfl⟩, Lib.hid ⟨_, _, _, rfl⟩, HR0⟩
  case round =>
    clear HR0
    obtain ⟨j, b1, b2, hj, rfl, hjq, hs1, hs2, hT⟩ := hrel
    by_cases hlt : j < len
    · have HR1 := Lib.hid (HRt.out _ hT.out.below)
      cases q with
      | false =>
        obtain rfl : j = 0 := hjq.resolve_right (by decide)
        go_wp2_with (go_at_call 17; refine HR1.out.mono ?_; clear HR1; rintro e w' ⟨rfl, rfl⟩)
        go_ret2
        rw [HE.out]
        exact hT.out.pair hs1.out hs2.out
      | true =>
        have hI := HM.out.kept hT.out.below (Nat.le_refl _)
        have c1 := hI.cell j hlt
        obtain rfl : a = some ⟨b, off, none⟩ := hI.addr.resolve_left (by omega)
        have HS : Hid (pairsL ms (j + 1) = pairsL ms j ++ if (j : Int) < ms.getD j 0 then [((j : Int), ms.getD j 0)] else []) := Lib.hid rfl
        have hpl := pairsL_length ms j
        obtain ⟨xs, hxs⟩ : ∃ xs, (pairsL ms j).map (·.1) = xs := ⟨_, rfl⟩
        obtain ⟨ys, hys⟩ : ∃ ys, (pairsL ms j).map (·.2) = ys := ⟨_, rfl⟩
        have hxl : xs.length ≤ j := by rw [← hxs, List.length_map]; exact hpl
        have hyl : ys.length ≤ j := by rw [← hys, List.length_map]; exact hpl
        rw [hxs, hys] at hT
        have HXS := Lib.hid hxs
        have HYS := Lib.hid hys
        have hjn : (j : Int) < (len : Int) := by omega
        have hbw : b < w.heap.size := HM.out.below.resolve_left (by omega)
        generalize ms.getD j 0 = y at *
        clear hxs hys hpl hI
        obtain ⟨a1, k1, rfl⟩ := hT.out.g1.slice
        obtain ⟨a2, k2, rfl⟩ := hT.out.g2.slice
        rename_i wr
        have hcw : ∀ W, Below wr.heap.size wr W → W.cell? ⟨b, off + j, none⟩ = some (.int .i64 y) := fun W hW => by
          have h1 := World.block_lt_of_cell? _ _ c1
          rw [hW.cell h1]; exact c1
        have HCW := Lib.hid hcw
        clear hcw
        by_cases hd : (j : Int) < y
        · have hdt : decide ((j : Int) < y) = true := by simpa using hd
          have HE2 : Hid (pairsL ms (j + 1) = pairsL ms j ++ [((j : Int), y)]) := Lib.hid (by rw [HS.out, if_pos hd])
          clear HS hd
          go_wp2_with (first
            | (go_at_call 17; refine HR1.out.mono ?_; clear HR1; rintro e w' ⟨rfl, rfl⟩)
            | (at_builtin; refine wpList_append_GB _ rfl (.tmp 25) _ 24 rfl w.heap.size 3 i0 (.int .i64 0) 1 8 Try.underlying24 HI.out HZ0.out HZ1.out HZ2.out rfl (by decide) _ xs.length _ _ rfl (hT.out.g1.alloc _) ⟨wr.heap.size, 0, none⟩ 1 1 [.int .i64 (j : Int)] rfl rfl (cell_one _ _ _) (one_val rfl) (by decide) (by unfold maxLen; omega) (by omega) (by have := hT.out.below.size; simp; omega) ?_; intro g5 p5 w5 r5 hG5 hg5 hr5 hw5; have hT5 := (hT.out.alloc (.cells #[.int .i64 (j : Int)] 3)).app1 hG5 hg5 hr5 hw5; have c5 : w5.cell? ⟨b, off + j, none⟩ = some (.int .i64 y) := hg5.cell (HCW.out _ ((Below.refl _ _).alloc (Nat.le_refl _) _)) (fun e => by rcases hr5 with e2 | e2; (rw [e2] at e; cases e); (have := (hT.out.g1.lt b (by rw [← e2, ← e])).1; omega)); have HT5 := Lib.hid hT5; clear hG5 hg5 hr5 hw5 hT5 c1 hT)
            | (at_builtin; refine wpList_append_GB _ rfl (.tmp 29) _ 24 rfl w.heap.size 3 i0 (.int .i64 0) 1 8 Try.underlying24 HI.out HZ0.out HZ1.out HZ2.out rfl (by decide) _ ys.length _ _ rfl (HT5.out.g2.alloc _) ⟨w5.heap.size, 0, none⟩ 1 1 [.int .i64 y] rfl rfl (cell_one _ _ _) (one_val rfl) (by decide) (by unfold maxLen; omega) (by omega) (by have := HT5.out.below.size; simp; omega) ?_; intro g6 p6 w6 r6 hG6 hg6 hr6 hw6; have HT6 := Lib.hid ((HT5.out.alloc (.cells #[.int .i64 y] 3)).app2 hG6 hg6 hr6 hw6); clear hG6 hg6 hr6 hw6 HT5))
          go_roundw
          case rel => exact ⟨j + 1, some g5, some g6, by omega, by go_num, .inr trivial, Lib.hid ⟨_, _, _, rfl⟩, Lib.hid ⟨_, _, _, rfl⟩, by rw [HE2.out, List.map_append, List.map_append, HXS.out, HYS.out]; exact HT6⟩
          case measure => simp [intOf]; omega
        · have hdt : decide ((j : Int) < y) = false := by simpa using hd
          have HE2 : Hid (pairsL ms (j + 1) = pairsL ms j) := Lib.hid (by rw [HS.out, if_neg hd, List.append_nil])
          clear HS hd
          go_wp2_with (go_at_call 17; refine HR1.out.mono ?_; clear HR1; rintro e w' ⟨rfl, rfl⟩)
          go_roundw
          case rel => exact ⟨j + 1, b1, b2, by omega, by go_num, .inr trivial, hs1, hs2, by rw [HE2.out, HXS.out, HYS.out]; exact hT⟩
          case measure => simp [intOf]; omega
    · obtain rfl : j = len := by omega
      have HF : Hid (pairsD ms = pairsL ms j) := Lib.hid (by
        rw [HE.out]
        rcases hjq with h | h
        · subst h; split <;> rfl
        · rw [if_pos h])
      go_wp2
      go_ret2
      rw [HF.out]
      exact hT.out.pair hs1.out hs2.out
end Go.Proofs.Ytbjgfkiaoffhlaa
