/- Contract: the reference's Heavy (layer 10). -/
import Derived.Test.YtcmgmcooaljjdaaYj
import Derived.Test.YtcmgmcooaljjdaaYh
import Derived.Test.YtcmgmcooaljjdaaBo
import Derived.Test.YtcmgmcooaljjdaaZpa
import Derived.Deep.QuietTactic
import Derived.BigQuiet
set_option linter.unusedVariables false
set_option linter.unusedSectionVars false
namespace Go.Proofs.Ytcmgmcooaljjdaa
open Go.RowKit Go.Shelf Rk

/-- A row of a call's own, whatever its spare room. -/
structure XmR (w : World) (g n : Nat) (zs : List Int) (W : World) : Prop where
  cells : ∃ cur, W.heap[g]? = some (.cells cur 3 (0, 0))
  ints : IntsAt .i64 W.heap.size W (some ⟨g, 0, none⟩) g 0 n zs
  new : w.heap.size ≤ g
  below : Below w.heap.size w W
theorem XmR.on {w W W' : World} {g n : Nat} {zs : List Int} (h : XmR w g n zs W) (hb : Below W.heap.size W W') : XmR w g n zs W' := by
  obtain ⟨cur, hc⟩ := h.cells
  exact ⟨⟨cur, heap_below hc hb (heap_lt hc)⟩, (h.ints.kept hb (Nat.le_refl _)).mono hb.size, h.new, h.below.trans (hb.mono h.below.size)⟩
theorem XmR.set {w W : World} {g n i : Nat} {zs : List Int} (h : XmR w g n zs W) (hi : i < n) {v : Int} (hv : (Lit.int .i64 v).wf = true) : XmR w g n (zs.set i v) (W.setCell ⟨g, i, none⟩ (.int .i64 v)) := by
  obtain ⟨cur, hc⟩ := h.cells
  exact ⟨⟨_, heap_set hc i _⟩, h.ints.set hc hi hv, h.new, h.below.setCell (p := ⟨g, i, none⟩) h.new _⟩
theorem XmR.cell {w W : World} {g n i : Nat} {zs : List Int} (h : XmR w g n zs W) (hi : i < n) : W.cell? ⟨g, i, none⟩ = some (.int .i64 (zs.getD i 0)) := by
  have := h.ints.cell i hi
  rwa [Nat.zero_add] at this
theorem XmR.frozen {w W : World} {g n : Nat} {zs : List Int} (h : XmR w g n zs W) (i : Nat) : W.frozen? ⟨g, i, none⟩ = false := by
  obtain ⟨cur, hc⟩ := h.cells
  exact heap_frozen hc i
theorem below_drewN (n₀ : Nat) (W : World) (k : Nat) : Below n₀ W (W.drewN k) := ⟨rfl, rfl, rfl, Nat.le_refl _, fun _ _ => rfl⟩
theorem Hx.Try.infoInt : (Try.prog.info? 3).map (fun i => (i.zero, i.size, i.bytes)) = some (some (.int .i64 0), 1, 8) := Gi.Try.infoInt
def XHeavyPost (W : World) (n : Nat) (zs : List Int) (e : Ending) (w' : World) : Prop := ∃ ad c b', e = .returned (.slice ad n c) ∧ IntsAt .i64 w'.heap.size w' ad b' 0 n zs ∧ Below W.heap.size W w'
set_option maxRecDepth 100000 in
set_option maxHeartbeats 8000000 in
theorem xheavy_any {W : World} {X : XD} {lo : Nat} {ws : List Int} {F : Nat → Nat → Int} (h : IsX W X lo ws F) :
    Calls Try.prog 15 #[X.val ws.length] W (XHeavyPost W ws.length (heavyF ws.length F)) := by
  obtain ⟨i0, hi, hz0, hz1, hz2⟩ := info_parts Hx.Try.infoInt
  have HI := Lib.hid hi
  have HZ0 := Lib.hid hz0
  have HZ1 := Lib.hid hz1
  have HZ2 := Lib.hid hz2
  clear hi hz0 hz1 hz2
  have hal : Below W.heap.size W (W.alloc (.cells #[.slice X.wa ws.length X.wc, .slice X.ra ws.length X.rc] 29)) := (Below.refl _ _).alloc (Nat.le_refl _) _
  have hXd : (W.alloc (.cells #[.slice X.wa ws.length X.wc, .slice X.ra ws.length X.rc] 29)).heap[W.heap.size]? = some (.cells #[.slice X.wa ws.length X.wc, .slice X.ra ws.length X.rc] 29 (0, 0)) := heap_new (w := W) _ rfl
  have HXD := Lib.hid hXd
  have HA := Lib.hid hal
  have HX := Lib.hid h
  have HTab := Lib.hid h.tab
  have hsm := h.small
  obtain ⟨n, hn⟩ : ∃ n, ws.length = n := ⟨_, rfl⟩
  have HN := Lib.hid hn
  unfold XD.val
  rw [hn] at HXD HA HTab hsm ⊢
  have d0 : (W.alloc (.cells #[.slice X.wa n X.wc, .slice X.ra n X.rc] 29)).cell? ⟨W.heap.size, 0, none⟩ = some (.slice X.wa n X.wc) := heap_cell HXD.out rfl
  clear h hal hXd hn
  go_enter Try.func15, Try.ntmps15
  go_wp2_with fail
  have z1 : (W.alloc (.cells #[.slice X.wa n X.wc, .slice X.ra n X.rc] 29)).heap.size = W.heap.size + 1 := World.size_alloc _ _
  generalize W.alloc (.cells #[.slice X.wa n X.wc, .slice X.ra n X.rc] 29) = w1 at *
  have HXb : Hid (∀ W', Below w1.heap.size w1 W' → W'.cell? ⟨W.heap.size, 0, none⟩ = some (.slice X.wa n X.wc) ∧ W'.cell? ⟨W.heap.size, 1, none⟩ = some (.slice X.ra n X.rc)) := Lib.hid (fun W' hW => ⟨heap_cell (heap_below HXD.out hW (heap_lt HXD.out)) rfl, heap_cell (heap_below HXD.out hW (heap_lt HXD.out)) rfl⟩)
  have HXr : Hid (∀ W', Below w1.heap.size w1 W' → ∀ i, i < n → X.ra = some ⟨X.rb, 0, none⟩ ∧ W'.cell? ⟨X.rb, i, none⟩ = some (.slice (some ⟨X.rows i, 0, none⟩) n n) ∧ ∀ b, b < n → W'.cell? ⟨X.rows i, b, none⟩ = some (.int .i64 (F i b))) := Lib.hid (fun W' hW i hi => by
    have := (HX.out.below (HA.out.trans (hW.mono HA.out.size))).at_ (a := i) (by rw [HN.out]; exact hi)
    rwa [HN.out] at this)
  have HAB : Hid (∀ W', Below w1.heap.size w1 W' → Below W.heap.size W W') := Lib.hid (fun W' hW => HA.out.trans (hW.mono HA.out.size))
  have HB1 := Lib.hid ((Below.refl w1.heap.size w1).alloc (Nat.le_refl _) (.cells #[] 3))
  have HG0 : Hid (Gath (w1.alloc (.cells #[] 3)) w1.heap.size 3 1 (.slice (some ⟨W.heap.size + 1, 0, none⟩) 0 0) 0 []) := Lib.hid (.inl ⟨rfl, rfl, _, rfl⟩)
  clear HA HXD HX
  go_loopw [4, 5] (fun tv i wr => ∃ j : Nat, i = .int .i64 j ∧ j ≤ n ∧ Hid (Gath wr w1.heap.size 3 1 tv j (ivals .i64 (selfL j))) ∧ Hid (Below w1.heap.size w1 wr)) (fun _ i _ => n - (intOf i).toNat)
  case atStart => exact ⟨0, rfl, Nat.zero_le _, HG0, HB1⟩
  case round =>
    clear HG0 HB1
    obtain ⟨j, rfl, hj, hG, hB⟩ := hrel
    obtain ⟨a1, k1, rfl⟩ := hG.out.slice
    by_cases hlt : j < n
    · go_wp2_with (at_builtin; refine wpList_append_gath _ rfl _ _ 24 rfl w1.heap.size 3 i0 (.int .i64 0) 1 8 Try.underlying24 HI.out HZ0.out HZ1.out HZ2.out rfl (by decide) _ _ _ rfl (hG.out.alloc _) ⟨wr.heap.size, 0, none⟩ 1 1 [.int .i64 (j : Int)] rfl rfl (cell_one _ _ _) (one_val rfl) (by decide) (by unfold maxLen; omega) (by omega) (by have := hB.out.size; simp; omega) ?_; intro v' w5 hown hb5; have HO := Lib.hid hown; have HB5 := Lib.hid ((hB.out.alloc hB.out.size (.cells #[.int .i64 (j : Int)] 3)).trans hb5); obtain ⟨g', cap', rfl⟩ := ownsRow_succ hown; clear hown hb5)
      go_roundw
      case rel => exact ⟨j + 1, by go_num, by omega, Lib.hid (by rw [selfL_succ, ivals_snoc]; exact .inr HO.out), HB5⟩
      case measure => simp [intOf]; omega
    · obtain rfl : j = n := by omega
      by_cases h0 : j = 0
      · obtain ⟨a9, k9, b9, e9, _, _, _, hI9⟩ := Gath.ints (k := .i64) hG.out (selfL_length j) (fun x hx => by rw [h0] at hx; cases hx)
        have hz : heavyF j F = selfL j := by rw [h0]; rfl
        have HF := Lib.hid (show XHeavyPost W j (heavyF j F) (.returned (.slice a1 j k1)) wr from ⟨a1, k1, b9, rfl, by cases e9; rw [hz]; exact hI9, HAB.out _ hB.out⟩)
        have hz0 : decide ((0 : Int) < (j : Int)) = false := by simp; omega
        have hz1 : ¬ 0 < j := by omega
        clear hI9 e9 hz hG h0
        go_wp2
        go_loop [6] (fun i => i = .int .i64 0) (fun _ => 0)
        case atStart => rfl
        case round =>
          obtain rfl := hrel
          go_wp2
          go_ret
          exact HF.out
      · have hown := hG.out.resolve_left (fun e => h0 e.1)
        obtain ⟨g, cap, cur, e9, hg1, hgc, hgi⟩ := own_ints hown (selfL_length j) (fun x hx => by
          obtain ⟨q, hq, rfl⟩ := List.mem_map.1 hx
          exact wf_nat q (by have := List.mem_range.1 hq; omega)) (by omega)
        cases e9
        have HW0 : Hid (XmR w1 g j (matesL j (hyAt j F 0)) wr) := Lib.hid ⟨⟨cur, hgc⟩, by rw [← selfL_mates]; exact hgi, hg1, hB.out⟩
        clear hown hgc hgi hg1 hG hB
        go_wp2
        go_loopw [6] (fun i wr => ∃ k : Nat, i = .int .i64 k ∧ k ≤ j ∧ Hid (XmR w1 g j (matesL j (hyAt j F k)) wr)) (fun i _ => j - (intOf i).toNat)
        case atStart => exact ⟨0, rfl, Nat.zero_le _, HW0⟩
        case round =>
          clear HW0
          obtain ⟨k, rfl, hk, HW⟩ := hrel
          by_cases hlt : k < j
          · have c1 := HW.out.cell hlt
            rw [matesL_getD _ hlt] at c1
            have hki : (k : Int) < (j : Int) := by omega
            obtain ⟨hd0, hd1⟩ := HXb.out _ HW.out.below
            by_cases hs : hyAt j F k k = (k : Int)
            · have hd : (hyAt j F k k == (k : Int)) = true := by simpa using hs
              have hd' : (hyAt j F k k != (k : Int)) = false := by simpa using hs
              have HS := Lib.hid (hy_step hs)
              have HTA := Lib.hid (toF_all (F := F) (n := j) (mf := hyAt j F k) hlt hs)
              rw [hs] at c1 hd hd'
              have HMF := HW
              have HT0 : Hid (toF (matesL j (hyAt j F k)) F k 0 = -1) := Lib.hid rfl
              have HWF : Hid (∀ i, i < j → (Lit.int .i64 (hyAt j F k i)).wf = true) := Lib.hid (fun i hi => by
                obtain ⟨q, h1, h2, _⟩ := (hy_ok HTab.out k hk).inv i hi
                rw [h1]
                exact wf_nat q (by omega))
              have hgt : ∀ i, i < j → (matesL j (hyAt j F k)).getD i 0 = hyAt j F k i := fun i hi => matesL_getD _ hi
              have HGT := Lib.hid hgt
              clear hgt hs hd0 hd1
              go_wp2
              go_loopw [7, 8] (fun t i wr2 => ∃ b : Nat, i = .int .i64 b ∧ b ≤ j ∧ t = .int .i64 (toF (matesL j (hyAt j F k)) F k b) ∧ Hid (XmR w1 g j (matesL j (hyAt j F k)) wr2)) (fun _ i _ => j - (intOf i).toNat)
              case atStart => exact ⟨0, rfl, Nat.zero_le _, by rw [HT0.out], HW⟩
              case round =>
                clear c1 HMF HW hd hd' HT0
                obtain ⟨b, rfl, hb, rfl, HW⟩ := hrel
                obtain ⟨hd0, hd1⟩ := HXb.out _ HW.out.below
                by_cases hlb : b < j
                · have c1 := HW.out.cell hlb
                  obtain ⟨era, r1, r2⟩ := HXr.out _ HW.out.below k hlt
                  rw [era] at hd1
                  have c2 := r2 b hlb
                  have HR2 := Lib.hid r2
                  have hbi : (b : Int) < (j : Int) := by omega
                  have HTC := Lib.hid (toF_cases (matesL j (hyAt j F k)) (F := F) k b)
                  have HTT := Lib.hid (toF_take (matesL j (hyAt j F k)) (F := F) k b)
                  have HTS := Lib.hid (toF_skip (matesL j (hyAt j F k)) (F := F) k b)
                  have HDG := Lib.hid (HTab.out.diag k)
                  clear r2 era
                  have HTN : Hid (toF (matesL j (hyAt j F k)) F k (b + 1) = toF (matesL j (hyAt j F k)) F k (b + 1)) := Lib.hid rfl
                  generalize hms : matesL j (hyAt j F k) = ms at HW c1 HTC HTT HTS HTN ⊢
                  generalize ms.getD b 0 = y at c1 HTT HTS
                  by_cases e1 : b = k
                  · have HNN := Lib.hid (HTS.out (fun h => by have h2 := h.2.1; rw [e1, HDG.out] at h2; exact absurd h2 (Int.lt_irrefl 0)))
                    have g1 : ((b : Int) != (k : Int)) = false := by simp; omega
                    have g2 : ((b : Int) == (k : Int)) = true := by simp; omega
                    clear e1 HTC HTT HTS HTN c1 c2
                    generalize toF ms F k b = s at *
                    go_wp2
                    go_quiet (fail)
                    go_wp2
                    go_roundw
                    case rel => exact ⟨b + 1, by go_num, by omega, by rw [HNN.out], Lib.hid (HW.out.on (below_drewN _ _ _))⟩
                    case measure => simp [intOf]; omega
                  · have g1 : ((b : Int) != (k : Int)) = true := by simp; omega
                    have g2 : ((b : Int) == (k : Int)) = false := by simp; omega
                    clear e1
                    by_cases e2 : y = (b : Int)
                    · have g3 : (y == (b : Int)) = true := by simpa using e2
                      by_cases e3 : 0 < F k b
                      · have g4 : decide (0 < F k b) = true := by simpa using e3
                        have HT2 := Lib.hid (HTT.out e2 e3)
                        have HE2 := Lib.hid e2
                        have HE3 := Lib.hid e3
                        subst e2
                        rcases HTC.out with ⟨q1, q2⟩ | ⟨t, q0, q1, q2, q3⟩
                        · have HNN := Lib.hid (HT2.out (by rw [q2]; exact e3))
                          rw [q1] at HTS ⊢
                          clear e3 q1 q2 HTC HTT HTS HT2
                          generalize F k b = x at c2 g4
                          go_wp2
                          go_quiet (fail)
                          go_wp2
                          go_roundw
                          case rel => exact ⟨b + 1, by go_num, by omega, by rw [HNN.out], Lib.hid (HW.out.on (below_drewN _ _ _))⟩
                          case measure => simp [intOf]; omega
                        · have c3 := HR2.out t (by omega)
                          have g5 : decide ((t : Int) < 0) = false := by simp
                          have g6 : (t : Int) < (j : Int) := by omega
                          by_cases e4 : F k t < F k b
                          · have g7 : decide (F k t < F k b) = true := by simpa using e4
                            have HNN := Lib.hid (HT2.out (by rw [q2]; exact e4))
                            rw [q1] at HTS ⊢
                            clear e3 e4 q0 q1 q2 q3 HTC HTT HTS HT2
                            generalize F k b = x at c2 g4 g7
                            generalize F k t = z at c3 g7
                            go_wp2
                            go_quiet (fail)
                            go_wp2
                            go_roundw
                            case rel => exact ⟨b + 1, by go_num, by omega, by rw [HNN.out], Lib.hid (HW.out.on (below_drewN _ _ _))⟩
                            case measure => simp [intOf]; omega
                          · have g7 : decide (F k t < F k b) = false := by simpa using e4
                            have HNN := Lib.hid (HTS.out (fun h => e4 (by have h2 := h.2.2; rw [q2] at h2; exact h2)))
                            rw [q1] at HNN ⊢
                            clear e3 e4 q0 q1 q2 q3 HTC HTT HTS HT2
                            generalize F k b = x at c2 g4 g7
                            generalize F k t = z at c3 g7
                            go_wp2
                            go_quiet (fail)
                            go_wp2
                            go_roundw
                            case rel => exact ⟨b + 1, by go_num, by omega, by rw [HNN.out], Lib.hid (HW.out.on (below_drewN _ _ _))⟩
                            case measure => simp [intOf]; omega
                      · have g4 : decide (0 < F k b) = false := by simpa using e3
                        have HNN := Lib.hid (HTS.out (fun h => e3 h.2.1))
                        subst e2
                        clear e3 HTC HTT HTS HTN
                        generalize F k b = x at c2 g4
                        generalize toF ms F k b = s at *
                        go_wp2
                        go_quiet (fail)
                        go_wp2
                        go_roundw
                        case rel => exact ⟨b + 1, by go_num, by omega, by rw [HNN.out], Lib.hid (HW.out.on (below_drewN _ _ _))⟩
                        case measure => simp [intOf]; omega
                    · have g3 : (y == (b : Int)) = false := by simpa using e2
                      have HNN := Lib.hid (HTS.out (fun h => e2 h.1))
                      clear e2 HTC HTT HTS HTN c2
                      generalize toF ms F k b = s at *
                      go_wp2
                      go_quiet (fail)
                      go_wp2
                      go_roundw
                      case rel => exact ⟨b + 1, by go_num, by omega, by rw [HNN.out], Lib.hid (HW.out.on (below_drewN _ _ _))⟩
                      case measure => simp [intOf]; omega
                · obtain rfl : b = j := by omega
                  rcases HTA.out with ⟨q1, q2⟩ | ⟨t, q0, q1, q2⟩
                  · rw [q1]
                    have HFin : Hid (XmR w1 g b (matesL b (hyAt b F (k + 1))) wr) := Lib.hid (by rw [HS.out, q2]; exact HW.out)
                    have g5 : decide ((0 : Int) ≤ -1) = false := by decide
                    clear q1 q2 HW
                    go_wp2
                    go_roundw
                    case rel => exact ⟨k + 1, by go_num, by omega, HFin⟩
                    case measure => simp [intOf]; omega
                  · rw [q1]
                    have g5 : decide ((0 : Int) ≤ (t : Int)) = true := by simp
                    have g6 : (t : Int) < (b : Int) := by omega
                    have HW5 := Lib.hid (HW.out.set hlt (wf_nat t (by omega)))
                    have HFin : Hid (XmR w1 g b (matesL b (hyAt b F (k + 1))) ((wr.setCell ⟨g, k, none⟩ (.int .i64 (t : Int))).setCell ⟨g, t, none⟩ (.int .i64 (k : Int)))) := Lib.hid (by
                      rw [HS.out, q2, Int.toNat_natCast, ← matesL_set, ← matesL_set]
                      exact HW5.out.set q0 (wf_nat k (by omega)))
                    have c1 := HW.out.cell hlt
                    have f1 := HW.out.frozen k
                    have c2 := HW5.out.cell q0
                    have f2 := HW5.out.frozen t
                    clear q1 q2 HW HW5
                    generalize (matesL b (hyAt b F k)).getD k 0 = y1 at c1
                    generalize ((matesL b (hyAt b F k)).set k (t : Int)).getD t 0 = y2 at c2
                    go_wp2
                    go_roundw
                    case rel => exact ⟨k + 1, by go_num, by omega, HFin⟩
                    case measure => simp [intOf]; omega
            · have hd : (hyAt j F k k != (k : Int)) = true := by simpa using hs
              have HS := Lib.hid (hy_stay hs)
              generalize hyAt j F k k = y at c1 hd
              go_wp2
              go_roundw
              case rel => exact ⟨k + 1, by go_num, by omega, by rw [HS.out]; exact HW⟩
              case measure => simp [intOf]; omega
          · obtain rfl : k = j := by omega
            have HF := Lib.hid (show XHeavyPost W k (heavyF k F) (.returned (.slice (some ⟨g, 0, none⟩) k k1)) wr from ⟨_, _, g, rfl, HW.out.ints, HAB.out _ HW.out.below⟩)
            clear HW
            go_wp2
            go_ret
            exact HF.out
end Go.Proofs.Ytcmgmcooaljjdaa
