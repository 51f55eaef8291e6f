/- The walk of the second of layer 11; with it the texts Yj and Yk (the document's Heavy), so import those nowhere beside it. -/
import Derived.Test.YtbjgfkiaoffhlaaYq
import Derived.Test.YtbjgfkiaoffhlaaYh
import Derived.Test.YtbjgfkiaoffhlaaBo
import Derived.Test.YtbjgfkiaoffhlaaZpa
import Derived.Deep.QuietTactic
import Derived.BigQuiet
import Derived.Test.YtbjgfkiaoffhlaaCmF
set_option linter.unusedVariables false
set_option linter.unusedSectionVars false
namespace Go.Proofs.Ytbjgfkiaoffhlaa
open Go.RowKit Rk

/-- The best of the first b, by the document: none yet is -1. -/
def toF (ms : List Int) (F : Nat → Nat → Int) (i b : Nat) : Int := if 0 < (hvR ms i (rowOf b (F i))).2 then (hvR ms i (rowOf b (F i))).1 else -1
theorem hvR_of (ms : List Int) {F : Nat → Nat → Int} (i : Nat) : ∀ b : Nat, hvR ms i (rowOf b (F i)) = ((i : Int), 0) ∨ ∃ t : Nat, t < b ∧ hvR ms i (rowOf b (F i)) = ((t : Int), F i t) ∧ 0 < F i t
  | 0 => .inl rfl
  | b + 1 => by
    have ih := hvR_of ms (F := F) i b
    rw [rowOf_succ]
    by_cases hp : 0 < F i b
    · rw [if_pos hp, hvR_snoc]
      by_cases hc : ms.getD ((b : Int)).toNat 0 = (b : Int) ∧ (hvR ms i (rowOf b (F i))).2 < F i b
      · rw [show hvS ms (hvR ms i (rowOf b (F i))) ((b : Int), F i b) = ((b : Int), F i b) from if_pos hc]
        exact .inr ⟨b, by omega, rfl, hp⟩
      · rw [show hvS ms (hvR ms i (rowOf b (F i))) ((b : Int), F i b) = hvR ms i (rowOf b (F i)) from if_neg hc]
        exact ih.imp id (fun ⟨t, h1, h2, h3⟩ => ⟨t, by omega, h2, h3⟩)
    · rw [if_neg hp, List.append_nil]
      exact ih.imp id (fun ⟨t, h1, h2, h3⟩ => ⟨t, by omega, h2, h3⟩)
theorem toF_cases (ms : List Int) {F : Nat → Nat → Int} (i b : Nat) : toF ms F i b = -1 ∧ (hvR ms i (rowOf b (F i))) = ((i : Int), 0) ∨ ∃ t : Nat, t < b ∧ toF ms F i b = (t : Int) ∧ hvR ms i (rowOf b (F i)) = ((t : Int), F i t) ∧ 0 < F i t := by
  rcases hvR_of ms (F := F) i b with h | ⟨t, h1, h2, h3⟩
  · exact .inl ⟨by unfold toF; rw [h]; exact if_neg (Int.lt_irrefl 0), h⟩
  · exact .inr ⟨t, h1, by unfold toF; rw [h2]; exact if_pos h3, h2, h3⟩
/-- The next one is taken. -/
theorem toF_take (ms : List Int) {F : Nat → Nat → Int} (i b : Nat) (h1 : ms.getD b 0 = (b : Int)) (h2 : 0 < F i b) (h3 : (hvR ms i (rowOf b (F i))).2 < F i b) : toF ms F i (b + 1) = (b : Int) := by
  unfold toF
  rw [rowOf_succ, if_pos h2, hvR_snoc, show hvS ms (hvR ms i (rowOf b (F i))) ((b : Int), F i b) = ((b : Int), F i b) from if_pos ⟨by rw [Int.toNat_natCast]; exact h1, h3⟩]
  exact if_pos h2
theorem toF_skip (ms : List Int) {F : Nat → Nat → Int} (i b : Nat) (h : ¬ (ms.getD b 0 = (b : Int) ∧ 0 < F i b ∧ (hvR ms i (rowOf b (F i))).2 < F i b)) : toF ms F i (b + 1) = toF ms F i b := by
  unfold toF
  rw [rowOf_succ]
  by_cases h2 : 0 < F i b
  · rw [if_pos h2, hvR_snoc, show hvS ms (hvR ms i (rowOf b (F i))) ((b : Int), F i b) = hvR ms i (rowOf b (F i)) from if_neg (fun h3 => h ⟨by have := h3.1; rwa [Int.toNat_natCast] at this, h2, h3.2⟩)]
  · rw [if_neg h2, List.append_nil]
/-- A thing's mate, by the document's search over all. -/
theorem toF_all {n : Nat} {F : Nat → Nat → Int} {mf : Nat → Int} {k : Nat} (hk : k < n) (hs : mf k = (k : Int)) :
    (toF (matesL n mf) F k n = -1 ∧ upd (upd mf k (hvF (matesL n mf) n F k)) (hvF (matesL n mf) n F k).toNat (k : Int) = mf) ∨ ∃ t : Nat, t < n ∧ toF (matesL n mf) F k n = (t : Int) ∧ hvF (matesL n mf) n F k = (t : Int) := by
  rcases toF_cases (matesL n mf) (F := F) k n with ⟨h1, h2⟩ | ⟨t, h1, h2, h3, _⟩
  · refine .inl ⟨h1, ?_⟩
    have e : hvF (matesL n mf) n F k = (k : Int) := by unfold hvF; rw [h2]
    rw [e, Int.toNat_natCast]
    funext c
    unfold upd
    by_cases e : c = k
    · rw [if_pos e, e, hs]
    · rw [if_neg e, if_neg e]
  · exact .inr ⟨t, h1, h2, by unfold hvF; rw [h3]⟩
theorem matesL_set (n : Nat) (mf : Nat → Int) (i : Nat) (v : Int) : (matesL n mf).set i v = matesL n (upd mf i v) := by
  apply List.ext_getElem
  · simp [matesL]
  · intro j h1 h2
    simp only [matesL, List.getElem_set, List.getElem_map, List.getElem_range]
    unfold upd
    by_cases e : i = j
    · rw [if_pos e, if_pos e.symm]
    · rw [if_neg e, if_neg (fun h => e h.symm)]
/-- Each one alone. -/
def selfL (j : Nat) : List Int := (List.range j).map (fun i : Nat => (i : Int))
theorem selfL_succ (j : Nat) : selfL (j + 1) = selfL j ++ [(j : Int)] := by simp [selfL, List.range_succ]
theorem selfL_length (j : Nat) : (selfL j).length = j := by simp [selfL]
theorem selfL_mates (n : Nat) (F : Nat → Nat → Int) : selfL n = matesL n (hyAt n F 0) := rfl
end Go.Proofs.Ytbjgfkiaoffhlaa

namespace Go.Proofs.Ytbjgfkiaoffhlaa
open Go.RowKit Go.Shelf Rk

/-- A row of a call's own, whatever its spare room. -/
structure XmR (w : World) (g n : Nat) (zs : List Int) (W : World) : Prop where
  cells : ∃ cur, W.heap[g]? = some (.cells cur 3 (0, 0))
  ints : IntsAt .i64 W.heap.size W (some ⟨g, 0, none⟩) g 0 n zs
  new : w.heap.size ≤ g
  below : Below w.heap.size w W
theorem XmR.on {w W W' : World} {g n : Nat} {zs : List Int} (h : XmR w g n zs W) (hb : Below W.heap.size W W') : XmR w g n zs W' := by
  obtain ⟨cur, hc⟩ := h.cells
  exact ⟨⟨cur, heap_below hc hb (heap_lt hc)⟩, (h.ints.kept hb (Nat.le_refl _)).mono hb.size, h.new, h.below.trans (hb.mono h.below.size)⟩
theorem XmR.set {w W : World} {g n i : Nat} {zs : List Int} (h : XmR w g n zs W) (hi : i < n) {v : Int} (hv : (Lit.int .i64 v).wf = true) : XmR w g n (zs.set i v) (W.setCell ⟨g, i, none⟩ (.int .i64 v)) := by
  obtain ⟨cur, hc⟩ := h.cells
  exact ⟨⟨_, heap_set hc i _⟩, h.ints.set hc hi hv, h.new, h.below.setCell (p := ⟨g, i, none⟩) h.new _⟩
theorem XmR.cell {w W : World} {g n i : Nat} {zs : List Int} (h : XmR w g n zs W) (hi : i < n) : W.cell? ⟨g, i, none⟩ = some (.int .i64 (zs.getD i 0)) := by
  have := h.ints.cell i hi
  rwa [Nat.zero_add] at this
theorem XmR.frozen {w W : World} {g n : Nat} {zs : List Int} (h : XmR w g n zs W) (i : Nat) : W.frozen? ⟨g, i, none⟩ = false := by
  obtain ⟨cur, hc⟩ := h.cells
  exact heap_frozen hc i
theorem below_drewN (n₀ : Nat) (W : World) (k : Nat) : Below n₀ W (W.drewN k) := ⟨rfl, rfl, rfl, Nat.le_refl _, fun _ _ => rfl⟩
theorem Hx.Try.infoInt : (Try.prog.info? 3).map (fun i => (i.zero, i.size, i.bytes)) = some (some (.int .i64 0), 1, 8) := Gi.Try.infoInt
def XHeavyPost (W : World) (n : Nat) (zs : List Int) (e : Ending) (w' : World) : Prop := ∃ ad c b', e = .returned (.slice ad n c) ∧ IntsAt .i64 w'.heap.size w' ad b' 0 n zs ∧ Below W.heap.size W w'
set_option maxRecDepth 100000 in
set_option maxHeartbeats 8000000 in
theorem xheavy_any {W : World} {X : XD} {lo : Nat} {ws : List Int} {F : Nat → Nat → Int} (h : IsX W X lo ws F) :
    Calls Try.prog 15 #[X.val ws.length] W (XHeavyPost W ws.length (heavyF ws.length F)) := by
  obtain ⟨i0, hi, hz0, hz1, hz2⟩ := info_parts Hx.Try.infoInt
  have HI := Lib.hid hi
  have HZ0 := Lib.hid hz0
  have HZ1 := Lib.hid hz1
  have HZ2 := Lib.hid hz2
  clear hi hz0 hz1 hz2
  have hal : Below W.heap.size W (W.alloc (.cells #[.slice X.wa ws.length X.wc, .slice X.ra ws.length X.rc] 29)) := (Below.refl _ _).alloc (Nat.le_refl _) _
  have hXd : (W.alloc (.cells #[.slice X.wa ws.length X.wc, .slice X.ra ws.length X.rc] 29)).heap[W.heap.size]? = some (.cells #[.slice X.wa ws.length X.wc, .slice X.ra ws.length X.rc] 29 (0, 0)) := heap_new (w := W) _ rfl
  have HXD := Lib.hid hXd
  have HA := Lib.hid hal
  have HX := Lib.hid h
  have HTab := Lib.hid h.tab
  have hsm := h.small
  obtain ⟨n, hn⟩ : ∃ n, ws.length = n := ⟨_, rfl⟩
  have HN := Lib.hid hn
  unfold XD.val
  rw [hn] at HXD HA HTab hsm ⊢
  have d0 : (W.alloc (.cells #[.slice X.wa n X.wc, .slice X.ra n X.rc] 29)).cell? ⟨W.heap.size, 0, none⟩ = some (.slice X.wa n X.wc) := heap_cell HXD.out rfl
  clear h hal hXd hn
  go_enter Try.func15, Try.ntmps15
  go_wp2_with fail
  have z1 : (W.alloc (.cells #[.slice X.wa n X.wc, .slice X.ra n X.rc] 29)).heap.size = W.heap.size + 1 := World.size_alloc _ _
  generalize W.alloc (.cells #[.slice X.wa n X.wc, .slice X.ra n X.rc] 29) = w1 at *
  have HXb : Hid (∀ W', Below w1.heap.size w1 W' → W'.cell? ⟨W.heap.size, 0, none⟩ = some (.slice X.wa n X.wc) ∧ W'.cell? ⟨W.heap.size, 1, none⟩ = some (.slice X.ra n X.rc)) := Lib.hid (fun W' hW => ⟨heap_cell (heap_below HXD.out hW (heap_lt HXD.out)) rfl, heap_cell (heap_below HXD.out hW (heap_lt HXD.out)) rfl⟩)
  have HXr : Hid (∀ W', Below w1.heap.size w1 W' → ∀ i, i < n → X.ra = some ⟨X.rb, 0, none⟩ ∧ W'.cell? ⟨X.rb, i, none⟩ = some (.slice (some ⟨X.rows i, 0, none⟩) n n) ∧ ∀ b, b < n → W'.cell? ⟨X.rows i, b, none⟩ = some (.int .i64 (F i b))) := Lib.hid (fun W' hW i hi => by
    have := (HX.out.below (HA.out.trans (hW.mono HA.out.size))).at_ (a := i) (by rw [HN.out]; exact hi)
    rwa [HN.out] at this)
  have HAB : Hid (∀ W', Below w1.heap.size w1 W' → Below W.heap.size W W') := Lib.hid (fun W' hW => HA.out.trans (hW.mono HA.out.size))
  have HB1 := Lib.hid ((Below.refl w1.heap.size w1).alloc (Nat.le_refl _) (.cells #[] 3))
  have HG0 : Hid (Gath (w1.alloc (.cells #[] 3)) w1.heap.size 3 1 (.slice (some ⟨W.heap.size + 1, 0, none⟩) 0 0) 0 []) := Lib.hid (.inl ⟨rfl, rfl, _, rfl⟩)
  clear HA HXD HX
  go_loopw [4, 5] (fun tv i wr => ∃ j : Nat, i = .int .i64 j ∧ j ≤ n ∧ Hid (Gath wr w1.heap.size 3 1 tv j (ivals .i64 (selfL j))) ∧ Hid (Below w1.heap.size w1 wr)) (fun _ i _ => n - (intOf i).toNat)
  case atStart => exact ⟨0, rfl, Nat.zero_le _, HG0, HB1⟩
  case round =>
    clear HG0 HB1
    obtain ⟨j, rfl, hj, hG, hB⟩ := hrel
    obtain ⟨a1, k1, rfl⟩ := hG.out.slice
    by_cases hlt : j < n
    · go_wp2_with (at_builtin; refine wpList_append_gath _ rfl _ _ 24 rfl w1.heap.size 3 i0 (.int .i64 0) 1 8 Try.underlying24 HI.out HZ0.out HZ1.out HZ2.out rfl (by decide) _ _ _ rfl (hG.out.alloc _) ⟨wr.heap.size, 0, none⟩ 1 1 [.int .i64 (j : Int)] rfl rfl (cell_one _ _ _) (one_val rfl) (by decide) (by unfold maxLen; omega) (by omega) (by have := hB.out.size; simp; omega) ?_; intro v' w5 hown hb5; have HO := Lib.hid hown; have HB5 := Lib.hid ((hB.out.alloc hB.out.size (.cells #[.int .i64 (j : Int)] 3)).trans hb5); obtain ⟨g', cap', rfl⟩ := ownsRow_succ hown; clear hown hb5)
      go_roundw
      case rel => exact ⟨j + 1, by go_num, by omega, Lib.hid (by rw [selfL_succ, ivals_snoc]; exact .inr HO.out), HB5⟩
      case measure => simp [intOf]; omega
    · obtain rfl : j = n := by omega
      by_cases h0 : j = 0
      · obtain ⟨a9, k9, b9, e9, _, _, _, hI9⟩ := Gath.ints (k := .i64) hG.out (selfL_length j) (fun x hx => by rw [h0] at hx; cases hx)
        have hz : heavyF j F = selfL j := by rw [h0]; rfl
        have HF := Lib.hid (show XHeavyPost W j (heavyF j F) (.returned (.slice a1 j k1)) wr from ⟨a1, k1, b9, rfl, by cases e9; rw [hz]; exact hI9, HAB.out _ hB.out⟩)
        have hz0 : decide ((0 : Int) < (j : Int)) = false := by simp; omega
        have hz1 : ¬ 0 < j := by omega
        clear hI9 e9 hz hG h0
        go_wp2
        go_loop [6] (fun i => i = .int .i64 0) (fun _ => 0)
        case atStart => rfl
        case round =>
          obtain rfl := hrel
          go_wp2
          go_ret
          exact HF.out
      · have hown := hG.out.resolve_left (fun e => h0 e.1)
        obtain ⟨g, cap, cur, e9, hg1, hgc, hgi⟩ := own_ints hown (selfL_length j) (fun x hx => by
          obtain ⟨q, hq, rfl⟩ := List.mem_map.1 hx
          exact wf_nat q (by have := List.mem_range.1 hq; omega)) (by omega)
        cases e9
        have HW0 : Hid (XmR w1 g j (matesL j (hyAt j F 0)) wr) := Lib.hid ⟨⟨cur, hgc⟩, by rw [← selfL_mates]; exact hgi, hg1, hB.out⟩
        clear hown hgc hgi hg1 hG hB
        go_wp2
        go_loopw [6] (fun i wr => ∃ k : Nat, i = .int .i64 k ∧ k ≤ j ∧ Hid (XmR w1 g j (matesL j (hyAt j F k)) wr)) (fun i _ => j - (intOf i).toNat)
        case atStart => exact ⟨0, rfl, Nat.zero_le _, HW0⟩
        case round =>
          clear HW0
          obtain ⟨k, rfl, hk, HW⟩ := hrel
          by_cases hlt : k < j
          · have c1 := HW.out.cell hlt
            rw [matesL_getD _ hlt] at c1
            have hki : (k : Int) < (j : Int) := by omega
            obtain ⟨hd0, hd1⟩ := HXb.out _ HW.out.below
            by_cases hs : hyAt j F k k = (k : Int)
            · have hd : (hyAt j F k k == (k : Int)) = true := by simpa using hs
              have hd' : (hyAt j F k k != (k : Int)) = false := by simpa using hs
              have HS := Lib.hid (hy_step hs)
              have HTA := Lib.hid (toF_all (F := F) (n := j) (mf := hyAt j F k) hlt hs)
              rw [hs] at c1 hd hd'
              have HMF := HW
              have HT0 : Hid (toF (matesL j (hyAt j F k)) F k 0 = -1) := Lib.hid rfl
              have HWF : Hid (∀ i, i < j → (Lit.int .i64 (hyAt j F k i)).wf = true) := Lib.hid (fun i hi => by
                obtain ⟨q, h1, h2, _⟩ := (hy_ok HTab.out k hk).inv i hi
                rw [h1]
                exact wf_nat q (by omega))
              have hgt : ∀ i, i < j → (matesL j (hyAt j F k)).getD i 0 = hyAt j F k i := fun i hi => matesL_getD _ hi
              have HGT := Lib.hid hgt
              clear hgt hs hd0 hd1
              go_wp2
              go_loopw [7, 8] (fun t i wr2 => ∃ b : Nat, i = .int .i64 b ∧ b ≤ j ∧ t = .int .i64 (toF (matesL j (hyAt j F k)) F k b) ∧ Hid (XmR w1 g j (matesL j (hyAt j F k)) wr2)) (fun _ i _ => j - (intOf i).toNat)
              case atStart => exact ⟨0, rfl, Nat.zero_le _, by rw [HT0.out], HW⟩
              case round =>
                clear c1 HMF HW hd hd' HT0
                obtain ⟨b, rfl, hb, rfl, HW⟩ := hrel
                obtain ⟨hd0, hd1⟩ := HXb.out _ HW.out.below
                by_cases hlb : b < j
                · have c1 := HW.out.cell hlb
                  obtain ⟨era, r1, r2⟩ := HXr.out _ HW.out.below k hlt
                  rw [era] at hd1
                  have c2 := r2 b hlb
                  have HR2 := Lib.hid r2
                  have hbi : (b : Int) < (j : Int) := by omega
                  have HTC := Lib.hid (toF_cases (matesL j (hyAt j F k)) (F := F) k b)
                  have HTT := Lib.hid (toF_take (matesL j (hyAt j F k)) (F := F) k b)
                  have HTS := Lib.hid (toF_skip (matesL j (hyAt j F k)) (F := F) k b)
                  have HDG := Lib.hid (HTab.out.diag k)
                  clear r2 era
                  have HTN : Hid (toF (matesL j (hyAt j F k)) F k (b + 1) = toF (matesL j (hyAt j F k)) F k (b + 1)) := Lib.hid rfl
                  generalize hms : matesL j (hyAt j F k) = ms at HW c1 HTC HTT HTS HTN ⊢
                  generalize ms.getD b 0 = y at c1 HTT HTS
                  by_cases e1 : b = k
                  · have HNN := Lib.hid (HTS.out (fun h => by have h2 := h.2.1; rw [e1, HDG.out] at h2; exact absurd h2 (Int.lt_irrefl 0)))
                    have g1 : ((b : Int) != (k : Int)) = false := by simp; omega
                    have g2 : ((b : Int) == (k : Int)) = true := by simp; omega
                    clear e1 HTC HTT HTS HTN c1 c2
                    generalize toF ms F k b = s at *
                    go_wp2
                    go_quiet (fail)
                    go_wp2
                    go_roundw
                    case rel => exact ⟨b + 1, by go_num, by omega, by rw [HNN.out], Lib.hid (HW.out.on (below_drewN _ _ _))⟩
                    case measure => simp [intOf]; omega
                  · have g1 : ((b : Int) != (k : Int)) = true := by simp; omega
                    have g2 : ((b : Int) == (k : Int)) = false := by simp; omega
                    clear e1
                    by_cases e2 : y = (b : Int)
                    · have g3 : (y == (b : Int)) = true := by simpa using e2
                      by_cases e3 : 0 < F k b
                      · have g4 : decide (0 < F k b) = true := by simpa using e3
                        have HT2 := Lib.hid (HTT.out e2 e3)
                        have HE2 := Lib.hid e2
                        have HE3 := Lib.hid e3
                        subst e2
                        rcases HTC.out with ⟨q1, q2⟩ | ⟨t, q0, q1, q2, q3⟩
                        · have HNN := Lib.hid (HT2.out (by rw [q2]; exact e3))
                          rw [q1] at HTS ⊢
                          clear e3 q1 q2 HTC HTT HTS HT2
                          generalize F k b = x at c2 g4
                          go_wp2
                          go_quiet (fail)
                          go_wp2
                          go_roundw
                          case rel => exact ⟨b + 1, by go_num, by omega, by rw [HNN.out], Lib.hid (HW.out.on (below_drewN _ _ _))⟩
                          case measure => simp [intOf]; omega
                        · have c3 := HR2.out t (by omega)
                          have g5 : decide ((t : Int) < 0) = false := by simp
                          have g6 : (t : Int) < (j : Int) := by omega
                          by_cases e4 : F k t < F k b
                          · have g7 : decide (F k t < F k b) = true := by simpa using e4
                            have HNN := Lib.hid (HT2.out (by rw [q2]; exact e4))
                            rw [q1] at HTS ⊢
                            clear e3 e4 q0 q1 q2 q3 HTC HTT HTS HT2
                            generalize F k b = x at c2 g4 g7
                            generalize F k t = z at c3 g7
                            go_wp2
                            go_quiet (fail)
                            go_wp2
                            go_roundw
                            case rel => exact ⟨b + 1, by go_num, by omega, by rw [HNN.out], Lib.hid (HW.out.on (below_drewN _ _ _))⟩
                            case measure => simp [intOf]; omega
                          · have g7 : decide (F k t < F k b) = false := by simpa using e4
                            have HNN := Lib.hid (HTS.out (fun h => e4 (by have h2 := h.2.2; rw [q2] at h2; exact h2)))
                            rw [q1] at HNN ⊢
                            clear e3 e4 q0 q1 q2 q3 HTC HTT HTS HT2
                            generalize F k b = x at c2 g4 g7
                            generalize F k t = z at c3 g7
                            go_wp2
                            go_quiet (fail)
                            go_wp2
                            go_roundw
                            case rel => exact ⟨b + 1, by go_num, by omega, by rw [HNN.out], Lib.hid (HW.out.on (below_drewN _ _ _))⟩
                            case measure => simp [intOf]; omega
                      · have g4 : decide (0 < F k b) = false := by simpa using e3
                        have HNN := Lib.hid (HTS.out (fun h => e3 h.2.1))
                        subst e2
                        clear e3 HTC HTT HTS HTN
                        generalize F k b = x at c2 g4
                        generalize toF ms F k b = s at *
                        go_wp2
                        go_quiet (fail)
                        go_wp2
                        go_roundw
                        case rel => exact ⟨b + 1, by go_num, by omega, by rw [HNN.out], Lib.hid (HW.out.on (below_drewN _ _ _))⟩
                        case measure => simp [intOf]; omega
                    · have g3 : (y == (b : Int)) = false := by simpa using e2
                      have HNN := Lib.hid (HTS.out (fun h => e2 h.1))
                      clear e2 HTC HTT HTS HTN c2
                      generalize toF ms F k b = s at *
                      go_wp2
                      go_quiet (fail)
                      go_wp2
                      go_roundw
                      case rel => exact ⟨b + 1, by go_num, by omega, by rw [HNN.out], Lib.hid (HW.out.on (below_drewN _ _ _))⟩
                      case measure => simp [intOf]; omega
                · obtain rfl : b = j := by omega
                  rcases HTA.out with ⟨q1, q2⟩ | ⟨t, q0, q1, q2⟩
                  · rw [q1]
                    have HFin : Hid (XmR w1 g b (matesL b (hyAt b F (k + 1))) wr) := Lib.hid (by rw [HS.out, q2]; exact HW.out)
                    have g5 : decide ((0 : Int) ≤ -1) = false := by decide
                    clear q1 q2 HW
                    go_wp2
                    go_roundw
                    case rel => exact ⟨k + 1, by go_num, by omega, HFin⟩
                    case measure => simp [intOf]; omega
                  · rw [q1]
                    have g5 : decide ((0 : Int) ≤ (t : Int)) = true := by simp
                    have g6 : (t : Int) < (b : Int) := by omega
                    have HW5 := Lib.hid (HW.out.set hlt (wf_nat t (by omega)))
                    have HFin : Hid (XmR w1 g b (matesL b (hyAt b F (k + 1))) ((wr.setCell ⟨g, k, none⟩ (.int .i64 (t : Int))).setCell ⟨g, t, none⟩ (.int .i64 (k : Int)))) := Lib.hid (by
                      rw [HS.out, q2, Int.toNat_natCast, ← matesL_set, ← matesL_set]
                      exact HW5.out.set q0 (wf_nat k (by omega)))
                    have c1 := HW.out.cell hlt
                    have f1 := HW.out.frozen k
                    have c2 := HW5.out.cell q0
                    have f2 := HW5.out.frozen t
                    clear q1 q2 HW HW5
                    generalize (matesL b (hyAt b F k)).getD k 0 = y1 at c1
                    generalize ((matesL b (hyAt b F k)).set k (t : Int)).getD t 0 = y2 at c2
                    go_wp2
                    go_roundw
                    case rel => exact ⟨k + 1, by go_num, by omega, HFin⟩
                    case measure => simp [intOf]; omega
            · have hd : (hyAt j F k k != (k : Int)) = true := by simpa using hs
              have HS := Lib.hid (hy_stay hs)
              generalize hyAt j F k k = y at c1 hd
              go_wp2
              go_roundw
              case rel => exact ⟨k + 1, by go_num, by omega, by rw [HS.out]; exact HW⟩
              case measure => simp [intOf]; omega
          · obtain rfl : k = j := by omega
            have HF := Lib.hid (show XHeavyPost W k (heavyF k F) (.returned (.slice (some ⟨g, 0, none⟩) k k1)) wr from ⟨_, _, g, rfl, HW.out.ints, HAB.out _ HW.out.below⟩)
            clear HW
            go_wp2
            go_ret
            exact HF.out
end Go.Proofs.Ytbjgfkiaoffhlaa

namespace Go.Proofs.Ytbjgfkiaoffhlaa.L11
open Go.RowKit Go.Shelf Rk

theorem and_7 (n : Int) : bits .and .i64 n 7 = n % 8 := by
  have h511 : (BitVec.ofInt 64 7).toNat = 2 ^ 3 - 1 := by decide
  have key : (BitVec.ofInt 64 n &&& BitVec.ofInt 64 7).toNat = (n % ((2 ^ 64 : Nat) : Int)).toNat % 2 ^ 3 := by
    rw [BitVec.toNat_and, BitVec.toNat_ofInt, h511, Nat.and_two_pow_sub_one_eq_mod]
  show IntKind.i64.wrap ((BitVec.ofInt 64 n &&& BitVec.ofInt 64 7).toNat : Nat) = n % 8
  rw [key, IntKind.wrap_i64]
  omega
theorem lits_at2 {W : World} {base : Nat} {v : Value} {xs : List (Value × Value)} (h : Gath W base 59 2 v xs.length (lits xs)) : ∃ a c b, v = .slice a xs.length c ∧ LitsAt W a b xs ∧ (xs.length = 0 ∨ base ≤ b) := by
  have hl := lits_length xs
  rcases h with ⟨h1, _, ao, rfl⟩ | h
  · exact ⟨ao, 0, 0, by rw [h1], ⟨.inl h1, .inl h1, fun i x hi => by have := (List.getElem?_eq_some_iff.1 hi).1; omega⟩, .inl h1⟩
  · rcases h.2 with ⟨rfl, h1⟩ | ⟨g, cap, cur, rfl, hb, hg, hnc, hcm, hcs, htake⟩
    · exact ⟨none, 0, 0, by rw [h1], ⟨.inl h1, .inl h1, fun i x hi => by have := (List.getElem?_eq_some_iff.1 hi).1; omega⟩, .inl h1⟩
    · refine ⟨_, cap, g, rfl, ⟨.inr rfl, .inr (heap_lt hg), fun i x hi => ?_⟩, .inr hb⟩
      obtain ⟨e1, e2⟩ := lits_at xs i x hi
      have key : ∀ j u, (lits xs)[j]? = some u → W.cell? ⟨g, j, none⟩ = some u := by
        intro j u hu
        have := h.cells (g := g) rfl j u hu
        rwa [addr_add, Nat.zero_add] at this
      exact ⟨key _ _ e1, key _ _ e2⟩
theorem LitsAt.turned {W W' : World} {a : Option Addr} {b c : Nat} {xs : List (Value × Value)} (h : LitsAt W a b xs) (ht : Turned (fun k => k = c) W W') (hb : xs.length = 0 ∨ b ≠ c) : LitsAt W' a b xs :=
  ⟨h.addr, h.lt.imp id (fun g => Nat.lt_of_lt_of_le g ht.size), fun i x hi => by
    have hl := (List.getElem?_eq_some_iff.1 hi).1
    have hlt : b < W.heap.size := h.lt.resolve_left (by omega)
    have hne : b ≠ c := hb.resolve_left (by omega)
    obtain ⟨h1, h2⟩ := h.cell i x hi
    exact ⟨by rw [World.cell?_of_block (w := W) (ht.block b hlt hne)]; exact h1, by rw [World.cell?_of_block (w := W) (ht.block b hlt hne)]; exact h2⟩⟩
/-- While levels are compared. -/
structure LvL (w : World) (g nb : Nat) (zs : List Int) (F : Nat → Nat → Int) (b10 : Nat) (ax : Option Addr) (bxs : Nat) (xs : List (Value × Value)) (D : List LvD) (X : XD) (lo : Nat) (wk : List Int) (Fk : Nat → Nat → Int) (W : World) : Prop where
  one : IsG W g nb zs F
  box : W.heap[b10]? = some (.cells #[.slice X.wa wk.length X.wc, .slice X.ra wk.length X.rc] 29 (0, 0))
  two : IsX W X lo wk Fk
  lits : LitsAt W ax bxs xs
  far : xs.length = 0 ∨ b10 < bxs
  lv : LvJ D xs W
  below : Below w.heap.size w W
theorem LvL.on {w : World} {g nb : Nat} {zs : List Int} {F : Nat → Nat → Int} {b10 : Nat} {ax : Option Addr} {bxs : Nat} {xs : List (Value × Value)} {D : List LvD} {X : XD} {lo : Nat} {wk : List Int} {Fk : Nat → Nat → Int} {W W' : World} (h : LvL w g nb zs F b10 ax bxs xs D X lo wk Fk W) (hb : Below W.heap.size W W') : LvL w g nb zs F b10 ax bxs xs D X lo wk Fk W' :=
  ⟨h.one.below hb, heap_below h.box hb (heap_lt h.box), h.two.below hb, h.lits.below hb, h.far, h.lv.off (E := fun _ => False) ⟨id, id, id⟩ (KpO.of_below hb), h.below.trans (hb.mono h.below.size)⟩
theorem LvL.d0 {w : World} {g nb : Nat} {zs : List Int} {F : Nat → Nat → Int} {b10 : Nat} {ax : Option Addr} {bxs : Nat} {xs : List (Value × Value)} {D : List LvD} {X : XD} {lo : Nat} {wk : List Int} {Fk : Nat → Nat → Int} {W : World} (h : LvL w g nb zs F b10 ax bxs xs D X lo wk Fk W) : W.cell? ⟨b10, 0, none⟩ = some (.slice X.wa wk.length X.wc) ∧ W.cell? ⟨b10, 1, none⟩ = some (.slice X.ra wk.length X.rc) := ⟨heap_cell h.box rfl, heap_cell h.box rfl⟩
/-- The next of the document's graphs is stored. -/
theorem LvL.store {w : World} {g nb : Nat} {zs : List Int} {F : Nat → Nat → Int} {b10 : Nat} {ax : Option Addr} {bxs : Nat} {xs : List (Value × Value)} {D : List LvD} {X : XD} {lo : Nat} {wk : List Int} {Fk : Nat → Nat → Int} {W : World} (h : LvL w g nb zs F b10 ax bxs xs D X lo wk Fk W) {X' : XD} {lo' : Nat} {wk' : List Int} {Fk' : Nat → Nat → Int} (hX : IsX W X' lo' wk' Fk') (hlo : b10 < lo') (hw : w.heap.size ≤ b10) :
    LvL w g nb zs F b10 ax bxs xs D X' lo' wk' Fk' ((W.setCell ⟨b10, 0, none⟩ (.slice X'.wa wk'.length X'.wc)).setCell ⟨b10, 1, none⟩ (.slice X'.ra wk'.length X'.rc)) := by
  have ht1 := Turned.set W b10 0 (.slice X'.wa wk'.length X'.wc)
  have hb1 := heap_set h.box 0 (.slice X'.wa wk'.length X'.wc)
  have ht2 := Turned.set (W.setCell ⟨b10, 0, none⟩ (.slice X'.wa wk'.length X'.wc)) b10 1 (.slice X'.ra wk'.length X'.rc)
  have hb2 := heap_set hb1 1 (.slice X'.ra wk'.length X'.rc)
  have hne : ∀ (V : World) (cur : Array Value), V.heap[b10]? = some (.cells cur 29 (0, 0)) → ∀ c, c = b10 → ∀ cs fr, V.heap[c]? ≠ some (.cells cs 84 fr) := fun V cur hc c e cs fr hcs => by
    subst e
    rw [hc] at hcs
    injection hcs with hcs
    injection hcs with _ hcs
    exact absurd hcs (by decide)
  have hEg : OkE (fun t => t = 29) := ⟨by decide, by decide, by decide⟩
  have ho1 : ∀ c, c = b10 → ∀ o, W.heap[c]? = some o → OffO (fun t => t = 29) o := fun c e o ho => by
    subst e; rw [h.box] at ho; cases ho
    exact .inr ⟨_, _, _, rfl, rfl, fun k n e => by simp at e⟩
  have ho2 : ∀ c, c = b10 → ∀ o, (W.setCell ⟨b10, 0, none⟩ (.slice X'.wa wk'.length X'.wc)).heap[c]? = some o → OffO (fun t => t = 29) o := fun c e o ho => by
    subst e; rw [hb1] at ho; cases ho
    exact .inr ⟨_, _, _, rfl, rfl, fun k n e => by simp at e⟩
  have hk1 : KpO (fun t => t = 29) W (W.setCell ⟨b10, 0, none⟩ (.slice X'.wa wk'.length X'.wc)) := ⟨ht1.os, ht1.tape, ht1.output, ht1.size, fun c hc hn => ht1.block c hc (fun e => hn (ho1 c e))⟩
  have hk2 : KpO (fun t => t = 29) (W.setCell ⟨b10, 0, none⟩ (.slice X'.wa wk'.length X'.wc)) ((W.setCell ⟨b10, 0, none⟩ (.slice X'.wa wk'.length X'.wc)).setCell ⟨b10, 1, none⟩ (.slice X'.ra wk'.length X'.rc)) := ⟨ht2.os, ht2.tape, ht2.output, ht2.size, fun c hc hn => ht2.block c hc (fun e => hn (ho2 c e))⟩
  have hfar : xs.length = 0 ∨ bxs ≠ b10 := h.far.imp id (fun h e => by omega)
  exact ⟨(h.one.off hEg ht1 ho1).off hEg ht2 ho2, by simpa using hb2,
    (hX.spared ht1 (fun c e => .inl (by omega)) (.inr fun c e cs fr hc => absurd hc (hne _ _ h.box c e cs fr))).spared ht2 (fun c e => .inl (by omega)) (.inr fun c e cs fr hc => absurd hc (hne _ _ hb1 c e cs fr)),
    (h.lits.turned ht1 hfar).turned ht2 hfar, h.far, (h.lv.off hEg hk1).off hEg hk2, (h.below.setCell (p := ⟨b10, 0, none⟩) hw _).setCell (p := ⟨b10, 1, none⟩) hw _⟩
/-- The document's next graph: by its own mates. -/
structure NxX (W0 : World) (wk : List Int) (Fk : Nat → Nat → Int) (s : Value) (sb : Nat) (v16 : Value) (v17 : Int) (W : World) : Prop where
  below : Below W0.heap.size W0 W
  ptr : s = .pointer (some ⟨sb, 0, none⟩)
  new : W0.heap.size ≤ sb
  err : v17 = shrE wk Fk (heavyF wk.length Fk)
  cell : ∃ (p q : Option Addr) (l1 c1 c2 : Nat), W.heap[sb]? = some (.cells #[.slice p l1 c1, .slice q l1 c2] 29 (0, 0)) ∧ (v17 = 0 → ∃ (X' : XD) (lo' : Nat) (ad : Addr) (c b' : Nat), p = X'.wa ∧ q = X'.ra ∧ c1 = X'.wc ∧ c2 = X'.rc ∧ l1 = onesN (heavyF wk.length Fk) ∧ IsX W X' lo' (wsS wk (heavyF wk.length Fk)) (shrF wk Fk (heavyF wk.length Fk)) ∧ W0.heap.size ≤ lo' ∧ v16 = .slice (some ad) wk.length c ∧ IntsAt .i64 W.heap.size W (some ad) b' 0 wk.length (inL (heavyF wk.length Fk)))
def NxH (wk : List Int) (Fk : Nat → Nat → Int) (lo : Nat) (p q : Option Addr) (l1 c1 c2 : Nat) (v16 : Value) (W : World) : Prop :=
  shrE wk Fk (heavyF wk.length Fk) = 0 → ∃ (X' : XD) (lo' : Nat) (ad : Addr) (c b' : Nat), p = X'.wa ∧ q = X'.ra ∧ c1 = X'.wc ∧ c2 = X'.rc ∧ l1 = onesN (heavyF wk.length Fk) ∧ IsX W X' lo' (wsS wk (heavyF wk.length Fk)) (shrF wk Fk (heavyF wk.length Fk)) ∧ lo ≤ lo' ∧ v16 = .slice (some ad) wk.length c ∧ IntsAt .i64 W.heap.size W (some ad) b' 0 wk.length (inL (heavyF wk.length Fk))
/-- The answer, as one value. -/
theorem xshr_one {wk : List Int} {Fk : Nat → Nat → Int} {w : World} {e : Ending} {w' : World} (h : XShrinkPost wk Fk (heavyF wk.length Fk) w e w') : Below w.heap.size w w' ∧ ∃ (p q : Option Addr) (l1 c1 c2 : Nat) (v16 : Value), e = .returned (.tuple #[.agg #[.slice p l1 c1, .slice q l1 c2], v16, .int .i64 (shrE wk Fk (heavyF wk.length Fk))]) ∧ Hid (NxH wk Fk w.heap.size p q l1 c1 c2 v16 w') := by
  obtain ⟨hb, ⟨h1, rfl⟩ | ⟨h1, X', lo', ad, c, b', rfl, k1, k2, k3⟩⟩ := h
  · exact ⟨hb, _, _, _, _, _, _, rfl, Lib.hid (fun e => absurd e h1)⟩
  · exact ⟨hb, _, _, _, _, _, _, by rw [h1]; rfl, Lib.hid (fun _ => ⟨X', lo', ad, c, b', rfl, rfl, rfl, rfl, rfl, k1, k3, rfl, k2⟩)⟩
/-- What a next level is made of. -/
theorem next_some {least : Int} {ws : List Int} {F : Nat → Nat → Int} {d : LvD} (h : nextD least ws F = some d) : ¬ (ws.length : Int) ≤ least ∧ shrE ws F (heavyF ws.length F) = 0 ∧ onesN (heavyF ws.length F) ≠ ws.length ∧ d = ⟨wsS ws (heavyF ws.length F), shrF ws F (heavyF ws.length F), inL (heavyF ws.length F)⟩ := by
  unfold nextD at h
  split at h
  · cases h
  · rename_i h1
    split at h
    · cases h
    · rename_i h2
      cases h
      exact ⟨h1, Classical.byContradiction fun e => h2 (.inl e), fun e => h2 (.inr e), rfl⟩
theorem next_none {least : Int} {ws : List Int} {F : Nat → Nat → Int} (h : nextD least ws F = none) : (ws.length : Int) ≤ least ∨ shrE ws F (heavyF ws.length F) ≠ 0 ∨ onesN (heavyF ws.length F) = ws.length := by
  unfold nextD at h
  split at h
  · rename_i h1; exact .inl h1
  · split at h
    · rename_i h2; exact .inr h2
    · cases h
/-- A table's place in memory stays under a store into another box. -/
theorem IsX.setBox {W : World} {X : XD} {lo : Nat} {ws : List Int} {F : Nat → Nat → Int} {b i : Nat} {cur : Array Value} {v : Value} (h : IsX W X lo ws F) (hb : W.heap[b]? = some (.cells cur 29 (0, 0))) (hc : ∀ k n, cur[0]? ≠ some (.int k n)) : IsX (W.setCell ⟨b, i, none⟩ v) X lo ws F := by
  have ht := Turned.set W b i v
  have off : ∀ c cs t, t ≠ 29 → W.heap[c]? = some (.cells cs t (0, 0)) → ¬ c = b := fun c cs t hne hcs e => by
    subst e; rw [hb] at hcs; injection hcs with hcs; injection hcs with _ hcs; exact hne hcs.symm
  refine ⟨h.ints.turned ht ?_, h.wlo, h.rbl.imp id (fun ⟨h1, h2, cs, h3, h4⟩ => ⟨h1, h2, cs, ht.old h3 (off _ _ _ (by decide) h3), h4⟩), fun a ha => ⟨(h.row a ha).1, (h.row a ha).2.1, ht.old (h.row a ha).2.2 (off _ _ _ (by decide) (h.row a ha).2.2)⟩, h.inj, h.tab, h.small⟩
  by_cases h0 : ws.length = 0
  · exact .inl h0
  · refine .inr fun e => ?_
    have c1 := h.ints.cell 0 (by omega)
    rw [e] at c1
    have : cur[0]? = some (.int .i64 (ws.getD 0 0)) := by simpa [World.cell?, hb] using c1
    exact hc _ _ this
theorem ints_setBox {W : World} {a : Option Addr} {bb len : Nat} {zs : List Int} {b i : Nat} {cur : Array Value} {v : Value} (h : IntsAt .i64 W.heap.size W a bb 0 len zs) (hb : W.heap[b]? = some (.cells cur 29 (0, 0))) (hc : ∀ k n, cur[0]? ≠ some (.int k n)) : IntsAt .i64 (W.setCell ⟨b, i, none⟩ v).heap.size (W.setCell ⟨b, i, none⟩ v) a bb 0 len zs := by
  refine h.turned (Turned.set W b i v) ?_
  by_cases h0 : len = 0
  · exact .inl h0
  · refine .inr fun e => ?_
    have c1 := h.cell 0 (by omega)
    rw [e] at c1
    have : cur[0]? = some (.int .i64 (zs.getD 0 0)) := by simpa [World.cell?, hb] using c1
    exact hc _ _ this
theorem nx_new {W0 w7 : World} {wk : List Int} {Fk : Nat → Nat → Int} {lo : Nat} {p q : Option Addr} {l1 c1 c2 : Nat} {v16 : Value} (hB : Below W0.heap.size W0 w7) (h : NxH wk Fk lo p q l1 c1 c2 v16 w7) (hlo : W0.heap.size ≤ lo) :
    NxX W0 wk Fk (.pointer (some ⟨w7.heap.size, 0, none⟩)) w7.heap.size v16 (shrE wk Fk (heavyF wk.length Fk)) (w7.alloc (.cells #[.slice p l1 c1, .slice q l1 c2] 29)) := by
  have hb := (Below.refl w7.heap.size w7).alloc (Nat.le_refl _) (.cells #[.slice p l1 c1, .slice q l1 c2] 29)
  refine ⟨hB.alloc hB.size _, rfl, hB.size, rfl, p, q, l1, c1, c2, heap_new _ rfl, fun e => ?_⟩
  obtain ⟨X', lo', ad, c, b', e1, e2, e3, e4, e5, k1, k2, e6, k3⟩ := h e
  exact ⟨X', lo', ad, c, b', e1, e2, e3, e4, e5, k1.below hb, Nat.le_trans hlo k2, e6, (k3.kept hb (Nat.le_refl _)).mono hb.size⟩
theorem nx_set {W0 w7 : World} {wk : List Int} {Fk : Nat → Nat → Int} {lo sb : Nat} {p q : Option Addr} {l1 c1 c2 : Nat} {v16 : Value} (hB : Below W0.heap.size W0 w7) (h : NxH wk Fk lo p q l1 c1 c2 v16 w7) (hlo : W0.heap.size ≤ lo) (hS : w7.heap[sb]? = some (.cells #[.slice none 0 0, .slice none 0 0] 29 (0, 0))) (hn : W0.heap.size ≤ sb) :
    NxX W0 wk Fk (.pointer (some ⟨sb, 0, none⟩)) sb v16 (shrE wk Fk (heavyF wk.length Fk)) ((w7.setCell ⟨sb, 0, none⟩ (.slice p l1 c1)).setCell ⟨sb, 1, none⟩ (.slice q l1 c2)) := by
  have hb1 := heap_set hS 0 (.slice p l1 c1)
  have hb2 := heap_set hb1 1 (.slice q l1 c2)
  refine ⟨(hB.setCell (p := ⟨sb, 0, none⟩) hn _).setCell (p := ⟨sb, 1, none⟩) hn _, rfl, hn, rfl, p, q, l1, c1, c2, by simpa using hb2, fun e => ?_⟩
  obtain ⟨X', lo', ad, c, b', e1, e2, e3, e4, e5, k1, k2, e6, k3⟩ := h e
  exact ⟨X', lo', ad, c, b', e1, e2, e3, e4, e5, IsX.setBox (IsX.setBox k1 hS (fun k n e => by simp at e)) hb1 (fun k n e => by simp at e), Nat.le_trans hlo k2, e6, ints_setBox (ints_setBox k3 hS (fun k n e => by simp at e)) hb1 (fun k n e => by simp at e)⟩
theorem box2_thru {W0 W W' : World} {v v' : Value} {t : TypeId} (hX : W.heap = (W0.alloc (.cells #[v, v'] t)).heap) (hb : Below W.heap.size W W') : W'.heap[W0.heap.size]? = some (.cells #[v, v'] t (0, 0)) := by
  have h : W.heap[W0.heap.size]? = some (.cells #[v, v'] t (0, 0)) := by rw [hX]; exact heap_new (w := W0) _ rfl
  exact heap_below h hb (heap_lt h)
end Go.Proofs.Ytbjgfkiaoffhlaa.L11

namespace Go.Proofs.Ytbjgfkiaoffhlaa.L11
open Go.RowKit Go.Shelf Rk

set_option maxRecDepth 100000 in
set_option maxHeartbeats 8000000 in
theorem walk_CoarseLevels (a0 : Option Addr) (len0 cap0 : Nat) (z0 : List Int) (a1 : Option Addr) (len1 cap1 : Nat) (z1 : List RopV) (least most : Int) (w : World) (w0 : IsRow .i64 w a0 len0 cap0 z0) (w1 : IsRops w a1 len1 cap1 z1) (w2 : (Lit.int .i64 least).wf = true) (w3 : (Lit.int .i64 most).wf = true) :
    Calls Try.prog 8 #[.slice a0 len0 cap0, .slice a1 len1 cap1, .int .i64 least, .int .i64 most] w fun e w' => e = .returned (.bool true) ∧ Below w.heap.size w w' := by
  obtain ⟨b0, off0, zs, hi0, hn0⟩ := w0.zz
  obtain ⟨_, b1, off1, hi1⟩ := w1
  have H0 := Lib.hid hi0
  have HN := Lib.hid hn0
  have H1 := Lib.hid hi1
  obtain rfl := hi0.length
  clear w0 hi0 hn0 hi1 w2 w3
  go_enter Try.func8, Try.ntmps8
  go_wp2_with fail
  refine (alive_any _).mono ?_
  rintro e x1 ⟨rfl, hB1⟩
  have HB1 := Lib.hid hB1
  have HBd := Lib.hid (build_any (cap0 := cap0) (cap1 := cap1) ((H0.out.kept hB1 (Nat.le_refl _)).mono hB1.size) HN.out ((H1.out.kept hB1 (Nat.le_refl _)).mono hB1.size))
  have z1s := hB1.size
  clear hB1
  go_wp2_with fail
  refine HBd.out.mono ?_
  rintro e x3 ⟨hB, hc⟩
  have HB2 := Lib.hid (HB1.out.trans (hB.mono z1s))
  clear hB HBd
  rcases hc with ⟨_, rfl⟩ | ⟨⟨hl30, _⟩, g, nb, lo, Bx, X, rfl, hR, _, _⟩
  · have HB3 := Lib.hid (HB2.out.alloc HB2.out.size (.cells #[.slice none 0 0, .slice none 0 0] 29))
    go_wp2
    go_ret
    exact ⟨rfl, HB3.out⟩
  have hR' := hR.base HB1.out
  have hal := (Below.refl x3.heap.size x3).alloc (Nat.le_refl _) (.cells #[.slice X.wa zs.length X.wc, .slice X.ra zs.length X.rc] 29)
  have HR : Hid (BdR w g nb lo x3.heap.size X zs (joins zs.length noTab z1) (x3.alloc (.cells #[.slice X.wa zs.length X.wc, .slice X.ra zs.length X.rc] 29))) := Lib.hid ⟨hR'.one.below hal, hR'.two.below hal, heap_new (w := x3) _ rfl, hR'.below.trans (hal.mono hR'.below.size)⟩
  have hbw : w.heap.size ≤ x3.heap.size := HB2.out.size
  have hbz : x3.heap.size < (x3.alloc (.cells #[.slice X.wa zs.length X.wc, .slice X.ra zs.length X.rc] 29)).heap.size := by simp
  clear hR hR' hal HB2 HB1 z1s H0 HN H1
  unfold XD.val
  obtain ⟨F, hF⟩ : ∃ F, joins zs.length noTab z1 = F := ⟨_, rfl⟩
  rw [hF] at HR
  clear hF
  go_upto_region 4 with fail
  obtain ⟨x4, hx4⟩ : ∃ x4, (x3.alloc (.cells #[.slice X.wa zs.length X.wc, .slice X.ra zs.length X.rc] 29)) = x4 := ⟨_, rfl⟩
  obtain ⟨bx, hbx⟩ : ∃ bx, x3.heap.size = bx := ⟨_, rfl⟩
  rw [hx4, hbx] at HR hbz
  rw [hbx] at hbw
  rw [hx4, hbx]
  clear hx4 hbx x3
  have CL := Lib.hid (levels_any HR.out.one least 100 (by decide))
  go_wp2_with fail
  refine CL.out.mono ?_
  clear CL
  rintro e x8 ⟨v, xs, rfl, hga, hlx, hlv, hb⟩
  obtain ⟨ax, cx, bxs, rfl, hlt, hfar⟩ := lits_at2 hga
  have hDl : (levelsD least zs F).length ≤ 30 := Nat.le_trans (levelsD_le least zs.length zs F (Nat.le_refl _)) hl30
  have htk : (levelsD least zs F).take (Int.toNat 100) = levelsD least zs F := List.take_of_length_le (by show _ ≤ 100; omega)
  rw [htk] at hlx hlv
  have HG0 := Lib.hid HR.out.good
  have HL0 : Hid (LvL w g nb zs F bx ax bxs xs (levelsD least zs F) X lo zs F x8) := Lib.hid ⟨HR.out.one.below hb, heap_below HR.out.box hb (heap_lt HR.out.box), HR.out.two.below hb, hlt, hfar.imp id (fun h => by omega), hlv, HR.out.below.trans (hb.mono HR.out.below.size)⟩
  have HAd : Hid (xs.length = 0 ∨ ax = some ⟨bxs, 0, none⟩) := Lib.hid hlt.addr
  have hz8 : bx < x8.heap.size := by have := hb.size; omega
  have HLx := Lib.hid hlx
  have hxl : xs.length ≤ 30 := by omega
  clear hga hlt hfar hlv hb htk HR hlx hDl
  go_wp2
  go_loopw [37] (fun i wr => ∃ (k : Nat) (X : XD) (lo : Nat) (wk : List Int) (Fk : Nat → Nat → Int) (dp : List LvD), i = .int .i64 k ∧ k ≤ xs.length ∧ Hid (levelsD least zs F = dp ++ levelsD least wk Fk ∧ dp.length = k) ∧ Hid (GdG wk Fk) ∧ wk.length ≤ 30 ∧ bx < wr.heap.size ∧ Hid (LvL w g nb zs F bx ax bxs xs (levelsD least zs F) X lo wk Fk wr)) (fun i _ => xs.length - (intOf i).toNat)
  case atStart => exact ⟨0, X, lo, zs, F, [], rfl, Nat.zero_le _, Lib.hid ⟨rfl, rfl⟩, HG0, hl30, hz8, HL0⟩
  case round =>
    clear HL0 hz8
    obtain ⟨k, X, lo, wk, Fk, dp, rfl, hk, HD, HGk, hwk, hzr, HL⟩ := hrel
    obtain ⟨hD1, hD2⟩ := HD.out
    by_cases hlk : k < xs.length
    · have hnx : ∃ d, nextD least wk Fk = some d ∧ (levelsD least zs F)[k]? = some d := by
        cases hn : nextD least wk Fk with
        | none => exfalso; rw [levelsD_none hn, List.append_nil] at hD1; have := HLx.out; rw [hD1] at this; omega
        | some d => exact ⟨d, rfl, by rw [hD1, levelsD_some hn, List.getElem?_append_right (by omega), show k - dp.length = 0 by omega]; rfl⟩
      obtain ⟨d, hn, hdk⟩ := hnx
      obtain ⟨y, hy⟩ : ∃ y, xs[k]? = some y := ⟨_, List.getElem?_eq_getElem hlk⟩
      obtain ⟨gk, nbk, ibk, rfl, k1, k2⟩ := HL.out.lv.at_ k y d hy hdk
      have hlt := (next_facts HGk.out hn).2.1
      have hdp : levelsD least zs F = (dp ++ [d]) ++ levelsD least d.ws d.F := by rw [hD1, levelsD_some hn]; simp
      obtain ⟨hle, hE0, hon, rfl⟩ := next_some hn
      obtain ⟨c1, c2⟩ := HL.out.lits.cell k _ hy
      obtain rfl : ax = some ⟨bxs, 0, none⟩ := HAd.out.resolve_left (by omega)
      have hki : (k : Int) < (xs.length : Int) := by omega
      have HK1 : Hid (IsG wr gk nbk (wsS wk (heavyF wk.length Fk)) (shrF wk Fk (heavyF wk.length Fk))) := Lib.hid k1
      have HK2 : Hid (IntsAt .i64 wr.heap.size wr (some ⟨ibk, 0, none⟩) ibk 0 (inL (heavyF wk.length Fk)).length (inL (heavyF wk.length Fk))) := Lib.hid k2
      have HDp : Hid (levelsD least zs F = (dp ++ [⟨wsS wk (heavyF wk.length Fk), shrF wk Fk (heavyF wk.length Fk), inL (heavyF wk.length Fk)⟩]) ++ levelsD least (wsS wk (heavyF wk.length Fk)) (shrF wk Fk (heavyF wk.length Fk)) ∧ dp.length = k) := Lib.hid ⟨hdp, hD2⟩
      have hlt' : (wsS wk (heavyF wk.length Fk)).length < wk.length := hlt
      have HLt := Lib.hid hlt'
      have HE0 := Lib.hid hE0
      have HOn := Lib.hid hon
      have hle1 : decide ((wk.length : Int) ≤ least) = false := decide_eq_false hle
      clear hn hdk hy k1 k2 hlt hlt' hdp hle hE0 hon hD1 hD2 HD
      dsimp only at c2
      generalize hiq : (inL (heavyF wk.length Fk)).length = iq at *
      have hb9 := (Below.refl wr.heap.size wr).alloc (Nat.le_refl _) (.cells #[.pointer (some ⟨gk, 0, none⟩), .slice (some ⟨ibk, 0, none⟩) iq iq] 59)
      have HL9 : Hid (LvL w g nb zs F bx (some ⟨bxs, 0, none⟩) bxs xs (levelsD least zs F) X lo wk Fk (wr.alloc (.cells #[.pointer (some ⟨gk, 0, none⟩), .slice (some ⟨ibk, 0, none⟩) iq iq] 59))) := Lib.hid (HL.out.on hb9)
      have HK9 := Lib.hid (HK1.out.below hb9)
      have HI9 := Lib.hid ((HK2.out.kept hb9 (Nat.le_refl _)).mono hb9.size)
      have HN9 : Hid ((wr.alloc (.cells #[.pointer (some ⟨gk, 0, none⟩), .slice (some ⟨ibk, 0, none⟩) iq iq] 59)).heap[wr.heap.size]? = some (.cells #[.pointer (some ⟨gk, 0, none⟩), .slice (some ⟨ibk, 0, none⟩) iq iq] 59 (0, 0))) := Lib.hid (heap_new (w := wr) _ rfl)
      have hzx : bx < (wr.alloc (.cells #[.pointer (some ⟨gk, 0, none⟩), .slice (some ⟨ibk, 0, none⟩) iq iq] 59)).heap.size := by simp; omega
      clear hb9 HL HK1 HK2
      have HIq := Lib.hid hiq
      clear hiq
      go_upto_region 10 with fail
      obtain ⟨x9, hx9⟩ : ∃ x9, (wr.alloc (.cells #[.pointer (some ⟨gk, 0, none⟩), .slice (some ⟨ibk, 0, none⟩) iq iq] 59)) = x9 := ⟨_, rfl⟩
      rw [hx9] at HL9 HK9 HI9 HN9 hzx ⊢
      obtain ⟨b14, hb14⟩ : ∃ b14, wr.heap.size = b14 := ⟨_, rfl⟩
      rw [hb14] at HN9 ⊢
      clear hx9 hb14 c1 c2 hzr wr
      have c0 := HL9.out.d0.1
      have c01 := HL9.out.d0.2
      go_upto_region 12 with fail
      clear c0 c01
      go_cut [15, 16, 17] from 46 to 53 (fun s15 s16 s17 wx => ∃ (sb : Nat) (v17 : Int), s15 = .pointer (some ⟨sb, 0, none⟩) ∧ s17 = .int .i64 v17 ∧ Hid (NxX x9 wk Fk s15 sb s16 v17 wx))
      case first =>
        clear HI9 HK9 HN9 HAd HLx HDp HLt HE0 HOn HIq
        have hSc0 : ∀ W, Below x9.heap.size x9 W → W.cell? ⟨bx, 0, none⟩ = some (.slice X.wa wk.length X.wc) := fun W hW => (HL9.out.on hW).d0.1
        have hSc1 : ∀ W, Below x9.heap.size x9 W → W.cell? ⟨bx, 1, none⟩ = some (.slice X.ra wk.length X.rc) := fun W hW => (HL9.out.on hW).d0.2
        have HHv : Hid (∀ W, Below x9.heap.size x9 W → Calls Try.prog 15 #[.agg #[.slice X.wa wk.length X.wc, .slice X.ra wk.length X.rc]] W (XHeavyPost W wk.length (heavyF wk.length Fk))) := Lib.hid (fun W hW => xheavy_any (HL9.out.on hW).two)
        have HXs : Hid (∀ W, Below x9.heap.size x9 W → ∀ (ad : Option Addr) (c b : Nat), IntsAt .i64 W.heap.size W ad b 0 wk.length (heavyF wk.length Fk) → Calls Try.prog 25 #[.agg #[.slice X.wa wk.length X.wc, .slice X.ra wk.length X.rc], .slice ad wk.length c] W (XShrinkPost wk Fk (heavyF wk.length Fk) W)) := Lib.hid (fun W hW ad c b hm => xshrink_any (cap := c) (HL9.out.on hW).two HGk.out.wts hm)
        clear HL9
        go_region_held3 (fun W => Below x9.heap.size x9 W) (first | assumption | exact Below.refl _ _ | exact (Below.refl _ _).drew | exact Below.drew (by assumption) | exact (show Below x9.heap.size x9 _ by assumption).alloc (by first | exact Nat.le_refl _ | exact hz4 | exact hz5) _ | exact (Below.refl _ _).alloc (Nat.le_refl _) _ | exact (Below.refl _ _).drew.alloc (Nat.le_refl _) _ | exact ((show Below x9.heap.size x9 _ by assumption).setCell (p := ⟨_, 0, none⟩) (by first | exact Nat.le_refl _ | exact hz4 | exact hz5) _).setCell (p := ⟨_, 1, none⟩) (by first | exact Nat.le_refl _ | exact hz4 | exact hz5) _) (first
          | (go_at_call 15; refine (HHv.out _ (by assumption)).mono ?_; rintro e w4 ⟨adH, cH, bH, rfl, hIH, hb⟩; have hS4 : Below x9.heap.size x9 w4 := Below.trans (show Below x9.heap.size x9 _ by assumption) (hb.mono (show Below x9.heap.size x9 _ by assumption).size); have hz4 := hS4.size; (first | (have HSB := Lib.hid (box2_thru (W0 := x9) (v := .slice none 0 0) (v' := .slice none 0 0) (t := 29) (by rfl) hb)) | skip); have HIH := Lib.hid hIH; clear hb hIH)
          | (go_at_call 25; refine (HXs.out _ (by assumption) _ _ _ (by first | exact HIH.out | exact (HIH.out.kept ((Below.refl _ _).alloc (Nat.le_refl _) _) (Nat.le_refl _)).mono ((Below.refl _ _).alloc (Nat.le_refl _) _).size)).mono ?_; rintro e w5 hpx; obtain ⟨hb, p5, q5, l5, c51, c52, v5, rfl, HNx⟩ := xshr_one hpx; have hS5 : Below x9.heap.size x9 w5 := Below.trans (show Below x9.heap.size x9 _ by assumption) (hb.mono (show Below x9.heap.size x9 _ by assumption).size); have hz5 := hS5.size; (first | (have HSB := Lib.hid (heap_below HSB.out hb (heap_lt HSB.out)); have csb0 := heap_cell HSB.out (i := 0) rfl; have csb1 := heap_cell HSB.out (i := 1) rfl; have fsb0 := heap_frozen HSB.out 0; have fsb1 := heap_frozen HSB.out 1) | (have HSB := Lib.hid (box2_thru (W0 := w4) (v := .slice none 0 0) (v' := .slice none 0 0) (t := 29) (by rfl) hb); have csb0 := heap_cell HSB.out (i := 0) rfl; have csb1 := heap_cell HSB.out (i := 1) rfl; have fsb0 := heap_frozen HSB.out 0; have fsb1 := heap_frozen HSB.out 1) | skip); clear hb hpx))
        all_goals
          go_wp2_with fail
          go_meet
          first
            | exact ⟨_, _, rfl, rfl, Lib.hid (nx_new hS5 HNx.out hz4)⟩
            | exact ⟨_, _, rfl, rfl, Lib.hid (nx_set hS5 HNx.out hz4 HSB.out (Nat.le_refl _))⟩
            | exact ⟨_, _, rfl, rfl, Lib.hid (nx_set hS5 HNx.out (Nat.le_trans hz4 (by simp)) HSB.out hz4)⟩
      case rest =>
        obtain ⟨sb, v17, rfl, rfl, HNx⟩ := hcut
        obtain ⟨p, q, l1, c1', c2', hSb, hX'⟩ := HNx.out.cell
        obtain rfl : v17 = 0 := HNx.out.err.trans HE0.out
        obtain ⟨X', lo', ad, c, b', rfl, rfl, rfl, rfl, rfl, kX, klo, rfl, kI⟩ := hX' rfl
        have hbx := HNx.out.below
        have HLa := Lib.hid (HL9.out.on hbx)
        have HSb := Lib.hid hSb
        have HX' := Lib.hid kX
        have HI' := Lib.hid kI
        have hnsb := HNx.out.new
        have HGa := Lib.hid (HK9.out.below hbx)
        have HIa := Lib.hid ((HI9.out.kept hbx (Nat.le_refl _)).mono hbx.size)
        have HNa := Lib.hid (heap_below HN9.out hbx (heap_lt HN9.out))
        have hzy := Nat.lt_of_lt_of_le hzx hbx.size
        have hlo' : bx < lo' := by omega
        clear hX' HNx hSb kX kI hbx HL9 HK9 HI9 HN9 klo
        have CE := Lib.hid (equal_any HGa.out HX'.out)
        unfold XD.val at CE
        rw [wsS_length] at CE
        have HLn := Lib.hid (wsS_length wk (heavyF wk.length Fk))
        have HOn' := HOn.out
        have HLt' := HLt.out
        rw [wsS_length] at HLt'
        have e0 := HLa.out.d0.1
        have e1 := HLa.out.d0.2
        have e2 := heap_cell HSb.out (i := 0) rfl
        have e3 := heap_cell HSb.out (i := 1) rfl
        have e4 := heap_cell HNa.out (i := 0) rfl
        have e5 := heap_cell HNa.out (i := 1) rfl
        obtain ⟨on, hoe⟩ : ∃ on, onesN (heavyF wk.length Fk) = on := ⟨_, rfl⟩
        rw [hoe] at CE HLn HSb HOn' HLt' e2 e3
        have k1 : ((on : Int) == (wk.length : Int)) = false := by simp; omega
        have k2 : decide ((on : Int) = (wk.length : Int)) = false := by simp; omega
        clear HOn'
        go_upto_region 15 with (first
          | (go_at_call 26; refine CE.out.mono ?_; clear CE; rintro e y1 ⟨rfl, hb⟩; have HLb := Lib.hid (HLa.out.on hb); have HIb := Lib.hid ((HIa.out.kept hb (Nat.le_refl _)).mono hb.size); have HIb' := Lib.hid ((HI'.out.kept hb (Nat.le_refl _)).mono hb.size); have HXb := Lib.hid (HX'.out.below hb); have HSc := Lib.hid (heap_below HSb.out hb (heap_lt HSb.out)); have HNb := Lib.hid (heap_below HNa.out hb (heap_lt HNa.out)); have e6 := heap_cell HNb.out (i := 1) rfl; have hzz := Nat.lt_of_lt_of_le hzy hb.size; clear hb)
          | (go_at_call 13; have CS := sameints_any (cap := iq) (cap' := c) HIb.out HIb'.out; rw [decide_eq_true (rfl : inL (heavyF wk.length Fk) = inL (heavyF wk.length Fk))] at CS; refine CS.mono ?_; clear CS; rintro e y2 ⟨rfl, hb⟩; have HLc := Lib.hid (HLb.out.on hb); have HXc := Lib.hid (HXb.out.below hb); have HSd := Lib.hid (heap_below HSc.out hb (heap_lt HSc.out)); have hzw := Nat.lt_of_lt_of_le hzz hb.size; clear hb))
        have q0 := HLc.out.d0.1
        have q1 := HLc.out.d0.2
        have q2 := heap_cell HSd.out (i := 0) rfl
        have q3 := heap_cell HSd.out (i := 1) rfl
        have f0 := heap_frozen HLc.out.box 0
        have f1 := heap_frozen HLc.out.box 1
        have HSt := HLc.out.store HXc.out hlo' hbw
        rw [HLn.out] at HSt
        have HStt := Lib.hid HSt
        have hge := Lib.hid (shr_good HE0.out)
        clear e0 e1 e2 e3 e4 e5 HLa HX' HI' HGa HIa HNa HLb HIb HIb' HXb HSc HNb HLc HXc HSd HSt k1 k2
        have hzv : bx < ((y2.setCell ⟨bx, 0, none⟩ (.slice X'.wa on X'.wc)).setCell ⟨bx, 1, none⟩ (.slice X'.ra on X'.rc)).heap.size := by simpa using hzw
        go_wp2_with fail
        go_roundw
        case rel => exact ⟨k + 1, X', lo', _, _, dp ++ [⟨wsS wk (heavyF wk.length Fk), shrF wk Fk (heavyF wk.length Fk), inL (heavyF wk.length Fk)⟩], by go_num, by omega, Lib.hid ⟨HDp.out.1, by rw [List.length_append, HDp.out.2]; rfl⟩, hge, by rw [HLn.out]; omega, hzv, HStt⟩
        case measure => simp [intOf]; omega
    · obtain rfl : k = xs.length := by omega
      have hn : nextD least wk Fk = none := by
        cases hn : nextD least wk Fk with
        | none => rfl
        | some d => exfalso; rw [levelsD_some hn] at hD1; have := HLx.out; rw [hD1, List.length_append, List.length_cons] at this; omega
      have HNn := Lib.hid (next_none hn)
      have HDl := Lib.hid HLx.out.symm
      clear hn hD1 hD2 HD HLx HAd hlk hk
      go_upto_region 17 with fail
      go_cut [18, 19, 20] from 81 to 88 (fun s18 s19 s20 wx => ∃ (sb : Nat) (v20 : Int), s18 = .pointer (some ⟨sb, 0, none⟩) ∧ s20 = .int .i64 v20 ∧ Hid (NxX wr wk Fk s18 sb s19 v20 wx))
      case first =>
        clear HNn HDl
        have hSc0 : ∀ W, Below wr.heap.size wr W → W.cell? ⟨bx, 0, none⟩ = some (.slice X.wa wk.length X.wc) := fun W hW => (HL.out.on hW).d0.1
        have hSc1 : ∀ W, Below wr.heap.size wr W → W.cell? ⟨bx, 1, none⟩ = some (.slice X.ra wk.length X.rc) := fun W hW => (HL.out.on hW).d0.2
        have HHv : Hid (∀ W, Below wr.heap.size wr W → Calls Try.prog 15 #[.agg #[.slice X.wa wk.length X.wc, .slice X.ra wk.length X.rc]] W (XHeavyPost W wk.length (heavyF wk.length Fk))) := Lib.hid (fun W hW => xheavy_any (HL.out.on hW).two)
        have HXs : Hid (∀ W, Below wr.heap.size wr W → ∀ (ad : Option Addr) (c b : Nat), IntsAt .i64 W.heap.size W ad b 0 wk.length (heavyF wk.length Fk) → Calls Try.prog 25 #[.agg #[.slice X.wa wk.length X.wc, .slice X.ra wk.length X.rc], .slice ad wk.length c] W (XShrinkPost wk Fk (heavyF wk.length Fk) W)) := Lib.hid (fun W hW ad c b hm => xshrink_any (cap := c) (HL.out.on hW).two HGk.out.wts hm)
        clear HL
        go_region_held3 (fun W => Below wr.heap.size wr W) (first | assumption | exact Below.refl _ _ | exact (Below.refl _ _).drew | exact Below.drew (by assumption) | exact (show Below wr.heap.size wr _ by assumption).alloc (by first | exact Nat.le_refl _ | exact hz4 | exact hz5) _ | exact (Below.refl _ _).alloc (Nat.le_refl _) _ | exact (Below.refl _ _).drew.alloc (Nat.le_refl _) _ | exact ((show Below wr.heap.size wr _ by assumption).setCell (p := ⟨_, 0, none⟩) (by first | exact Nat.le_refl _ | exact hz4 | exact hz5) _).setCell (p := ⟨_, 1, none⟩) (by first | exact Nat.le_refl _ | exact hz4 | exact hz5) _) (first
          | (go_at_call 15; refine (HHv.out _ (by assumption)).mono ?_; rintro e w4 ⟨adH, cH, bH, rfl, hIH, hb⟩; have hS4 : Below wr.heap.size wr w4 := Below.trans (show Below wr.heap.size wr _ by assumption) (hb.mono (show Below wr.heap.size wr _ by assumption).size); have hz4 := hS4.size; (first | (have HSB := Lib.hid (box2_thru (W0 := wr) (v := .slice none 0 0) (v' := .slice none 0 0) (t := 29) (by rfl) hb)) | skip); have HIH := Lib.hid hIH; clear hb hIH)
          | (go_at_call 25; refine (HXs.out _ (by assumption) _ _ _ (by first | exact HIH.out | exact (HIH.out.kept ((Below.refl _ _).alloc (Nat.le_refl _) _) (Nat.le_refl _)).mono ((Below.refl _ _).alloc (Nat.le_refl _) _).size)).mono ?_; rintro e w5 hpx; obtain ⟨hb, p5, q5, l5, c51, c52, v5, rfl, HNx⟩ := xshr_one hpx; have hS5 : Below wr.heap.size wr w5 := Below.trans (show Below wr.heap.size wr _ by assumption) (hb.mono (show Below wr.heap.size wr _ by assumption).size); have hz5 := hS5.size; (first | (have HSB := Lib.hid (heap_below HSB.out hb (heap_lt HSB.out)); have csb0 := heap_cell HSB.out (i := 0) rfl; have csb1 := heap_cell HSB.out (i := 1) rfl; have fsb0 := heap_frozen HSB.out 0; have fsb1 := heap_frozen HSB.out 1) | (have HSB := Lib.hid (box2_thru (W0 := w4) (v := .slice none 0 0) (v' := .slice none 0 0) (t := 29) (by rfl) hb); have csb0 := heap_cell HSB.out (i := 0) rfl; have csb1 := heap_cell HSB.out (i := 1) rfl; have fsb0 := heap_frozen HSB.out 0; have fsb1 := heap_frozen HSB.out 1) | skip); clear hb hpx))
        all_goals
          go_wp2_with fail
          go_meet
          first
            | exact ⟨_, _, rfl, rfl, Lib.hid (nx_new hS5 HNx.out hz4)⟩
            | exact ⟨_, _, rfl, rfl, Lib.hid (nx_set hS5 HNx.out hz4 HSB.out (Nat.le_refl _))⟩
            | exact ⟨_, _, rfl, rfl, Lib.hid (nx_set hS5 HNx.out (Nat.le_trans hz4 (by simp)) HSB.out hz4)⟩
      case rest =>
        obtain ⟨sb, v20, rfl, rfl, HNx⟩ := hcut
        obtain ⟨p, q, l1, c1', c2', hSb, hX'⟩ := HNx.out.cell
        have hv := HNx.out.err
        have HLa := Lib.hid (HL.out.on HNx.out.below)
        have HSb := Lib.hid hSb
        have hl1 : v20 = 0 → l1 = onesN (heavyF wk.length Fk) := fun e => by
          obtain ⟨_, _, _, _, _, _, _, _, _, e5, _⟩ := hX' e
          exact e5
        have hfin : (wk.length : Int) ≤ least ∨ (¬ (wk.length : Int) ≤ least ∧ v20 ≠ 0) ∨ (¬ (wk.length : Int) ≤ least ∧ v20 = 0 ∧ l1 = wk.length) := by
          by_cases h1 : (wk.length : Int) ≤ least
          · exact .inl h1
          · by_cases h2 : v20 = 0
            · exact .inr (.inr ⟨h1, h2, by rw [hl1 h2]; exact (HNn.out.resolve_left h1).resolve_left (fun e => e (hv.symm.trans h2))⟩)
            · exact .inr (.inl ⟨h1, h2⟩)
        have HFi := Lib.hid hfin
        clear hX' HNx hSb hv hl1 hfin HNn HL
        have e0 := HLa.out.d0.1
        have e2 := heap_cell HSb.out (i := 0) rfl
        obtain ⟨wz, hwz⟩ : ∃ wz : World, wz = wc := ⟨_, rfl⟩
        have HWz := Lib.hid hwz
        clear hwz
        go_upto_region 18 with fail
        go_cut [106] from 89 to 105 (fun s wx => s = .bool false ∧ Hid (wx = wz))
        case first =>
          rcases HFi.out with h1 | ⟨h1, h2⟩ | ⟨h1, h2, h3⟩
          · have k1 : decide (least < (wk.length : Int)) = false := by simp; omega
            clear h1
            go_wp2_with fail
            go_meet
            exact ⟨rfl, Lib.hid HWz.out.symm⟩
          · have k1 : decide (least < (wk.length : Int)) = true := by simp; omega
            have k2 : (v20 == 0) = false := by simpa using h2
            clear h1
            go_wp2_with fail
            go_meet
            exact ⟨rfl, Lib.hid HWz.out.symm⟩
          · have k1 : decide (least < (wk.length : Int)) = true := by simp; omega
            have k3 : decide ((l1 : Int) < (wk.length : Int)) = false := by simp; omega
            subst h2
            clear h1
            go_wp2_with fail
            go_meet
            exact ⟨rfl, Lib.hid HWz.out.symm⟩
        case rest =>
          obtain ⟨rfl, HWx⟩ := hcut
          clear e0 e2 HFi HSb
          have HLz : Hid (LvL w g nb zs F bx ax bxs xs (levelsD least zs F) X lo wk Fk wc) := Lib.hid (by rw [HWx.out, HWz.out]; exact HLa.out)
          clear HLa HWx HWz
          obtain ⟨c, hc⟩ : ∃ c : Nat, bits .and .i64 most 7 = (c : Int) := ⟨(most % 8).toNat, by rw [and_7]; omega⟩
          have hc7 : c ≤ 7 := by have := and_7 most; omega
          have CC := Lib.hid (levels_any HLz.out.one least (c : Int) (by omega))
          rw [Int.toNat_natCast] at CC
          obtain ⟨L, hL⟩ : ∃ L, xs.length = L := ⟨_, rfl⟩
          rw [hL] at HDl ⊢
          obtain ⟨m, hm⟩ : ∃ m, min c L = m := ⟨_, rfl⟩
          have hmi : (if L < c then (L : Int) else (c : Int)) = (m : Int) := by split <;> omega
          have HTk : Hid (((levelsD least zs F).take c).length = m) := Lib.hid (by rw [List.length_take, HDl.out]; exact hm)
          have HBz := Lib.hid HLz.out.below
          clear HLz HDl
          go_upto_region 21 with fail
          go_wp2_with fail
          refine CC.out.mono ?_
          clear CC
          rintro e z1 ⟨v, ys, rfl, hga, hly, _, hb⟩
          obtain ⟨ay, cy, bys, rfl, _, _⟩ := lits_at2 hga
          rw [HTk.out] at hly
          have HB1 := Lib.hid (HBz.out.trans (hb.mono HBz.out.size))
          rw [hly]
          clear hga hb hm hly
          have k1 : ((m : Int) == (m : Int)) = true := by simp
          go_wp2_with fail
          go_ret
          exact ⟨rfl, HB1.out⟩
end Go.Proofs.Ytbjgfkiaoffhlaa.L11
