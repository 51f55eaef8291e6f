/- Contract: how many are left, if each pair is one. -/
import Derived.Test.YtbjgfkiaoffhlaaYe
import Derived.Test.YtbjgfkiaoffhlaaYq
import Derived.Test.YtbjgfkiaoffhlaaGn
set_option linter.unusedVariables false
set_option linter.unusedSectionVars false
namespace Go.Proofs.Ytbjgfkiaoffhlaa
open Go.RowKit Go.Shelf Rk

attribute [local go_sem] Oper.semAt_some

theorem mid_set {lo hi B o : Nat} {W : World} (h : B < lo) (u : Value) : Mid lo hi W (W.setCell ⟨B, o, none⟩ u) :=
  ⟨(KeepsWalks.setCell W _ u).size, fun j h1 h2 => Below.heap_setCell _ _ _ j (fun e => by have : j = B := e; omega)⟩
set_option maxRecDepth 100000 in
set_option maxHeartbeats 2000000 in
theorem mcount_any {w : World} {a : Option Addr} {b off len cap : Nat} {ms : List Int} (hm : IntsAt .i64 w.heap.size w a b off len ms) (h0 : a = none → len = 0 ∧ cap = 0) (hlen : len ≤ 60000) :
    Calls Try.prog 20 #[.slice a len cap] w fun e w' => e = .returned (.int .i64 ((leftN ms : Nat) : Int)) ∧ Below w.heap.size w w' := by
  have HRt := Lib.hid (mright_any (cap := cap) hm)
  have hl := hm.length
  cases hr : mateR ms with
  | false =>
    rw [hr] at HRt
    have HE : Hid (leftN ms = 0) := Lib.hid (if_neg (by rw [hr]; decide))
    clear hr hm h0 hl
    go_enter Try.func20, Try.ntmps20
    go_wp2_with fail
    refine HRt.out.mono ?_
    rintro e w1 ⟨rfl, rfl⟩
    go_wp2
    go_ret
    exact ⟨ret1 (by rw [HE.out]; rfl), Below.refl _ _⟩
  | true =>
    rw [hr] at HRt
    have b0 : Below w.heap.size w (w.alloc (.cells #[.int .i64 (len : Int)] 3)) := (Below.refl _ w).alloc (Nat.le_refl _) _
    have hP := mpairs_any (cap := cap) ((hm.kept b0 (Nat.le_refl _)).mono b0.size) h0 hlen
    have hE : leftN ms = len - (pairsD ms).length := by unfold leftN pairsD; rw [if_pos hr, if_pos hr, hl]
    have hDl := pairsD_length ms
    rw [hl] at hDl
    have HP := Lib.hid hP
    have HE := Lib.hid hE
    have HB0 := Lib.hid b0
    clear hr hm h0 hl hP hE b0
    obtain ⟨D, hD⟩ : ∃ D, pairsD ms = D := ⟨_, rfl⟩
    unfold PairsPost at HP
    rw [hD] at HE hDl HP
    refine (callsIn_wide (n := 3)).1 ?_
    refine callsIn_of_wp_marks Try.func20 rfl trivial ?_ rfl
    simp only [Try.ntmps20, List.size_toArray, List.length_cons, List.length_nil, Nat.reduceAdd, Nat.reduceSub, Array.replicate_succ, Array.replicate_zero, List.push_toArray, List.append_toArray, List.nil_append, List.cons_append]
    gi_wp2_with (first
      | (refine ⟨trivial, ?_⟩; gi_at_call 16; refine (callsIn_wide.2 HRt.out).mono ?_; clear HRt; rintro e w' ⟨rfl, rfl⟩)
      | (refine ⟨trivial, ?_⟩; gi_at_call 40; refine (callsIn_wide.2 HP.out).mono ?_; clear HP; rintro e w1 ⟨v, rfl, hsq, hB1⟩))
    have hsz := hB1.size
    have bL : Boxed w1 w.heap.size 3 (.int .i64 (len : Int)) := (hB1.block w.heap.size (by simp)).trans (Boxed.new w 3 _)
    simp only [World.size_alloc] at hsz hB1 hsq
    have hB := HB0.out.trans (hB1.mono (by omega))
    obtain ⟨gf, lb, rfl, hen, hst⟩ := hsq
    clear hB1 HB0
    refine wpIn_rangeFunc_ownG rfl (by omega) (gf := gf) (lb := lb) rfl trivial hen
      (hst 2 (by omega)).stops Mid.trans (Mid.putObj (Nat.le_refl _)) (Below.refl _ _) (fun _ => rfl)
      (fun pre W => Boxed W w.heap.size 3 (.int .i64 ((len - pre.length : Nat) : Int)) ∧ Below w.heap.size w W)
      (fun _ _ _ => False)
      (OwnFrom.and (Own.from (boxed_own w.heap.size 3 (fun pre : List (Int × Int) => .int .i64 ((len - pre.length : Nat) : Int))) _) (ownFrom_below (Nat.le_refl _) (by omega)))
      (fun _ _ _ _ _ hs _ _ => hs)
      ⟨bL, hB⟩
      ?_ ?assign ?body ?done ?stop
    case assign =>
      intro l x W K hK
      unfold encM
      gi_wp2
      exact hK
    case body =>
      rintro l pre x W ⟨hX, hBW⟩ hlt
      have cX := hX.cell
      have fX := hX.frozen
      have HX := Lib.hid hX
      have HBW := Lib.hid hBW
      have hn : ((len - pre.length : Nat) : Int) - 1 = ((len - (pre.length + 1) : Nat) : Int) := by omega
      have hN := Lib.hid hn
      have hw : IntKind.i64.wrap (((len - pre.length : Nat) : Int) - 1) = ((len - (pre.length + 1) : Nat) : Int) := by rw [hn]; exact IntWalk.i64_in _ (by omega)
      obtain ⟨c, hc⟩ : ∃ c : Nat, len - pre.length = c := ⟨_, rfl⟩
      have HC := Lib.hid hc
      rw [hc] at cX hw
      clear hX hBW hn hst hc
      gi_wp2
      refine ⟨(KeepsOthers.setCell _ _ _).from _, mid_set (by omega) _, ?_, HBW.out.setCell (p := ⟨w.heap.size, 0, none⟩) (Nat.le_refl _) _⟩
      rw [List.length_append, List.length_singleton, ← hN.out, HC.out]
      exact HX.out.set _
    case done =>
      rintro E ys W hD' rfl ⟨hX, hBW⟩ hK
      have cX := hX.cell
      gi_wp2
      refine ⟨by simp, .inl ⟨_, _, rfl, run_takeDeferred hK, ?_⟩⟩
      refine ⟨_, results_tmp rfl _ _ _, ?_, hBW.trans (belowK_b (w := w) (Nat.le_refl _) _ E _ _ (by omega) hK rfl rfl)⟩
      exact ret1 (by rw [HE.out])
    case stop =>
      rintro E c pre W hD' hpre h hK
      exact h.elim
end Go.Proofs.Ytbjgfkiaoffhlaa
