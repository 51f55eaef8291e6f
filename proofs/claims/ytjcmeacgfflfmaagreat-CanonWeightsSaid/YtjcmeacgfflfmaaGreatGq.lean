/- Contract: all that is between one and others. -/
import Derived.Test.YtjcmeacgfflfmaaGreatGp
set_option linter.unusedVariables false
set_option linter.unusedSectionVars false
namespace Go.Proofs.YtjcmeacgfflfmaaGreat
open Go.RowKit Go.Shelf Rk

attribute [local go_sem] Oper.semAt_some

/-- Numbers added as the machine adds them. -/
def wsum (l : List (Int × Int)) : Int := l.foldl (fun s x => wrap64 (s + x.2)) 0
theorem wsum_snoc (l : List (Int × Int)) (x : Int × Int) : wsum (l ++ [x]) = wrap64 (wsum l + x.2) := by simp [wsum]
theorem wsum_vals : ∀ (n : Nat) (l : List (Int × Int)), l.length = n → n ≤ 4096 → (∀ x ∈ l, 0 ≤ x.2 ∧ x.2 ≤ 1099511627776) → wsum l = vals l ∧ 0 ≤ vals l ∧ vals l ≤ 1099511627776 * (n : Int)
  | 0, l, hl, _, _ => by
    obtain rfl := List.eq_nil_of_length_eq_zero hl
    exact ⟨rfl, Int.le_refl _, by simp [vals]⟩
  | n + 1, l, hl, hn, h => by
    obtain ⟨m, x, rfl⟩ : ∃ m x, l = m ++ [x] := ⟨l.dropLast, l.getLast (by intro e; subst e; simp at hl), (List.dropLast_concat_getLast _).symm⟩
    obtain ⟨h1, h2, h3⟩ := wsum_vals n m (by simpa using hl) (by omega) (fun y hy => h y (by simp [hy]))
    obtain ⟨h4, h5⟩ := h x (by simp)
    have e : vals (m ++ [x]) = vals m + x.2 := by rw [vals_append]; simp [vals]
    rw [wsum_snoc, e, h1]
    refine ⟨IntWalk.wrap64_in _ ⟨by omega, by omega⟩, by omega, by omega⟩
theorem wsum_row {n : Nat} {F : Nat → Nat → Int} (h : Tab n F) (hn : n ≤ 4096) (i : Int) : wsum (nearD n F i) = vals (nearD n F i) := by
  refine (wsum_vals _ _ rfl (Nat.le_trans (nearD_length n F i) hn) fun x hx => ?_).1
  unfold nearD at hx
  split at hx
  · obtain ⟨b, _, h0, rfl⟩ := mem_rowOf.1 hx
    exact ⟨by show 0 ≤ F _ _; omega, h.hi _ _⟩
  · cases hx
set_option maxRecDepth 100000 in
set_option maxHeartbeats 1000000 in
theorem degree_any {w : World} {g nb : Nat} {ws : List Int} {F : Nat → Nat → Int} (h : IsG w g nb ws F) (i : Int) :
    Calls Tryz.prog 26 #[.pointer (some ⟨g, 0, none⟩), .int .i64 i] w fun e w' => e = .returned (.int .i64 (vals (nearD ws.length F i))) ∧ Below w.heap.size w w' := by
  have b0 : Below w.heap.size w (w.alloc (.cells #[.int .i64 0] 2)) := (Below.refl _ w).alloc (Nat.le_refl _) _
  have HN := Lib.hid (near_any i h b0)
  have HW := Lib.hid (wsum_row h.tab h.small i)
  clear h
  generalize nearD ws.length F i = D at *
  refine (callsIn_wide (n := 3)).1 ?_
  refine callsIn_of_wp_marks Tryz.func26 rfl trivial ?_ rfl
  simp only [Tryz.ntmps26, List.size_toArray, List.length_cons, List.length_nil, Nat.reduceAdd, Nat.reduceSub, Array.replicate_succ, Array.replicate_zero, List.push_toArray, List.append_toArray, List.nil_append, List.cons_append]
  gi_wp2_with (refine ⟨trivial, ?_⟩; gi_at_call 69; refine (callsIn_wide.2 HN.out).mono ?_; rintro e w1 ⟨sv, rfl, hsq, hB1⟩)
  have hsz := hB1.size
  have bR : Boxed w1 w.heap.size 2 (.int .i64 0) := (hB1.block w.heap.size (by simp)).trans (Boxed.new w 2 _)
  simp only [World.size_alloc] at hsz hB1
  have hB0 : Below w.heap.size w w1 := b0.trans (hB1.mono (by omega))
  obtain ⟨gf, lb, rfl, hen, hst⟩ := hsq
  refine wpIn_rangeFunc_ownG rfl (by omega) (gf := gf) (lb := lb) rfl trivial hen
    (hst 2) belowK_t (belowK_b (by omega)) (Below.refl _ _) (fun _ => rfl)
    (fun pre W => Boxed W w.heap.size 2 (.int .i64 (wsum pre)) ∧ Below w.heap.size w W)
    (fun _ _ _ => False)
    (OwnFrom.and (Own.from (boxed_own w.heap.size 2 (fun pre => .int .i64 (wsum pre))) _) (ownFrom_below (Nat.le_refl _) (by omega)))
    (fun _ _ _ _ _ hs _ _ => hs)
    ⟨bR, hB0⟩
    (fun x => { tmps := #[.pointer (some ⟨g, 0, none⟩), .int .i64 i, undef, undef, .int .i64 0, .pointer (some ⟨w.heap.size, 0, none⟩), undef, .int .i64 x.2, .pointer (some ⟨g, 0, none⟩), .int .i64 i, .func (.func gf) #[] lb, .int .i64 x.1, .int .i64 x.2, undef, undef, undef, undef], defers := [] }) ?assign ?body ?done ?stop
  case assign =>
    intro l x W K hK
    unfold encP
    gi_wp2
    exact hK
  case body =>
    rintro l pre x W ⟨hR, hB⟩ hlt
    have c1 := hR.cell
    have f1 := hR.frozen
    gi_wp2
    exact ⟨(KeepsOthers.setCell _ _ _).from _, (Below.refl w.heap.size W).setCell (p := ⟨w.heap.size, 0, none⟩) (Nat.le_refl _) _, by rw [wsum_snoc]; exact hR.set _, hB.setCell (p := ⟨w.heap.size, 0, none⟩) (Nat.le_refl _) _⟩
  case done =>
    rintro E ys W hD rfl ⟨hR, hB⟩ hK
    have c1 := hR.cell
    gi_wp2
    refine ⟨by simp, .inl ⟨_, _, rfl, run_takeDeferred hK, ?_⟩⟩
    refine ⟨_, results_tmp rfl _ _ _, ?_, hB.trans (belowK_b (w := w) (Nat.le_refl _) _ E _ _ (by omega) hK rfl rfl)⟩
    exact ret1 HW.out
  case stop =>
    rintro E c pre W hD hpre h hK
    exact h.elim
end Go.Proofs.YtjcmeacgfflfmaaGreat
