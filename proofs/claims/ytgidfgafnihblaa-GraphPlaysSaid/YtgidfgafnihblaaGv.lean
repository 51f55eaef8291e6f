/- Contracts: those near one, all pairs, gathered. -/
import Derived.Test.YtgidfgafnihblaaGu
set_option linter.unusedVariables false
set_option linter.unusedSectionVars false
namespace Go.Proofs.Ytgidfgafnihblaa
open Go.RowKit Go.Shelf Rk

attribute [local go_sem] Oper.semAt_some

theorem boxed_alloc1 (w : World) (u : Value) (t : TypeId) {w1 : World} (hb : Below (w.heap.size + 1) (w.alloc (.cells #[u] t)) w1) : Boxed w1 w.heap.size t u :=
  (hb.block w.heap.size (by omega)).trans (Boxed.new w t u)
theorem boxed_alloc3 (w : World) (u : Value) (t : TypeId) (o2 o3 : Obj) {w1 : World} (hb : Below (w.heap.size + 1 + 1 + 1) (((w.alloc (.cells #[u] t)).alloc o2).alloc o3) w1) : Boxed w1 w.heap.size t u :=
  (hb.block w.heap.size (by omega)).trans (((Boxed.new w t u).alloc o2).alloc o3)
theorem boxed_alloc4 (w : World) (u : Value) (t : TypeId) (o2 o3 o4 : Obj) {w1 : World} (hb : Below (w.heap.size + 1 + 1 + 1 + 1) ((((w.alloc (.cells #[u] t)).alloc o2).alloc o3).alloc o4) w1) : Boxed w1 w.heap.size t u :=
  (hb.block w.heap.size (by omega)).trans ((((Boxed.new w t u).alloc o2).alloc o3).alloc o4)
/-- What is near one, as edges. -/
def from1 (i : Int) (p : Int × Int) : Edg := (i, p.1, p.2)
def nearE (n : Nat) (F : Nat → Nat → Int) (i : Int) : List Edg := (nearD n F i).map (from1 i)

set_option maxRecDepth 100000 in
set_option maxHeartbeats 2000000 in
theorem rnear_any {w : World} {g nb : Nat} {ws : List Int} {F : Nat → Nat → Int} (h : IsG w g nb ws F) (i : Int) :
    Calls Try.prog 15 #[.pointer (some ⟨g, 0, none⟩), .int .i64 i] w (EdgesPost (nearE ws.length F i) w) := by
  obtain ⟨i0, hi, hz0, hz1, hz2⟩ := info_parts Try.infoEdge
  have HI := Lib.hid hi
  have HZ0 := Lib.hid hz0
  have HZ1 := Lib.hid hz1
  have HZ2 := Lib.hid hz2
  clear hi hz0 hz1 hz2
  have b0 : Below w.heap.size w (((w.alloc (.cells #[.int .i64 i] 3)).alloc (.cells #[] 41)).alloc (.cells #[.slice (some ⟨w.heap.size + 1, 0, none⟩) 0 0] 38)) := (((Below.refl _ w).alloc (Nat.le_refl _) _).alloc (by simp) _).alloc (by simp; omega) _
  have HN := Lib.hid (near_any i h b0)
  have hDl : (nearD ws.length F i).length ≤ 4096 := Nat.le_trans (nearD_length _ _ _) h.small
  unfold nearE
  clear h
  generalize nearD ws.length F i = D at *
  refine (callsIn_wide (n := 3)).1 ?_
  refine callsIn_of_wp_marks Try.func15 rfl trivial ?_ rfl
  simp only [Try.ntmps15, List.size_toArray, List.length_cons, List.length_nil, Nat.reduceAdd, Nat.reduceSub, Array.replicate_succ, Array.replicate_zero, List.push_toArray, List.append_toArray, List.nil_append, List.cons_append]
  gi_wp2_with (refine ⟨trivial, ?_⟩; gi_at_call 30; refine (callsIn_wide.2 HN.out).mono ?_; rintro e w1 ⟨sv, rfl, hsq, hB1⟩)
  have hsz := hB1.size
  have bI := boxed_alloc3 w (.int .i64 i) 3 (.cells #[] 41) (.cells #[.slice (some ⟨w.heap.size + 1, 0, none⟩) 0 0] 38) (by simpa using hB1)
  have bO := boxed_alloc1 ((w.alloc (.cells #[.int .i64 i] 3)).alloc (.cells #[] 41)) (.slice (some ⟨w.heap.size + 1, 0, none⟩) 0 0) 38 (w1 := w1) (by simpa using hB1)
  simp only [World.size_alloc] at hsz hB1 bO
  have hB0 : Below w.heap.size w w1 := b0.trans (hB1.mono (by omega))
  have hC0 : Bag w1.heap.size (w.heap.size + 1 + 1) 38 41 3 [(w.heap.size, 3, .int .i64 i)] w.heap.size w 0 [] w1 (.slice (some ⟨w.heap.size + 1, 0, none⟩) 0 0) :=
    ⟨bO, .inl ⟨rfl, rfl, _, rfl⟩, fun x hx => by simp at hx; subst hx; exact bI, hB0, Nat.le_refl _⟩
  obtain ⟨gf, lb, rfl, hen, hst⟩ := hsq
  refine wpIn_rangeFunc_ownG rfl (by omega) (gf := gf) (lb := lb) rfl trivial hen
    (hst 2) belowK_t (belowK_b (by omega)) (Below.refl _ _) (fun _ => rfl)
    (fun pre W => BagI w1.heap.size (w.heap.size + 1 + 1) 38 41 3 [(w.heap.size, 3, .int .i64 i)] w.heap.size w pre.length (its (pre.map (from1 i))) W)
    (fun _ _ _ => False)
    (fun s A B row hs hg hr => hs.elim fun v hC => ⟨v, hC.turned (by omega) hg hr⟩)
    (fun _ _ _ _ _ hs _ _ => hs)
    ⟨_, hC0⟩
    (fun x => { tmps := #[.pointer (some ⟨g, 0, none⟩), .int .i64 i, undef, .pointer (some ⟨w.heap.size, 0, none⟩), .slice none 0 0, .pointer (some ⟨w.heap.size + 1 + 1, 0, none⟩), .int .i64 x.1, .int .i64 x.2, .slice (some ⟨w.heap.size + 1, 0, none⟩) 0 0, .pointer (some ⟨g, 0, none⟩), .int .i64 i, .func (.func gf) #[] lb, .int .i64 x.1, .int .i64 x.2, undef, undef, undef, undef, undef, undef, undef, undef], defers := [] }) ?assign ?body ?done ?stop
  case assign =>
    intro l x W K hK
    unfold encP
    gi_wp2
    exact hK
  case body =>
    rintro l pre x W ⟨v, hC⟩ hlt
    obtain ⟨a6, cap6, rfl⟩ := hC.row.slice
    have c1 := hC.box.cell
    have c2 := (hC.oth _ (List.mem_cons_self ..)).cell
    simp only at c2
    have HC := Lib.hid hC
    have hszW := hC.size
    clear hC hC0 bO bI hB0 hst
    gi_wp2_with (gi_at_builtin; refine wpListIn_append_gath _ rfl _ _ 38 rfl w1.heap.size 41 i0 (.agg #[.int .i64 0, .int .i64 0, .int .i64 0]) 3 24 Try.underlying38 HI.out HZ0.out HZ1.out HZ2.out rfl (by decide) _ _ _ rfl (HC.out.row.alloc _) ⟨W.heap.size, 0, none⟩ 1 1 (its [from1 i x]) rfl rfl (cell_two _ (from1 i x) _) (its_one _) (by decide) (by unfold maxLen; omega) (by omega) (by simp; omega) ?_; intro v' w3 row hown hgrow hrow; obtain ⟨g', cap', rfl⟩ := ownsRow_succ hown; obtain ⟨hb1, hC1, hk1, hm1⟩ := HC.out.appended (by omega) (by omega) (fun x hx => by simp at hx; subst hx; exact ⟨by dsimp only; omega, by dsimp only; omega⟩) hown hgrow hrow; have hc1 := hb1.cell; have hf1 := hb1.frozen; clear c1 c2)
    refine ⟨hk1.from _, hm1, .slice (some ⟨g', 0, none⟩) (pre.length + 1) cap', ?_⟩
    rw [List.length_append, List.map_append, List.map_cons, List.map_nil, its_snoc]
    exact hC1
  case done =>
    rintro E ys W hD rfl ⟨v, hC⟩ hK
    obtain ⟨a6, cap6, rfl⟩ := hC.row.slice
    have c1 := hC.box.cell
    have HC := Lib.hid hC
    clear hC hC0 bO bI hB0 hst
    gi_wp2
    refine ⟨by simp, .inl ⟨_, _, rfl, run_takeDeferred hK, ?_⟩⟩
    refine ⟨_, results_tmp rfl _ _ _, _, rfl, ?_, HC.out.below.trans (belowK_b (w := w) (Nat.le_refl _) W E _ _ (by omega) hK rfl rfl)⟩
    rw [List.length_map]
    exact gath_putObj (gath_base HC.out.row (by omega)) _ hK rfl
  case stop =>
    rintro E c pre W _ _ h _
    exact h.elim
end Go.Proofs.Ytgidfgafnihblaa
