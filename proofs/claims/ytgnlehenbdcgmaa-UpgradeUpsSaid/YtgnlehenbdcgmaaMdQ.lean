/- Contracts: alive. -/
import Derived.Test.YtgnlehenbdcgmaaMdP
set_option linter.unusedVariables false
set_option linter.unusedSectionVars false
set_option linter.unusedSimpArgs false
namespace Go.Proofs.Ytgnlehenbdcgmaa.Md
open Go.RowKit Go.Shelf

theorem SmAt.set {B : Nat} {t u : ByteArray} {W : World} (h : SmAt B t W) : SmAt B u (W.setCell ⟨B + 1 + 1 + 1 + 1 + 1, 0, none⟩ (.string u)) :=
  ⟨heap_other h.b1 (by omega) 0 _, heap_other h.b2 (by omega) 0 _, heap_other h.b3 (by omega) 0 _, heap_other h.b4 (by omega) 0 _, heap_set h.b5 0 (.string u)⟩
theorem SmAt.other {B k : Nat} {t : ByteArray} {W : World} (h : SmAt B t W) (hk : B + 6 ≤ k) (v : Value) : SmAt B t (W.setCell ⟨k, 0, none⟩ v) :=
  ⟨heap_other h.b1 (by omega) 0 _, heap_other h.b2 (by omega) 0 _, heap_other h.b3 (by omega) 0 _, heap_other h.b4 (by omega) 0 _, heap_other h.b5 (by omega) 0 _⟩
theorem SmAt.alloc {B : Nat} {t : ByteArray} {W : World} (h : SmAt B t W) (o : Obj) : SmAt B t (W.alloc o) :=
  ⟨heap_alloc h.b1 o, heap_alloc h.b2 o, heap_alloc h.b3 o, heap_alloc h.b4 o, heap_alloc h.b5 o⟩
/-- Between two of alive's calls. -/
structure StA (A : Nat) (w W : World) : Prop where
  at_ : SmAt A ⟨#[97]⟩ W
  box : W.heap[A + 1 + 1 + 1 + 1 + 1 + 1]? = some (.cells #[.int .i64 3, .slice (some ⟨A + 1 + 1 + 1, 0, none⟩) 2 2, .slice (some ⟨A + 1 + 1 + 1 + 1, 0, none⟩) 1 1, .slice (some ⟨A + 1 + 1 + 1 + 1 + 1, 0, none⟩) 1 1] 26 (0, 0))
  low : Below A w W
theorem StA.on {A : Nat} {w W W' : World} (h : StA A w W) (hb : Below W.heap.size W W') : StA A w W' :=
  ⟨h.at_.below hb, heap_below h.box hb (heap_lt h.box), h.low.trans (hb.mono (by have := heap_lt h.box; omega))⟩
theorem StA.cells {A : Nat} {w W : World} (h : StA A w W) : W.cell? ⟨A + 1 + 1 + 1 + 1 + 1 + 1, 0, none⟩ = some (.int .i64 3) ∧ W.cell? ⟨A + 1 + 1 + 1 + 1 + 1 + 1, 1, none⟩ = some (.slice (some ⟨A + 1 + 1 + 1, 0, none⟩) 2 2) ∧ W.cell? ⟨A + 1 + 1 + 1 + 1 + 1 + 1, 2, none⟩ = some (.slice (some ⟨A + 1 + 1 + 1 + 1, 0, none⟩) 1 1) ∧ W.cell? ⟨A + 1 + 1 + 1 + 1 + 1 + 1, 3, none⟩ = some (.slice (some ⟨A + 1 + 1 + 1 + 1 + 1, 0, none⟩) 1 1) :=
  ⟨heap_cell h.box rfl, heap_cell h.box rfl, heap_cell h.box rfl, heap_cell h.box rfl⟩
theorem StA.procs {A : Nat} {w W : World} (h : StA A w W) : W.cell? ⟨A + 1 + 1 + 1, 0, none⟩ = some (.string ⟨#[97]⟩) ∧ W.cell? ⟨A + 1 + 1 + 1, 1, none⟩ = some (.int .i64 1) ∧ W.cell? ⟨A + 1 + 1 + 1, 2, none⟩ = some (.slice (some ⟨A + 1, 0, none⟩) 1 1) ∧ W.cell? ⟨A + 1 + 1 + 1, 3, none⟩ = some (.slice (some ⟨A + 1 + 1, 0, none⟩) 2 2) :=
  ⟨heap_cell h.at_.b3 rfl, heap_cell h.at_.b3 rfl, heap_cell h.at_.b3 rfl, heap_cell h.at_.b3 rfl⟩
def nilV (v : Int) : ModelV := ⟨v, [], [], [], none, 0, 0, 0, none, 0, 0, 0, none, 0, 0, 0⟩
theorem nilV_m (v : Int) : (nilV v).m = ⟨v, [], [], []⟩ := rfl
theorem nil_at (w : World) (v : Int) : ModelAt w.heap.size w (nilV v) :=
  ⟨RowsAt.nil rfl rfl, fun p hp => by simp [nilV] at hp, RowsAt.nil rfl rfl, RowsAt.nil rfl rfl⟩
theorem check_nil3 (w : World) : Calls Try.prog 11 #[.agg #[.int .i64 3, .slice none 0 0, .slice none 0 0, .slice none 0 0]] w fun e w' => e = .returned (.agg #[.int .i64 0, .int .i64 0]) ∧ Below w.heap.size w w' := by
  have h := check_any (nil_at w 3)
  rw [nilV_m, sm_3] at h
  exact h
theorem check_nil0 (w : World) : Calls Try.prog 11 #[.agg #[.int .i64 0, .slice none 0 0, .slice none 0 0, .slice none 0 0]] w fun e w' => e = .returned (.agg #[.int .i64 43, .int .i64 0]) ∧ Below w.heap.size w w' := by
  have h := check_any (nil_at w 0)
  rw [nilV_m, sm_0] at h
  exact h
set_option maxRecDepth 100000 in
set_option maxHeartbeats 4000000 in
theorem alive_any (w : World) : Calls Try.prog 9 #[] w fun e w' => e = .returned (.bool true) ∧ Below w.heap.size w w' := by
  have HS1 := Lib.hid (sample_any (w := w))
  go_enter Try.func9, Try.ntmps9
  go_wp2_with fail
  refine HS1.out.mono ?_
  clear HS1
  rintro e w1 ⟨rfl, hm1, hb1, hz1⟩
  obtain ⟨A, hA⟩ : ∃ A, w.heap.size = A := ⟨_, rfl⟩
  rw [hA] at hm1 hb1 hz1 ⊢
  have hb1' := hb1.alloc (by omega) (.cells #[.int .i64 3, .slice (some ⟨A + 1 + 1 + 1, 0, none⟩) 2 2, .slice (some ⟨A + 1 + 1 + 1 + 1, 0, none⟩) 1 1, .slice (some ⟨A + 1 + 1 + 1 + 1 + 1, 0, none⟩) 1 1] 26)
  have hm1' := hm1.alloc (.cells #[.int .i64 3, .slice (some ⟨A + 1 + 1 + 1, 0, none⟩) 2 2, .slice (some ⟨A + 1 + 1 + 1 + 1, 0, none⟩) 1 1, .slice (some ⟨A + 1 + 1 + 1 + 1 + 1, 0, none⟩) 1 1] 26)
  have hx1 := heap_new (w := w1) (.cells #[.int .i64 3, .slice (some ⟨A + 1 + 1 + 1, 0, none⟩) 2 2, .slice (some ⟨A + 1 + 1 + 1 + 1, 0, none⟩) 1 1, .slice (some ⟨A + 1 + 1 + 1 + 1 + 1, 0, none⟩) 1 1] 26) rfl
  rw [hz1] at hx1
  have HA := Lib.hid hA
  have hz1' : (w1.alloc (.cells #[.int .i64 3, .slice (some ⟨A + 1 + 1 + 1, 0, none⟩) 2 2, .slice (some ⟨A + 1 + 1 + 1 + 1, 0, none⟩) 1 1, .slice (some ⟨A + 1 + 1 + 1 + 1 + 1, 0, none⟩) 1 1] 26)).heap.size = A + 1 + 1 + 1 + 1 + 1 + 1 + 1 := by simp [hz1]
  clear hA hm1 hb1
  go_wp2_with fail
  generalize w1.alloc (.cells #[.int .i64 3, .slice (some ⟨A + 1 + 1 + 1, 0, none⟩) 2 2, .slice (some ⟨A + 1 + 1 + 1 + 1, 0, none⟩) 1 1, .slice (some ⟨A + 1 + 1 + 1 + 1 + 1, 0, none⟩) 1 1] 26) = W1 at *
  refine (sample_any (w := W1)).mono ?_
  rintro e w2 ⟨rfl, hm2, hb2, hz2⟩
  rw [hz1'] at hm2 hz2 ⊢
  obtain ⟨B, hB⟩ : ∃ B, A + 1 + 1 + 1 + 1 + 1 + 1 + 1 = B := ⟨_, rfl⟩
  have HMA := Lib.hid (((hm1'.below hb2).other (k := A + 1 + 1 + 1 + 1 + 1 + 1 + 1 + 1 + 1 + 1 + 1 + 1) (by omega) (.string ⟨#[99]⟩)).alloc (.cells #[.int .i64 3, .slice (some ⟨A + 1 + 1 + 1 + 1 + 1 + 1 + 1 + 1 + 1 + 1, 0, none⟩) 2 2, .slice (some ⟨A + 1 + 1 + 1 + 1 + 1 + 1 + 1 + 1 + 1 + 1 + 1, 0, none⟩) 1 1, .slice (some ⟨A + 1 + 1 + 1 + 1 + 1 + 1 + 1 + 1 + 1 + 1 + 1 + 1, 0, none⟩) 1 1] 26))
  have HMB := Lib.hid ((hm2.set (u := ⟨#[99]⟩)).alloc (.cells #[.int .i64 3, .slice (some ⟨A + 1 + 1 + 1 + 1 + 1 + 1 + 1 + 1 + 1 + 1, 0, none⟩) 2 2, .slice (some ⟨A + 1 + 1 + 1 + 1 + 1 + 1 + 1 + 1 + 1 + 1 + 1, 0, none⟩) 1 1, .slice (some ⟨A + 1 + 1 + 1 + 1 + 1 + 1 + 1 + 1 + 1 + 1 + 1 + 1, 0, none⟩) 1 1] 26))
  have HXA := Lib.hid (heap_alloc (heap_other (heap_below hx1 hb2 (heap_lt hx1)) (V := A + 1 + 1 + 1 + 1 + 1 + 1 + 1 + 1 + 1 + 1 + 1 + 1) (by omega) 0 (.string ⟨#[99]⟩)) (.cells #[.int .i64 3, .slice (some ⟨A + 1 + 1 + 1 + 1 + 1 + 1 + 1 + 1 + 1 + 1, 0, none⟩) 2 2, .slice (some ⟨A + 1 + 1 + 1 + 1 + 1 + 1 + 1 + 1 + 1 + 1 + 1, 0, none⟩) 1 1, .slice (some ⟨A + 1 + 1 + 1 + 1 + 1 + 1 + 1 + 1 + 1 + 1 + 1 + 1, 0, none⟩) 1 1] 26))
  have HBW := Lib.hid (((hb1'.trans (hb2.mono (by omega))).setCell (p := ⟨A + 1 + 1 + 1 + 1 + 1 + 1 + 1 + 1 + 1 + 1 + 1 + 1, 0, none⟩) (by show A ≤ A + 1 + 1 + 1 + 1 + 1 + 1 + 1 + 1 + 1 + 1 + 1 + 1; omega) (.string ⟨#[99]⟩)).alloc (by rw [size_set]; omega) (.cells #[.int .i64 3, .slice (some ⟨A + 1 + 1 + 1 + 1 + 1 + 1 + 1 + 1 + 1 + 1, 0, none⟩) 2 2, .slice (some ⟨A + 1 + 1 + 1 + 1 + 1 + 1 + 1 + 1 + 1 + 1 + 1, 0, none⟩) 1 1, .slice (some ⟨A + 1 + 1 + 1 + 1 + 1 + 1 + 1 + 1 + 1 + 1 + 1 + 1, 0, none⟩) 1 1] 26))
  rw [hB] at HMB HBW hz2 hm2 HMA HXA ⊢
  have c5 := heap_cell hm2.b5 (i := 0) rfl
  have f5 := heap_frozen hm2.b5 0
  simp only [List.getElem_toArray, List.getElem_cons_zero, List.getElem_cons_succ] at c5
  have hlt5 : B + 1 + 1 + 1 + 1 + 1 < w2.heap.size := by omega
  have hne5 : ¬ B + 1 + 1 + 1 + 1 + 1 = w2.heap.size := by omega
  clear hm1' hb1' hx1 hm2 hb2
  go_wp2_with fail
  generalize (w2.setCell ⟨B + 1 + 1 + 1 + 1 + 1, 0, none⟩ (.string ⟨#[99]⟩)).alloc (.cells #[.int .i64 3, .slice (some ⟨B + 1 + 1 + 1, 0, none⟩) 2 2, .slice (some ⟨B + 1 + 1 + 1 + 1, 0, none⟩) 1 1, .slice (some ⟨B + 1 + 1 + 1 + 1 + 1, 0, none⟩) 1 1] 26) = W3 at *
  have HC := check_any (HMB.out.at_ (by decide))
  rw [smV_m, sm_bad] at HC
  refine Calls.mono HC ?_
  rintro e W4 ⟨rfl, hb4⟩
  have HS := Lib.hid (StA.mk (HMA.out.below hb4) (heap_below HXA.out hb4 (heap_lt HXA.out)) (HBW.out.trans (hb4.mono (by have := heap_lt HXA.out; omega))))
  clear HMA HXA HMB HBW hb4 HC hz1 hz1' hB hz2 c5 f5 hlt5 hne5
  obtain ⟨c0, c1, c2, c3⟩ := HS.out.cells
  go_wp2_with fail
  have HC := check_any (HS.out.at_.at_ (by decide))
  rw [smV_m, sm_good] at HC
  refine Calls.mono HC ?_
  rintro e W5 ⟨rfl, hb⟩
  replace HS := Lib.hid (HS.out.on hb)
  clear hb HC c0 c1 c2 c3
  go_wp2_with fail
  refine (check_nil3 _).mono ?_
  rintro e W6 ⟨rfl, hb⟩
  replace HS := Lib.hid (HS.out.on hb)
  clear hb
  go_wp2_with fail
  refine (check_nil0 _).mono ?_
  rintro e W7 ⟨rfl, hb⟩
  replace HS := Lib.hid (HS.out.on hb)
  clear hb
  obtain ⟨c0, c1, c2, c3⟩ := HS.out.cells
  go_wp2_with fail
  have HC := proc_at (HS.out.at_.at_ (by decide)) ⟨#[98]⟩
  rw [smV_m, sm_b] at HC
  refine Calls.mono HC ?_
  rintro e W8 ⟨rfl, hb⟩
  replace HS := Lib.hid (HS.out.on hb)
  clear hb HC c0 c1 c2 c3
  obtain ⟨c0, c1, c2, c3⟩ := HS.out.cells
  go_wp2_with fail
  have HC := link_at (HS.out.at_.at_ (by decide)) ⟨#[120]⟩
  rw [smV_m, sm_x] at HC
  refine Calls.mono HC ?_
  rintro e W9 ⟨rfl, hb⟩
  replace HS := Lib.hid (HS.out.on hb)
  clear hb HC c0 c1 c2 c3
  obtain ⟨c0, c1, c2, c3⟩ := HS.out.cells
  obtain ⟨p0, p1, p2, p3⟩ := HS.out.procs
  go_wp2_with fail
  have HC := var_at ((HS.out.at_.at_ (by decide)).inner (smP0 A) (List.mem_cons_self ..)) ⟨#[120]⟩
  rw [sm_v] at HC
  refine Calls.mono HC ?_
  rintro e W10 ⟨rfl, hb⟩
  replace HS := Lib.hid (HS.out.on hb)
  clear hb HC c0 c1 c2 c3 p0 p1 p2 p3
  obtain ⟨c0, c1, c2, c3⟩ := HS.out.cells
  go_wp2_with fail
  have HC := lnames_any (HS.out.at_.at_ (by decide)) (by rw [smV_m]; decide) 99
  rw [smV_m] at HC
  refine Calls.mono HC ?_
  rintro e W11 ⟨hb, v, rfl, hg⟩
  obtain ⟨a9, cap9, rfl⟩ := hg.slice
  have HS := Lib.hid (HS.out.on hb)
  rw [sm_n] at *
  clear hb HC c0 c1 c2 c3 hg
  go_wp2
  go_ret
  exact ⟨rfl, by rw [HA.out]; exact HS.out.low⟩
end Go.Proofs.Ytgnlehenbdcgmaa.Md
