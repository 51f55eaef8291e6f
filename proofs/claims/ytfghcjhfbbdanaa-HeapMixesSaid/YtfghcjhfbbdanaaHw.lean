/- Contract: the least is taken out. -/
import Derived.Test.YtfghcjhfbbdanaaHx
set_option linter.unusedVariables false
namespace Go.Proofs.Ytfghcjhfbbdanaa
open Go.RowKit

theorem pair_cells {w : World} {W : Nat} {p q : Value} {t : TypeId} (h : w.heap[W]? = some (.cells #[p, q] t (0, 0))) : w.cell? ⟨W, 0, none⟩ = some p ∧ w.cell? ⟨W, 1, none⟩ = some q ∧ w.frozen? ⟨W, 0, none⟩ = false ∧ w.frozen? ⟨W, 1, none⟩ = false := by
  refine ⟨?_, ?_, ?_, ?_⟩ <;> simp [World.cell?, World.frozen?, h]
/-- The world on the way down. -/
structure PopW (K lo hb lb : Nat) (w : World) (B4 B7 : Nat) (tv : Int × Int) (v : Value) (puts : Int) (x : Ent) (N : List Ent) (W : World) : Prop where
  frame : Turned (fun k => k = hb ∨ k = lb) w W
  mem : HMem K lo hb lb W v N puts
  tmp : W.heap[B7]? = some (.cells #[.int .i64 x.1.1, .int .i64 x.1.2, .int .i64 x.2] 50 (0, 0))
  least : W.heap[B4]? = some (.cells #[.int .i64 tv.1, .int .i64 tv.2] 26 (0, 0))
  res : W.heap[w.heap.size]? = some (.cells #[.int .i64 0, .int .i64 0] 26 (0, 0))
theorem PopW.next {K lo hb lb : Nat} {w : World} {B4 B7 : Nat} {tv : Int × Int} {v : Value} {puts : Int} {x : Ent} {N : List Ent} {W W' : World} (h : PopW K lo hb lb w B4 B7 tv v puts x N W) (hb' : Below W.heap.size W W') : PopW K lo hb lb w B4 B7 tv v puts x N W' :=
  ⟨h.frame.trans (Turned.of_below (R := fun _ => False) hb') (fun _ _ e => e) (fun _ _ e => e.elim), h.mem.below hb', heap_below h.tmp hb' (heap_lt h.tmp), heap_below h.least hb' (heap_lt h.least), heap_below h.res hb' (heap_lt h.res)⟩
/-- The temporary is another. -/
theorem PopW.temp {K lo hb lb : Nat} {w : World} {B4 B7 : Nat} {tv : Int × Int} {v : Value} {puts : Int} {x : Ent} {N : List Ent} {W : World} (h : PopW K lo hb lb w B4 B7 tv v puts x N W) (h1 : B7 ≠ hb) (h2 : B7 ≠ lb) (h3 : B7 ≠ B4) (h4 : w.heap.size < B7) (y : Ent) :
    PopW K lo hb lb w B4 B7 tv v puts y N (((W.setCell ⟨B7, 0, none⟩ (.int .i64 y.1.1)).setCell ⟨B7, 1, none⟩ (.int .i64 y.1.2)).setCell ⟨B7, 2, none⟩ (.int .i64 y.2)) := by
  have g3 := ((grown_set W B7 0 (.int .i64 y.1.1)).trans (grown_set _ B7 1 (.int .i64 y.1.2))).trans (grown_set _ B7 2 (.int .i64 y.2))
  have t3 : Turned (fun k => k = B7) W _ := (Turned.of_grown g3).mono (fun k _ e => by simpa using e)
  refine ⟨h.frame.trans t3 (fun _ _ e => e) (fun i hi e => by omega), h.mem.turned t3 (fun e => h1 e.symm) (fun e => h2 e.symm), heap_set (heap_set (heap_set h.tmp 0 _) 1 _) 2 _, t3.old h.least (fun e => h3 e.symm), t3.old h.res (by omega)⟩
/-- Something is stored in the list. -/
theorem PopW.stored {K lo hb lb : Nat} {w : World} {B4 B7 : Nat} {tv : Int × Int} {v : Value} {puts : Int} {x : Ent} {N : List Ent} {W : World} (h : PopW K lo hb lb w B4 B7 tv v puts x N W) (h2 : B7 ≠ lb) (h3 : B4 ≠ lb) (h4 : lb < w.heap.size) {i : Nat} (hi : i < N.length) (y : Ent) :
    PopW K lo hb lb w B4 B7 tv v puts x (N.set i y) (((W.setCell ⟨lb, i * 3, none⟩ (.int .i64 y.1.1)).setCell ⟨lb, i * 3 + 1, none⟩ (.int .i64 y.1.2)).setCell ⟨lb, i * 3 + 2, none⟩ (.int .i64 y.2)) := by
  obtain ⟨hm, ht⟩ := h.mem.stored hi y
  exact ⟨h.frame.trans ht (fun _ _ e => e) (fun _ _ e => .inr e), hm, ht.old h.tmp h2, ht.old h.least h3, ht.old h.res (by omega)⟩
theorem M_heap {kf : Int × Int → Int} {M : List Ent} {e : Ent} (h : Hm.Heap kf (M ++ [e])) : Hm.Heap kf M := by
  intro c h0 hc
  have ho := Hm.over_lt h0
  have := h c h0 (by simp; omega)
  rw [Hm.g_append_left _ _ hc, Hm.g_append_left _ _ (by omega)] at this
  exact this
/-- The list without its last one. -/
theorem HMem.cut {K lo hb lb cap : Nat} {w : World} {N : List Ent} {y : Ent} {p : Int} (h : HMem K lo hb lb w (.slice (some ⟨lb, 0, none⟩) (N.length + 1) cap) (N ++ [y]) p) :
    HMem K lo hb lb (w.setCell ⟨hb, 1, none⟩ (.slice (some ⟨lb, 0, none⟩) N.length cap)) (.slice (some ⟨lb, 0, none⟩) N.length cap) N p ∧ Turned (fun k => k = hb) w (w.setCell ⟨hb, 1, none⟩ (.slice (some ⟨lb, 0, none⟩) N.length cap)) := by
  have ht : Turned (fun k => k = hb) w (w.setCell ⟨hb, 1, none⟩ (.slice (some ⟨lb, 0, none⟩) N.length cap)) := (Turned.of_grown (grown_set w hb 1 _)).mono (fun k _ e => by simpa using e)
  rcases h.shape with ⟨h1, _⟩ | ⟨cap', cur, h1, hlo, hg, hn, hm, hcs, hk, hne⟩
  · simp at h1
  · simp at h1
    obtain rfl : cap = cap' := h1
    rw [List.length_append, List.length_singleton] at hn hk
    refine ⟨⟨heap_set h.box 1 _, ⟨encs_length _, .inr ⟨lb, cap, cur, rfl, hlo, ht.old hg hne, by omega, hm, hcs, ?_⟩⟩, fun g hg => by simp [Value.ownBlock] at hg; exact hg.symm, h.low, Nat.lt_of_lt_of_le h.lt ht.size, .inl rfl⟩, ht⟩
    have h2 := congrArg (List.take (N.length * 3)) hk
    rw [List.take_take, encs_append, List.take_left' (encs_length N), Nat.min_eq_left (by omega)] at h2
    exact h2
theorem set_last (N : List Ent) (e x z : Ent) : ((N ++ [e]).set 0 x).set N.length z = N.set 0 x ++ [z] := by
  cases N with
  | nil => rfl
  | cons a r => simp
/-- What Pop leaves. -/
def PopPost (K : Nat) (kf : Int × Int → Int) (lo hb lb : Nat) (w : World) (row : List (Int × Int)) (puts : Int) (e : Ending) (w' : World) : Prop :=
  e = .returned (.tuple #[.agg #[.int .i64 (topV kf row).1, .int .i64 (topV kf row).2], .bool (decide (row.length ≠ 0))]) ∧ HIs K kf lo hb lb w' (row.eraseIdx (Hm.first kf row)) puts ∧ Turned (fun k => k = hb ∨ k = lb) w w'

set_option maxHeartbeats 4000000 in
theorem pop_any {K : Nat} {kf : Int × Int → Int} (HK : IsOrd K kf) {lo hb lb : Nat} {w : World} {row : List (Int × Int)} {puts : Int} (h : HIs K kf lo hb lb w row puts) (hs : row.length ≤ 100001) :
    Calls Try.prog 13 #[.pointer (some ⟨hb, 0, none⟩)] w (PopPost K kf lo hb lb w row puts) := by
  have HP := Lib.hid (fun (W : World) (hB : Below w.heap.size w W) => peek_any (h.below hB))
  by_cases h0 : row.length = 0
  · have hd : decide (row.length ≠ 0) = false := by simp [h0]
    have HE : Hid (HIs K kf lo hb lb w (row.eraseIdx (Hm.first kf row)) puts) := Lib.hid (by
      obtain rfl : row = [] := List.length_eq_zero_iff.1 h0
      exact h)
    clear h h0
    go_enter Try.func13, Try.ntmps13
    go_wp2_with fail
    refine (HP.out _ ((Below.refl _ _).alloc (Nat.le_refl _) _)).mono ?_
    rintro e w1 ⟨rfl, hB⟩
    rw [hd]
    generalize htv : topV kf row = tv at *
    have HTV := Lib.hid htv
    clear htv
    have hr := heap_below (heap_new (w := w) (.cells #[.int .i64 0, .int .i64 0] 26) rfl) hB (by simp)
    obtain ⟨r0, r1, s0, s1⟩ := pair_cells hr
    have hz : w.heap.size < w1.heap.size := heap_lt hr
    have HB := Lib.hid (((Below.refl w.heap.size w).alloc (Nat.le_refl _) (Obj.cells #[Value.int IntKind.i64 0, Value.int IntKind.i64 0] 26)).trans (hB.mono (by simp)))
    have hF : (((w1.setCell ⟨w.heap.size, 0, none⟩ (.int .i64 tv.1)).setCell ⟨w.heap.size, 1, none⟩ (.int .i64 tv.2)).alloc (Obj.cells #[Value.int IntKind.i64 tv.1, Value.int IntKind.i64 tv.2] 26)).heap[w.heap.size]? = some (.cells #[.int .i64 tv.1, .int .i64 tv.2] 26 (0, 0)) := heap_alloc (heap_set (heap_set hr 0 (.int .i64 tv.1)) 1 (.int .i64 tv.2)) (Obj.cells #[Value.int IntKind.i64 tv.1, Value.int IntKind.i64 tv.2] 26)
    have HF := Lib.hid hF
    have HB' := Lib.hid (((HB.out.setCell (p := ⟨w.heap.size, 0, none⟩) (Nat.le_refl _) (.int .i64 tv.1)).setCell (p := ⟨w.heap.size, 1, none⟩) (Nat.le_refl _) (.int .i64 tv.2)).alloc (by simp [World.setCell]; omega) (Obj.cells #[Value.int IntKind.i64 tv.1, Value.int IntKind.i64 tv.2] 26))
    clear hr hB HP hF
    go_wp2
    obtain ⟨p0, p1, _⟩ := pair_cells HF.out
    exact bodyPost_ret (v := .tuple #[.agg #[.int .i64 tv.1, .int .i64 tv.2], .bool false]) (by simp [results, Try.f13, go_sem, p0, p1]) rfl ⟨by rw [hd, HTV.out], HE.out.below HB'.out, Turned.of_below HB'.out⟩
  · have hd : decide (row.length ≠ 0) = true := by simp [h0]
    obtain ⟨v, L, hm, hh⟩ := h
    have hl := hh.length
    have hlt := heap_lt hm.box
    have HR := Lib.hid (fun (e : Ent) (n : Nat) (hn : n ≤ L.length) (W : World) (hB : Below w.heap.size w W) => room_any HK (hm.below hB) e n hn (by omega))
    have HC := Lib.hid (fun (W : World) (hB : Below w.heap.size w W) => (hm.below hB))
    have HH := Lib.hid (And.intro hh hl)
    have HLB := Lib.hid hm.lt
    have hsh : ∃ cap, v = .slice (some ⟨lb, 0, none⟩) L.length cap ∧ L.length ≤ cap := by
      rcases hm.shape with ⟨rfl, rfl⟩ | ⟨cap, cur, rfl, _, _, hc, _⟩
      · exact absurd hl.symm h0
      · exact ⟨cap, rfl, hc⟩
    obtain ⟨cap, rfl, hcap⟩ := hsh
    -- the list, and its last one
    obtain ⟨M, e0, rfl⟩ : ∃ M e0, L = M ++ [e0] := ⟨L.dropLast, L.getLast (by intro e; subst e; exact h0 hl.symm), (List.dropLast_concat_getLast _).symm⟩
    have hLs : M.length ≤ 100000 := by simp at hl; omega
    clear hm hh hl h0
    simp only [List.length_append, List.length_cons, List.length_nil, Nat.zero_add] at *
    go_enter Try.func13, Try.ntmps13
    go_wp2_with fail
    refine (HP.out _ ((Below.refl _ _).alloc (Nat.le_refl _) _)).mono ?_
    rintro e w1 ⟨rfl, hB⟩
    rw [hd]
    have hr := heap_below (heap_new (w := w) (.cells #[.int .i64 0, .int .i64 0] 26) rfl) hB (by simp)
    obtain ⟨r0, r1, s0, s1⟩ := pair_cells hr
    have hz : w.heap.size < w1.heap.size := heap_lt hr
    have HB := Lib.hid (((Below.refl w.heap.size w).alloc (Nat.le_refl _) (Obj.cells #[Value.int IntKind.i64 0, Value.int IntKind.i64 0] 26)).trans (hB.mono (by simp)))
    have hmr := HC.out _ HB.out
    obtain ⟨d0, d1, d2, g0, g1, g2⟩ := three_cells hmr.box
    obtain ⟨a0, a1, a2⟩ := hmr.cells (i := M.length) (by simp)
    rw [Hm.g_append_at] at a0 a1 a2
    have HRB := Lib.hid hr
    have hzb : hb < w1.heap.size := heap_lt hmr.box
    have hzl : lb < w1.heap.size := hmr.lt
    clear hr hB HP hmr
    generalize htv : topV kf row = tv at *
    have HTV := Lib.hid htv
    clear htv
    have hi0 : (M.length : Int) < (M.length : Int) + 1 := by omega
    have hn0 : M.length < M.length + 1 := by omega
    go_wp2_with fail
    have hB2 : Below w.heap.size w ((w1.alloc (Obj.cells #[Value.int IntKind.i64 tv.1, Value.int IntKind.i64 tv.2] 26)).alloc (Obj.cells #[Value.int IntKind.i64 e0.1.1, Value.int IntKind.i64 e0.1.2, Value.int IntKind.i64 e0.2] 50)) :=
      (HB.out.alloc (by omega) _).alloc (by simp; omega) _
    refine (HR.out e0 M.length (by omega) _ hB2).mono ?_
    rintro e w2 ⟨r, rfl, hrm, hB⟩
    have hW2 : PopW K lo hb lb w w1.heap.size (w1.heap.size + 1) tv (.slice (some ⟨lb, 0, none⟩) (M.length + 1) cap) puts e0 (M ++ [e0]) w2 := by
      have hP : PopW K lo hb lb w w1.heap.size (w1.heap.size + 1) tv (.slice (some ⟨lb, 0, none⟩) (M.length + 1) cap) puts e0 (M ++ [e0]) ((w1.alloc (Obj.cells #[Value.int IntKind.i64 tv.1, Value.int IntKind.i64 tv.2] 26)).alloc (Obj.cells #[Value.int IntKind.i64 e0.1.1, Value.int IntKind.i64 e0.1.2, Value.int IntKind.i64 e0.2] 50)) :=
        ⟨Turned.of_below hB2, HC.out _ hB2, heap_new _ (by simp), heap_alloc (heap_new _ rfl) _, heap_alloc (heap_alloc HRB.out _) _⟩
      exact hP.next hB
    rw [List.take_left] at hrm
    have HROT := Lib.hid (Hm.RotInv.start (M_heap HH.out.1.1) hrm)
    have HLT := Lib.hid hrm.lt
    have HW2 := Lib.hid hW2
    have n1 : w1.heap.size + 1 ≠ hb := by omega
    have n2 : w1.heap.size + 1 ≠ lb := by omega
    have n3 : w1.heap.size + 1 ≠ w1.heap.size := by omega
    have n4 : w.heap.size < w1.heap.size + 1 := by omega
    have n5 : w1.heap.size ≠ lb := by omega
    have n6 : w1.heap.size ≠ hb := by omega
    clear hW2 hrm hB hB2 HR HC r0 r1 s0 s1 d0 d1 d2 g0 g1 g2 a0 a1 a2 hz hzb hzl HRB HB
    go_wp2
    generalize w1.heap.size + 1 = B7 at *
    generalize w1.heap.size = B4 at *
    have n7 : lb ≠ B7 := fun e => n2 e.symm
    have n8 : hb ≠ B7 := fun e => n1 e.symm
    have n9 : lb ≠ B4 := fun e => n5 e.symm
    have n10 : hb ≠ B4 := fun e => n6 e.symm
    have n11 : B4 ≠ B7 := fun e => n3 e.symm
    have n12 : lb ≠ hb := by
      rcases HW2.out.mem.shape with ⟨h, _⟩ | ⟨_, _, _, _, _, _, _, _, _, h⟩
      · simp at h
      · exact h
    have n13 : hb ≠ lb := fun e => n12 e.symm
    go_loopg [8] r (fun m a wr => ∃ N x, a = .int .i64 m ∧ Hid (m < M.length ∨ m = 0) ∧ Hid (Hm.RotInv kf M e0 N x m) ∧ Hid (PopW K lo hb lb w B4 B7 tv (.slice (some ⟨lb, 0, none⟩) (M.length + 1) cap) puts x (N ++ [e0]) wr))
    case atStart => exact ⟨_, _, rfl, HLT, HROT, HW2⟩
    case round =>
      obtain ⟨N, x, rfl, hML, hI, hW⟩ := hrel
      by_cases hg : 0 < gk
      · have hlen := hI.out.length
        have hML2 := hML.out
        have hgM : gk < M.length := by omega
        go_wp2
        have hWV := hW.out
        obtain ⟨d0, d1, d2, g0, g1, g2⟩ := three_cells hWV.mem.box
        obtain ⟨y0, y1, y2, z0, z1, z2⟩ := three_cells hWV.tmp
        obtain ⟨c0, c1, c2, f0, f1, f2⟩ := cell_free hWV.mem (i := gk) (by simp; omega)
        rw [Hm.g_append_left _ _ (by omega)] at c0 c1 c2
        have hi2 : (gk : Int) < (M.length : Int) + 1 := by omega
        have hi3 : (0 : Int) ≤ (gk : Int) := by omega
        have hn2 : gk < M.length + 1 := by omega
        have hw1 := (hWV.temp n1 n2 n3 n4 (Hm.g N gk)).stored n2 n5 HLB.out (i := gk) (by simp; omega) x
        rw [show (N ++ [e0]).set gk x = N.set gk x ++ [e0] by rw [List.set_append_left _ _ (by omega)]] at hw1
        have HW1 := Lib.hid (hw1.next (below_drew _))
        clear hw1 hWV
        go_region
        all_goals
          go_wp2_with (go_at_call 20; refine (over_any gk _ (by omega) (by omega)).mono ?_; rintro e5 w5 ⟨rfl, rfl⟩)
          go_roundg (Hm.over gk)
          case measure => exact Hm.over_lt hg
          case rel =>
            exact ⟨N.set gk x, Hm.g N gk, rfl, Lib.hid (by have := Hm.over_lt hg; omega), Lib.hid (hI.out.next (M_heap HH.out.1.1) hg), HW1⟩
      · obtain rfl : gk = 0 := by omega
        have hlen := hI.out.length
        obtain ⟨hF1, hF2⟩ := hI.out.last
        go_wp2
        refine wp_region_still_tail 6 (by kernel_rfl) (by kernel_rfl) ?_
        simp only [List.take_succ_cons, List.take_zero, List.drop_succ_cons, List.drop_zero]
        obtain ⟨V, hV⟩ : ∃ V, wr.drew = V := ⟨_, rfl⟩
        have hWV : PopW K lo hb lb w B4 B7 tv (.slice (some ⟨lb, 0, none⟩) (M.length + 1) cap) puts x (N ++ [e0]) V := by rw [← hV]; exact hW.out.next (below_drew _)
        change wpStill _ _ wr.drew (fun a' => wpList _ _ _ _ a' wr.drew) _ _
        rw [hV]
        obtain ⟨d0, d1, d2, g0, g1, g2⟩ := three_cells hWV.mem.box
        obtain ⟨y0, y1, y2, z0, z1, z2⟩ := three_cells hWV.tmp
        obtain ⟨c0, c1, c2, f0, f1, f2⟩ := cell_free hWV.mem (i := 0) (by simp)
        simp only [Nat.zero_mul, Nat.zero_add] at c0 c1 c2 f0 f1 f2
        have hw1 := hWV.stored n2 n5 HLB.out (i := 0) (by simp) x
        simp only [Nat.zero_mul, Nat.zero_add] at hw1
        have HW1 := Lib.hid hw1
        clear hw1 hWV hV
        have hp0 : (0 : Int) < (M.length : Int) + 1 := by omega
        repeat still_step
        refine wpStill_nil ?_
        have HV := Lib.hid hlen
        clear hlen
        go_upto_region 11 with fail
        clear d0 d1 d2 g0 g1 g2 y0 y1 y2 z0 z1 z2 c0 c1 c2 f0 f1 f2
        generalize ((V.setCell ⟨lb, 0, none⟩ (.int .i64 x.1.1)).setCell ⟨lb, 1, none⟩ (.int .i64 x.1.2)).setCell ⟨lb, 2, none⟩ (.int .i64 x.2) = V1 at *
        have hMl : M.length < ((N ++ [e0]).set 0 x).length := by rw [List.length_set, List.length_append, HV.out]; simp
        have hw2 := HW1.out.stored n2 n5 HLB.out hMl ((0, 0), 0)
        rw [← HV.out, set_last] at hw2
        obtain ⟨d0, d1, d2, g0, g1, g2⟩ := three_cells HW1.out.mem.box
        obtain ⟨c0, c1, c2, f0, f1, f2⟩ := cell_free HW1.out.mem hMl
        have hcl := clear_one V1 lb (M.length * 3) (cap - M.length) (by rw [c0]; rfl) (by rw [c1]; rfl) (by rw [c2]; rfl) f0 f1 f2
        rw [HV.out] at hw2
        have HW2 := Lib.hid hw2
        clear hw2 hMl c0 c1 c2 f0 f1 f2
        go_upto_region 12 with (simp only [hcl])
        clear d0 d1 d2 g0 g1 g2 hcl
        generalize ((V1.setCell ⟨lb, M.length * 3, none⟩ (.int .i64 0)).setCell ⟨lb, M.length * 3 + 1, none⟩ (.int .i64 0)).setCell ⟨lb, M.length * 3 + 2, none⟩ (.int .i64 0) = V2 at *
        have hNl : (N.set 0 x).length = M.length := by rw [List.length_set]; exact HV.out
        have hcut := HMem.cut (N := N.set 0 x) (y := ((0, 0), 0)) (by rw [hNl]; exact HW2.out.mem)
        rw [hNl] at hcut
        obtain ⟨d0, d1, d2, g0, g1, g2⟩ := three_cells HW2.out.mem.box
        obtain ⟨r0, r1, s0, s1⟩ := pair_cells HW2.out.res
        obtain ⟨l0, l1, _⟩ := pair_cells HW2.out.least
        have n14 : w.heap.size ≠ hb := by omega
        have n15 : hb ≠ w.heap.size := by omega
        have hres : (((V2.setCell ⟨hb, 1, none⟩ (.slice (some ⟨lb, 0, none⟩) M.length cap)).setCell ⟨w.heap.size, 0, none⟩ (.int .i64 tv.1)).setCell ⟨w.heap.size, 1, none⟩ (.int .i64 tv.2)).heap[w.heap.size]? = some (.cells #[.int .i64 tv.1, .int .i64 tv.2] 26 (0, 0)) :=
          heap_set (heap_set (hcut.2.old HW2.out.res n14) 0 _) 1 _
        have g5 := (grown_set (V2.setCell ⟨hb, 1, none⟩ (.slice (some ⟨lb, 0, none⟩) M.length cap)) w.heap.size 0 (.int .i64 tv.1)).trans (grown_set _ w.heap.size 1 (.int .i64 tv.2))
        have t5 : Turned (fun k => k = w.heap.size) _ _ := (Turned.of_grown g5).mono (fun k _ e => by simpa using e)
        have HF5 := Lib.hid (hcut.1.turned t5 n15 (by have := HLB.out; omega))
        have HT5 := Lib.hid ((HW2.out.frame.trans hcut.2 (fun _ _ e => e) (fun _ _ e => .inl e)).trans t5 (fun _ _ e => e) (fun i hi e => by omega))
        have HRES := Lib.hid hres
        clear hcut hres g5 t5
        go_wp2
        obtain ⟨p0, p1, _⟩ := pair_cells HRES.out
        have HP : PopPost K kf lo hb lb w row puts (.returned (.tuple #[.agg #[.int .i64 tv.1, .int .i64 tv.2], .bool true])) _ :=
          ⟨by rw [hd, HTV.out], ⟨_, _, HF5.out, HH.out.1.pop (by intro e; subst e; simp at hd) hF1 hF2⟩, HT5.out⟩
        exact bodyPost_ret (v := .tuple #[.agg #[.int .i64 tv.1, .int .i64 tv.2], .bool true]) (by simp [results, Try.f13, go_sem, p0, p1]) rfl HP
end Go.Proofs.Ytfghcjhfbbdanaa
