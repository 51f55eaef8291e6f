/- Contract: the least is taken out, of numbers. -/
import Derived.Test.YtfghcjhfbbdanaaIx
set_option linter.unusedVariables false
namespace Go.Proofs.Ytfghcjhfbbdanaa.Ii
open Go.RowKit

/-- The world on the way down. -/
structure PopW (K lo hb lb : Nat) (w : World) (B7 : Nat) (v : Value) (puts : Int) (x : Ent) (N : List Ent) (W : World) : Prop where
  frame : Turned (fun k => k = hb ∨ k = lb) w W
  mem : HMem K lo hb lb W v N puts
  tmp : W.heap[B7]? = some (.cells #[.int .i64 x.1, .int .i64 x.2] 65 (0, 0))
theorem PopW.next {K lo hb lb : Nat} {w : World} {B7 : Nat} {v : Value} {puts : Int} {x : Ent} {N : List Ent} {W W' : World} (h : PopW K lo hb lb w B7 v puts x N W) (hb' : Below W.heap.size W W') : PopW K lo hb lb w B7 v puts x N W' :=
  ⟨h.frame.trans (Turned.of_below (R := fun _ => False) hb') (fun _ _ e => e) (fun _ _ e => e.elim), h.mem.below hb', heap_below h.tmp hb' (heap_lt h.tmp)⟩
/-- The temporary is another. -/
theorem PopW.temp {K lo hb lb : Nat} {w : World} {B7 : Nat} {v : Value} {puts : Int} {x : Ent} {N : List Ent} {W : World} (h : PopW K lo hb lb w B7 v puts x N W) (h1 : B7 ≠ hb) (h2 : B7 ≠ lb) (h4 : w.heap.size ≤ B7) (y : Ent) :
    PopW K lo hb lb w B7 v puts y N ((W.setCell ⟨B7, 0, none⟩ (.int .i64 y.1)).setCell ⟨B7, 1, none⟩ (.int .i64 y.2)) := by
  have g3 := (grown_set W B7 0 (.int .i64 y.1)).trans (grown_set _ B7 1 (.int .i64 y.2))
  have t3 : Turned (fun k => k = B7) W _ := (Turned.of_grown g3).mono (fun k _ e => by simpa using e)
  exact ⟨h.frame.trans t3 (fun _ _ e => e) (fun i hi e => by omega), h.mem.turned t3 (fun e => h1 e.symm) (fun e => h2 e.symm), heap_set (heap_set h.tmp 0 _) 1 _⟩
/-- Something is stored in the list. -/
theorem PopW.stored {K lo hb lb : Nat} {w : World} {B7 : Nat} {v : Value} {puts : Int} {x : Ent} {N : List Ent} {W : World} (h : PopW K lo hb lb w B7 v puts x N W) (h2 : B7 ≠ lb) {i : Nat} (hi : i < N.length) (y : Ent) :
    PopW K lo hb lb w B7 v puts x (N.set i y) ((W.setCell ⟨lb, i * 2, none⟩ (.int .i64 y.1)).setCell ⟨lb, i * 2 + 1, none⟩ (.int .i64 y.2)) := by
  obtain ⟨hm, ht⟩ := h.mem.stored hi y
  exact ⟨h.frame.trans ht (fun _ _ e => e) (fun _ _ e => .inr e), hm, ht.old h.tmp h2⟩
theorem M_heap {kf : Int → Int} {M : List Ent} {e : Ent} (h : Hm.Heap kf (M ++ [e])) : Hm.Heap kf M := by
  intro c h0 hc
  have ho := Hm.over_lt h0
  have := h c h0 (by simp; omega)
  rw [Hm.g_append_left _ _ hc, Hm.g_append_left _ _ (by omega)] at this
  exact this
/-- The list without its last one. -/
theorem HMem.cut {K lo hb lb cap : Nat} {w : World} {N : List Ent} {y : Ent} {p : Int} (h : HMem K lo hb lb w (.slice (some ⟨lb, 0, none⟩) (N.length + 1) cap) (N ++ [y]) p) :
    HMem K lo hb lb (w.setCell ⟨hb, 1, none⟩ (.slice (some ⟨lb, 0, none⟩) N.length cap)) (.slice (some ⟨lb, 0, none⟩) N.length cap) N p ∧ Turned (fun k => k = hb) w (w.setCell ⟨hb, 1, none⟩ (.slice (some ⟨lb, 0, none⟩) N.length cap)) := by
  have ht : Turned (fun k => k = hb) w (w.setCell ⟨hb, 1, none⟩ (.slice (some ⟨lb, 0, none⟩) N.length cap)) := (Turned.of_grown (grown_set w hb 1 _)).mono (fun k _ e => by simpa using e)
  rcases h.shape with ⟨h1, _⟩ | ⟨cap', cur, h1, hlo, hg, hn, hm, hcs, hk, hne⟩
  · simp at h1
  · simp at h1
    obtain rfl : cap = cap' := h1
    rw [List.length_append, List.length_singleton] at hn hk
    refine ⟨⟨heap_set h.box 1 _, ⟨encs_length _, .inr ⟨lb, cap, cur, rfl, hlo, ht.old hg hne, by omega, hm, hcs, ?_⟩⟩, fun g hg => by simp [Value.ownBlock] at hg; exact hg.symm, h.low, Nat.lt_of_lt_of_le h.lt ht.size⟩, ht⟩
    have h2 := congrArg (List.take (N.length * 2)) hk
    rw [List.take_take, encs_append, List.take_left' (encs_length N), Nat.min_eq_left (by omega)] at h2
    exact h2
theorem set_last (N : List Ent) (e x z : Ent) : ((N ++ [e]).set 0 x).set N.length z = N.set 0 x ++ [z] := by
  cases N with
  | nil => rfl
  | cons a r => simp
/-- What Pop leaves. -/
def PopPost (K : Nat) (kf : Int → Int) (lo hb lb : Nat) (w : World) (row : List Int) (puts : Int) (e : Ending) (w' : World) : Prop :=
  e = .returned (.tuple #[.int .i64 (topV kf row), .bool (decide (row.length ≠ 0))]) ∧ HIs K kf lo hb lb w' (row.eraseIdx (Hm.first kf row)) puts ∧ Turned (fun k => k = hb ∨ k = lb) w w'

set_option maxHeartbeats 4000000 in
theorem pop_any {K : Nat} {kf : Int → Int} (HK : IsOrd K kf) {lo hb lb : Nat} {w : World} {row : List Int} {puts : Int} (h : HIs K kf lo hb lb w row puts) (hs : row.length ≤ 100001) :
    Calls Try.prog 29 #[.pointer (some ⟨hb, 0, none⟩)] w (PopPost K kf lo hb lb w row puts) := by
  have HP := Lib.hid (peek_any h)
  by_cases h0 : row.length = 0
  · have hd : decide (row.length ≠ 0) = false := by simp [h0]
    have HE : Hid (HIs K kf lo hb lb w (row.eraseIdx (Hm.first kf row)) puts) := Lib.hid (by
      obtain rfl : row = [] := List.length_eq_zero_iff.1 h0
      exact h)
    clear h h0
    go_enter Try.func29, Try.ntmps29
    go_wp2_with fail
    refine HP.out.mono ?_
    rintro e w1 ⟨rfl, rfl⟩
    rw [hd]
    generalize htv : topV kf row = tv at *
    have HTV := Lib.hid htv
    clear htv
    go_wp2
    go_ret2
    exact ⟨by rw [hd, HTV.out]; rfl, HE.out, Turned.refl _ _⟩
  · have hd : decide (row.length ≠ 0) = true := by simp [h0]
    obtain ⟨v, L, hm, hh⟩ := h
    have hl := hh.length
    have hlt := heap_lt hm.box
    have HR := Lib.hid (fun (e : Ent) (n : Nat) (hn : n ≤ L.length) (W : World) (hB : Below w.heap.size w W) => room_any HK (hm.below hB) e n hn (by omega))
    have HC := Lib.hid (fun (W : World) (hB : Below w.heap.size w W) => (hm.below hB))
    have HH := Lib.hid (And.intro hh hl)
    have HLB := Lib.hid hm.lt
    have hsh : ∃ cap, v = .slice (some ⟨lb, 0, none⟩) L.length cap ∧ L.length ≤ cap := by
      rcases hm.shape with ⟨rfl, rfl⟩ | ⟨cap, cur, rfl, _, _, hc, _⟩
      · exact absurd hl.symm h0
      · exact ⟨cap, rfl, hc⟩
    obtain ⟨cap, rfl, hcap⟩ := hsh
    obtain ⟨M, e0, rfl⟩ : ∃ M e0, L = M ++ [e0] := ⟨L.dropLast, L.getLast (by intro e; subst e; exact h0 hl.symm), (List.dropLast_concat_getLast _).symm⟩
    have hLs : M.length ≤ 100000 := by simp at hl; omega
    clear hh hl h0
    simp only [List.length_append, List.length_cons, List.length_nil, Nat.zero_add] at *
    obtain ⟨d0, d1, d2, g0, g1, g2⟩ := three_cells hm.box
    obtain ⟨a0, a1⟩ := hm.cells (i := M.length) (by simp)
    rw [Hm.g_append_at] at a0 a1
    have hlb2 := hm.lt
    have n12 : lb ≠ hb := by
      rcases hm.shape with ⟨h, _⟩ | ⟨_, _, _, _, _, _, _, _, _, h⟩
      · simp at h
      · exact h
    have n13 : hb ≠ lb := fun e => n12 e.symm
    clear hm
    go_enter Try.func29, Try.ntmps29
    go_wp2_with fail
    refine HP.out.mono ?_
    rintro e w1 ⟨rfl, rfl⟩
    rw [hd]
    generalize htv : topV kf row = tv at *
    have HTV := Lib.hid htv
    clear htv HP
    have hi0 : (M.length : Int) < (M.length : Int) + 1 := by omega
    have hn0 : M.length < M.length + 1 := by omega
    go_wp2_with fail
    have hB2 : Below w.heap.size w (w.alloc (Obj.cells #[Value.int IntKind.i64 e0.1, Value.int IntKind.i64 e0.2] 65)) := (Below.refl w.heap.size w).alloc (Nat.le_refl _) _
    refine (HR.out e0 M.length (by omega) _ hB2).mono ?_
    rintro e w2 ⟨r, rfl, hrm, hB⟩
    have hW2 : PopW K lo hb lb w w.heap.size (.slice (some ⟨lb, 0, none⟩) (M.length + 1) cap) puts e0 (M ++ [e0]) w2 := by
      have hP : PopW K lo hb lb w w.heap.size (.slice (some ⟨lb, 0, none⟩) (M.length + 1) cap) puts e0 (M ++ [e0]) (w.alloc (Obj.cells #[Value.int IntKind.i64 e0.1, Value.int IntKind.i64 e0.2] 65)) :=
        ⟨Turned.of_below hB2, HC.out _ hB2, heap_new _ rfl⟩
      exact hP.next hB
    rw [List.take_left] at hrm
    have HROT := Lib.hid (Hm.RotInv.start (M_heap HH.out.1.1) hrm)
    have HLT := Lib.hid hrm.lt
    have HW2 := Lib.hid hW2
    have n1 : w.heap.size ≠ hb := by omega
    have n2 : w.heap.size ≠ lb := by omega
    have n4 : w.heap.size ≤ w.heap.size := Nat.le_refl _
    clear hW2 hrm hB hB2 HR HC d0 d1 d2 g0 g1 g2 a0 a1
    go_wp2
    obtain ⟨B7, hB7⟩ : ∃ B, B = w.heap.size := ⟨_, rfl⟩
    rw [← hB7] at n1 n2 n4 HW2 ⊢
    have n5 : w.heap.size ≤ B7 := by omega
    clear n4 hB7
    have n7 : lb ≠ B7 := fun e => n2 e.symm
    have n8 : hb ≠ B7 := fun e => n1 e.symm
    go_loopg [8] r (fun m a wr => ∃ N x, a = .int .i64 m ∧ Hid (m < M.length ∨ m = 0) ∧ Hid (Hm.RotInv kf M e0 N x m) ∧ Hid (PopW K lo hb lb w B7 (.slice (some ⟨lb, 0, none⟩) (M.length + 1) cap) puts x (N ++ [e0]) wr))
    case atStart => exact ⟨_, _, rfl, HLT, HROT, HW2⟩
    case round =>
      obtain ⟨N, x, rfl, hML, hI, hW⟩ := hrel
      by_cases hg : 0 < gk
      · have hlen := hI.out.length
        have hML2 := hML.out
        have hgM : gk < M.length := by omega
        go_wp2
        have hWV := hW.out
        obtain ⟨d0, d1, d2, g0, g1, g2⟩ := three_cells hWV.mem.box
        obtain ⟨y0, y1, z0, z1⟩ := pair_cells hWV.tmp
        obtain ⟨c0, c1, f0, f1⟩ := cell_free hWV.mem (i := gk) (by simp; omega)
        rw [Hm.g_append_left _ _ (by omega)] at c0 c1
        have hi2 : (gk : Int) < (M.length : Int) + 1 := by omega
        have hi3 : (0 : Int) ≤ (gk : Int) := by omega
        have hn2 : gk < M.length + 1 := by omega
        have hw1 := (hWV.temp n1 n2 n5 (Hm.g N gk)).stored n2 (i := gk) (by simp; omega) x
        rw [show (N ++ [e0]).set gk x = N.set gk x ++ [e0] by rw [List.set_append_left _ _ (by omega)]] at hw1
        have HW1 := Lib.hid (hw1.next (below_drew _))
        clear hw1 hWV
        go_region
        all_goals
          go_wp2_with (go_at_call 20; refine (over_any gk _ (by omega) (by omega)).mono ?_; rintro e5 w5 ⟨rfl, rfl⟩)
          go_roundg (Hm.over gk)
          case measure => exact Hm.over_lt hg
          case rel =>
            exact ⟨N.set gk x, Hm.g N gk, rfl, Lib.hid (by have := Hm.over_lt hg; omega), Lib.hid (hI.out.next (M_heap HH.out.1.1) hg), HW1⟩
      · obtain rfl : gk = 0 := by omega
        have hlen := hI.out.length
        obtain ⟨hF1, hF2⟩ := hI.out.last
        go_wp2
        refine wp_region_still_tail 6 (by kernel_rfl) (by kernel_rfl) ?_
        simp only [List.take_succ_cons, List.take_zero, List.drop_succ_cons, List.drop_zero]
        obtain ⟨V, hV⟩ : ∃ V, wr.drew = V := ⟨_, rfl⟩
        have hWV : PopW K lo hb lb w B7 (.slice (some ⟨lb, 0, none⟩) (M.length + 1) cap) puts x (N ++ [e0]) V := by rw [← hV]; exact hW.out.next (below_drew _)
        change wpStill _ _ wr.drew (fun a' => wpList _ _ _ _ a' wr.drew) _ _
        rw [hV]
        obtain ⟨d0, d1, d2, g0, g1, g2⟩ := three_cells hWV.mem.box
        obtain ⟨y0, y1, z0, z1⟩ := pair_cells hWV.tmp
        obtain ⟨c0, c1, f0, f1⟩ := cell_free hWV.mem (i := 0) (by simp)
        simp only [Nat.zero_mul, Nat.zero_add] at c0 c1 f0 f1
        have hw1 := hWV.stored n2 (i := 0) (by simp) x
        simp only [Nat.zero_mul, Nat.zero_add] at hw1
        have HW1 := Lib.hid hw1
        clear hw1 hWV hV
        have hp0 : (0 : Int) < (M.length : Int) + 1 := by omega
        repeat still_step
        refine wpStill_nil ?_
        have HV := Lib.hid hlen
        clear hlen
        go_upto_region 11 with fail
        clear d0 d1 d2 g0 g1 g2 y0 y1 z0 z1 c0 c1 f0 f1
        generalize (V.setCell ⟨lb, 0, none⟩ (.int .i64 x.1)).setCell ⟨lb, 1, none⟩ (.int .i64 x.2) = V1 at *
        have hMl : M.length < ((N ++ [e0]).set 0 x).length := by rw [List.length_set, List.length_append, HV.out]; simp
        have hw2 := HW1.out.stored n2 hMl (0, 0)
        rw [← HV.out, set_last] at hw2
        obtain ⟨d0, d1, d2, g0, g1, g2⟩ := three_cells HW1.out.mem.box
        obtain ⟨c0, c1, f0, f1⟩ := cell_free HW1.out.mem hMl
        have hcl := clear_one V1 lb (M.length * 2) (cap - M.length) (by rw [c0]; rfl) (by rw [c1]; rfl) f0 f1
        rw [HV.out] at hw2
        have HW2 := Lib.hid hw2
        clear hw2 hMl c0 c1 f0 f1
        go_upto_region 12 with (simp only [hcl])
        clear d0 d1 d2 g0 g1 g2 hcl
        generalize (V1.setCell ⟨lb, M.length * 2, none⟩ (.int .i64 0)).setCell ⟨lb, M.length * 2 + 1, none⟩ (.int .i64 0) = V2 at *
        have hNl : (N.set 0 x).length = M.length := by rw [List.length_set]; exact HV.out
        have hcut := HMem.cut (N := N.set 0 x) (y := (0, 0)) (by rw [hNl]; exact HW2.out.mem)
        rw [hNl] at hcut
        obtain ⟨d0, d1, d2, g0, g1, g2⟩ := three_cells HW2.out.mem.box
        have HF5 := Lib.hid hcut.1
        have HT5 := Lib.hid (HW2.out.frame.trans hcut.2 (fun _ _ e => e) (fun _ _ e => .inl e))
        clear hcut
        go_wp2
        go_ret2
        exact ⟨by rw [hd, HTV.out]; rfl, ⟨_, _, HF5.out, HH.out.1.pop (by intro e; subst e; simp at hd) hF1 hF2⟩, HT5.out⟩
end Go.Proofs.Ytfghcjhfbbdanaa.Ii
