/- The walk of WireJoins. -/
import Derived.Test.YtlnocekiaffbpaaOr
import Derived.Test.YtlnocekiaffbpaaJp
import Derived.Test.YtlnocekiaffbpaaWx
set_option linter.unusedVariables false
namespace Go.Proofs.Ytlnocekiaffbpaa
open Go.RowKit

theorem flat_few {ops : List OpV} (h : fewF ops) : (ops.flatMap opB).length ≤ 2800 := by
  have h1 := flat_len opB 70 ops (fun o ho => opB_len o (h.1 o ho))
  have := h.2
  omega
/-- A writer keeps what another turns. -/
theorem WIs.other {S : Nat → Prop} {w w' : World} {W V : Nat} {zs : List Int} (h : WIs S w W zs) (hg : w.grownBy w' (some V)) (hV : ¬ S V) (hne : W ≠ V) : WIs S w' W zs :=
  h.stay (Stay.grown hg (fun k e hk => by cases e; rcases hk with hk | hk; exact hV hk; exact hne hk.symm))

theorem three_new (S : Nat → Prop) (w : World) (hS : ∀ k, S k ↔ w.heap.size + 2 < k) :
    WIs S (((w.alloc (.cells #[.pointer none, .int .i64 0] 27)).alloc (.cells #[.pointer none, .int .i64 0] 27)).alloc (.cells #[.pointer none, .int .i64 0] 27)) w.heap.size [] ∧
    WIs S (((w.alloc (.cells #[.pointer none, .int .i64 0] 27)).alloc (.cells #[.pointer none, .int .i64 0] 27)).alloc (.cells #[.pointer none, .int .i64 0] 27)) (w.heap.size + 1) [] ∧
    WIs S (((w.alloc (.cells #[.pointer none, .int .i64 0] 27)).alloc (.cells #[.pointer none, .int .i64 0] 27)).alloc (.cells #[.pointer none, .int .i64 0] 27)) (w.heap.size + 1 + 1) [] ∧
    Below w.heap.size w (((w.alloc (.cells #[.pointer none, .int .i64 0] 27)).alloc (.cells #[.pointer none, .int .i64 0] 27)).alloc (.cells #[.pointer none, .int .i64 0] 27)) ∧
    (((w.alloc (.cells #[.pointer none, .int .i64 0] 27)).alloc (.cells #[.pointer none, .int .i64 0] 27)).alloc (.cells #[.pointer none, .int .i64 0] 27)).heap.size = w.heap.size + 3 := by
  have b1 : ∀ (W : World) (o : Obj), Below W.heap.size W (W.alloc o) := fun W o => (Below.refl _ _).alloc (Nat.le_refl _) o
  have s0 : ¬ S w.heap.size := fun h => by have := (hS _).1 h; omega
  have s1 : ¬ S (w.heap.size + 1) := fun h => by have := (hS _).1 h; omega
  have s2 : ¬ S (w.heap.size + 1 + 1) := fun h => by have := (hS _).1 h; omega
  refine ⟨((wis_new S w _ rfl s0).stay (Stay.below (b1 _ _))).stay (Stay.below (b1 _ _)), (wis_new S _ _ (by simp) s1).stay (Stay.below (b1 _ _)), wis_new S _ _ (by simp) s2, (((Below.refl _ _).alloc (Nat.le_refl _) _).alloc (by simp) _).alloc (by simp; omega) _, by simp⟩
set_option maxHeartbeats 1000000 in
theorem walk_WireJoins (a0 : Option Addr) (len0 cap0 : Nat) (z0 : List OpV) (a1 : Option Addr) (len1 cap1 : Nat) (z1 : List OpV) (w : World) (w0 : IsOps w a0 len0 cap0 z0) (w1 : IsOps w a1 len1 cap1 z1) :
    Calls Try.prog 6 #[.slice a0 len0 cap0, .slice a1 len1 cap1] w fun e w' => e = .returned (.bool true) ∧ Below w.heap.size w w' := by
  obtain ⟨hc0, b0, off0, h0⟩ := w0
  obtain ⟨hc1, b1, off1, h1⟩ := w1
  have H0 := Lib.hid (fun W (hb : Below w.heap.size w W) => few_any W a0 b0 off0 len0 cap0 z0 (h0.now hb) hc0)
  have H1 := Lib.hid (fun W (hb : Below w.heap.size w W) => few_any W a1 b1 off1 len1 cap1 z1 (h1.now hb) hc1)
  have hbl0 := h0.below
  have hbl1 := h1.below
  have HP0 : Hid (∀ (S : Nat → Prop) W zs (V : Nat), Below w.heap.size w W → fewF z0 → w.heap.size ≤ V → WIs S W V zs → (∀ k, W.heap.size ≤ k → S k) → zs.length ≤ 100000 → Calls Try.prog 37 #[.pointer (some ⟨V, 0, none⟩), .slice a0 len0 cap0] W (AddPost S W V (zs ++ z0.flatMap opB))) :=
    Lib.hid (fun S W zs V hb hf hV hw hS hz => putops_any S W V zs a0 b0 off0 len0 cap0 z0 (h0.now hb) hc0 hf (by omega) hw hS hz)
  have HP1 : Hid (∀ (S : Nat → Prop) W zs (V : Nat), Below w.heap.size w W → fewF z1 → w.heap.size ≤ V → WIs S W V zs → (∀ k, W.heap.size ≤ k → S k) → zs.length ≤ 100000 → Calls Try.prog 37 #[.pointer (some ⟨V, 0, none⟩), .slice a1 len1 cap1] W (AddPost S W V (zs ++ z1.flatMap opB))) :=
    Lib.hid (fun S W zs V hb hf hV hw hS hz => putops_any S W V zs a1 b1 off1 len1 cap1 z1 (h1.now hb) hc1 hf (by omega) hw hS hz)
  have HZ0 : Hid (fewF z0 → (z0.flatMap opB).length ≤ 2800) := Lib.hid flat_few
  have HZ1 : Hid (fewF z1 → (z1.flatMap opB).length ≤ 2800) := Lib.hid flat_few
  clear h0 h1 hc0 hc1 hbl0 hbl1
  generalize z0.flatMap opB = X0 at *
  generalize z1.flatMap opB = X1 at *
  go_enter Try.func6, Try.ntmps6
  go_wp2_with fail
  refine (walive_any _).mono ?_
  rintro e w2 ⟨rfl, hB2⟩
  have HB2 := Lib.hid hB2
  clear hB2
  go_wp2_with fail
  refine (H0.out _ HB2.out).mono ?_
  rintro e w3 ⟨hf0 | rfl, hB⟩
  rotate_left
  · have HB3 := Lib.hid (HB2.out.trans (hB.mono HB2.out.size))
    clear hB
    go_wp2
    go_ret
    exact ⟨rfl, HB3.out⟩
  obtain ⟨rfl, hf0⟩ := hf0
  have HB3 := Lib.hid (HB2.out.trans (hB.mono HB2.out.size))
  have HF0 := Lib.hid hf0
  clear hB hf0
  go_wp2_with fail
  refine (H1.out _ HB3.out).mono ?_
  rintro e w4 ⟨hf1 | rfl, hB⟩
  rotate_left
  · have HB4 := Lib.hid (HB3.out.trans (hB.mono HB3.out.size))
    clear hB
    go_wp2
    go_ret
    exact ⟨rfl, HB4.out⟩
  obtain ⟨rfl, hf1⟩ := hf1
  have HB4 := Lib.hid (HB3.out.trans (hB.mono HB3.out.size))
  have HF1 := Lib.hid hf1
  clear hB hf1 H0 H1 HB2 HB3
  have hz0 := HZ0.out HF0.out
  have hz1 := HZ1.out HF1.out
  obtain ⟨L0, hL0⟩ : ∃ L0, X0.length = L0 := ⟨_, rfl⟩
  obtain ⟨L1, hL1⟩ : ∃ L1, X1.length = L1 := ⟨_, rfl⟩
  rw [hL0] at hz0
  rw [hL1] at hz1
  have HL0 := Lib.hid hL0
  have HL1 := Lib.hid hL1
  clear hL0 hL1 HZ0 HZ1
  obtain ⟨S, hSd⟩ : ∃ S : Nat → Prop, ∀ k, S k ↔ w4.heap.size + 2 < k := ⟨_, fun _ => Iff.rfl⟩
  obtain ⟨x0, x1, x2, hb5, hsz5⟩ := three_new S w4 hSd
  have HNB : Hid (w.heap.size ≤ w4.heap.size) := Lib.hid HB4.out.size
  have HSZ5 : Hid (_ = w4.heap.size + 3) := Lib.hid hsz5
  have HB5 := Lib.hid (HB4.out.trans (hb5.mono HB4.out.size))
  have HX := Lib.hid (And.intro x0 (And.intro x1 x2))
  clear hsz5 hb5 x0 x1 x2 HB4
  go_wp2_with fail
  generalize (((w4.alloc (.cells #[.pointer none, .int .i64 0] 27)).alloc (.cells #[.pointer none, .int .i64 0] 27)).alloc (.cells #[.pointer none, .int .i64 0] 27)) = w5 at *
  generalize w4.heap.size = N at *
  have HSD : Hid (∀ k, S k ↔ N + 2 < k) := Lib.hid hSd
  have HSN : Hid (¬ S N ∧ ¬ S (N + 1) ∧ ¬ S (N + 1 + 1)) := Lib.hid ⟨fun h => by have := (hSd _).1 h; omega, fun h => by have := (hSd _).1 h; omega, fun h => by have := (hSd _).1 h; omega⟩
  have HSA : Hid (∀ k, w5.heap.size ≤ k → S k) := Lib.hid (fun k hk => (hSd k).2 (by have := HSZ5.out; omega))
  clear hSd
  refine (HP0.out S w5 [] N HB5.out HF0.out HNB.out HX.out.1 HSA.out (by simp)).mono ?_
  rintro e w6 ⟨rfl, hw, hg⟩
  have HB6 := Lib.hid (below_set HB5.out (Nat.le_refl _) HNB.out hg)
  have HX6 : Hid (WIs S w6 N X0 ∧ WIs S w6 (N + 1) [] ∧ WIs S w6 (N + 1 + 1) []) := Lib.hid ⟨hw, HX.out.2.1.other hg HSN.out.1 (by omega), HX.out.2.2.other hg HSN.out.1 (by omega)⟩
  have HS6 : Hid (w5.heap.size ≤ w6.heap.size) := Lib.hid hg.size
  clear hw hg HB5 HX
  go_wp2_with fail
  refine (HP1.out S w6 [] (N + 1) HB6.out HF1.out (Nat.le_succ_of_le HNB.out) HX6.out.2.1 (fun k hk => HSA.out k (Nat.le_trans HS6.out hk)) (by simp)).mono ?_
  rintro e w7 ⟨rfl, hw, hg⟩
  have HB7 := Lib.hid (below_set HB6.out (Nat.le_refl _) (Nat.le_succ_of_le HNB.out) hg)
  have HX7 : Hid (WIs S w7 N X0 ∧ WIs S w7 (N + 1) X1 ∧ WIs S w7 (N + 1 + 1) []) := Lib.hid ⟨HX6.out.1.other hg HSN.out.2.1 (by omega), hw, HX6.out.2.2.other hg HSN.out.2.1 (by omega)⟩
  have HS7 : Hid (w5.heap.size ≤ w7.heap.size) := Lib.hid (Nat.le_trans HS6.out hg.size)
  clear hw hg HB6 HX6 HS6
  go_wp2_with fail
  refine (HP0.out S w7 [] (N + 1 + 1) HB7.out HF0.out (Nat.le_succ_of_le (Nat.le_succ_of_le HNB.out)) HX7.out.2.2 (fun k hk => HSA.out k (Nat.le_trans HS7.out hk)) (by simp)).mono ?_
  rintro e w8 ⟨rfl, hw, hg⟩
  have HB8 := Lib.hid (below_set HB7.out (Nat.le_refl _) (Nat.le_succ_of_le (Nat.le_succ_of_le HNB.out)) hg)
  have HX8 : Hid (WIs S w8 N X0 ∧ WIs S w8 (N + 1) X1 ∧ WIs S w8 (N + 1 + 1) X0) := Lib.hid ⟨HX7.out.1.other hg HSN.out.2.2 (by omega), HX7.out.2.1.other hg HSN.out.2.2 (by omega), hw⟩
  have HS8 : Hid (w5.heap.size ≤ w8.heap.size) := Lib.hid (Nat.le_trans HS7.out hg.size)
  clear hw hg HB7 HX7 HS7
  go_wp2_with fail
  refine (wdone_any S w8 (N + 1 + 1) X0 HX8.out.2.2 (by rw [HL0.out]; omega)).mono ?_
  rintro e w9 ⟨he, hheap, hwf, hB⟩
  rw [HL0.out] at he
  subst he
  obtain ⟨g0, hg0⟩ : ∃ g0, w8.heap.size = g0 := ⟨_, rfl⟩
  obtain ⟨T, hTd⟩ : ∃ T : Nat → Prop, ∀ k, T k ↔ S k ∧ k ≠ g0 := ⟨_, fun _ => Iff.rfl⟩
  have hT8 : ∀ k, S k → k < w8.heap.size → T k := fun k h1 h2 => (hTd k).2 ⟨h1, by omega⟩
  have HTN : Hid (¬ T N ∧ ¬ T (N + 1) ∧ ¬ T (N + 1 + 1) ∧ ¬ T g0) := Lib.hid ⟨fun h => HSN.out.1 ((hTd _).1 h).1, fun h => HSN.out.2.1 ((hTd _).1 h).1, fun h => HSN.out.2.2 ((hTd _).1 h).1, fun h => ((hTd _).1 h).2 rfl⟩
  have HX9 : Hid (WIs T w9 N X0 ∧ WIs T w9 (N + 1) X1 ∧ WIs T w9 (N + 1 + 1) X0) := Lib.hid ⟨(HX8.out.1.tight hT8 HTN.out.1).stay (Stay.below hB), (HX8.out.2.1.tight hT8 HTN.out.2.1).stay (Stay.below hB), (HX8.out.2.2.tight hT8 HTN.out.2.2.1).stay (Stay.below hB)⟩
  have HB9 := Lib.hid (HB8.out.trans (hB.mono HB8.out.size))
  rw [hg0] at hheap
  have HH9 := Lib.hid hheap
  have hlt9 := heap_lt hheap
  have HTA : Hid (∀ k, w9.heap.size ≤ k → T k) := Lib.hid (fun k hk => (hTd k).2 ⟨HSA.out k (Nat.le_trans (Nat.le_trans HS8.out hB.size) hk), by omega⟩)
  have HG0 : Hid (w8.heap.size = g0 ∧ N + 1 + 1 < g0 ∧ w.heap.size ≤ g0) := Lib.hid (by have h1 := HS8.out; have h2 := HSZ5.out; have h3 := HNB.out; refine ⟨hg0, ?_, ?_⟩ <;> omega)
  clear hB hheap hwf HB8 HX8 HS8 hTd hT8 hlt9
  rw [hg0]
  clear hg0
  go_wp2_with fail
  refine (HP1.out T w9 X0 (N + 1 + 1) HB9.out HF1.out (Nat.le_succ_of_le (Nat.le_succ_of_le HNB.out)) HX9.out.2.2 HTA.out (by rw [HL0.out]; omega)).mono ?_
  rintro e w10 ⟨rfl, hw, hg⟩
  have HB10 := Lib.hid (below_set HB9.out (Nat.le_refl _) (Nat.le_succ_of_le (Nat.le_succ_of_le HNB.out)) hg)
  have HX10 : Hid (WIs T w10 N X0 ∧ WIs T w10 (N + 1) X1 ∧ WIs T w10 (N + 1 + 1) (X0 ++ X1)) := Lib.hid ⟨HX9.out.1.other hg HTN.out.2.2.1 (by omega), HX9.out.2.1.other hg HTN.out.2.2.1 (by omega), hw⟩
  have HH10 := Lib.hid (heap_kept HH9.out hg (fun e => by have := HG0.out; cases e; omega))
  clear hw hg HB9 HX9 HH9
  go_wp2
  go_loopw [31] (fun i wr => ∃ (k : Nat) (cur : Array Value), k ≤ L0 ∧ i = .int .i64 k ∧ Hid (wr.heap[g0]? = some (.cells cur 5 (0, 0))) ∧ Hid (cur.size = L0) ∧ Hid (∀ j, j < L0 → ∃ x, cur[j]? = some (.int .u8 x)) ∧ Hid (w10.grownBy wr (some g0))) (fun i _ => L0 - (intOf i).toNat)
  case atStart =>
    refine ⟨0, _, Nat.zero_le _, rfl, HH10, Lib.hid ?_, Lib.hid (fun j hj => ?_), Lib.hid (grown_refl _ _)⟩
    · rw [List.size_toArray, ivals_length, HL0.out]
    · refine ⟨X0.getD j 0, ?_⟩
      unfold ivals
      have hj' : j < X0.length := by rw [HL0.out]; exact hj
      rw [List.getElem?_toArray, List.getElem?_map, List.getElem?_eq_getElem hj']
      simp [List.getD, hj']
  case round =>
    obtain ⟨k, cur, hk, rfl, hh, hcs, hall, hgr⟩ := hrel
    by_cases hlt : k < L0
    · obtain ⟨x, hx⟩ := hall.out k hlt
      have hc := heap_cell hh.out hx
      have hf := heap_frozen hh.out k
      have hblk := heap_lt hh.out
      clear hx
      go_wp2
      go_roundw
      case rel =>
        refine ⟨k + 1, _, by omega, by go_num, Lib.hid (heap_set hh.out k _), Lib.hid (by simpa using hcs.out), Lib.hid (fun j hj => ?_), Lib.hid (hgr.out.trans (grown_set _ _ _ _))⟩
        rw [Array.getElem?_setIfInBounds]
        by_cases hjk : k = j
        · subst hjk
          rw [if_pos rfl, if_pos (by rw [hcs.out]; exact hlt)]
          exact ⟨_, rfl⟩
        · rw [if_neg hjk]; exact hall.out j hj
      case measure => simp [intOf]; omega
    · obtain rfl : k = L0 := by omega
      have HX11 : Hid (WIs T wr N X0 ∧ WIs T wr (N + 1) X1 ∧ WIs T wr (N + 1 + 1) (X0 ++ X1)) := Lib.hid (by
        have h1 := HG0.out
        exact ⟨HX10.out.1.other hgr.out HTN.out.2.2.2 (by omega), HX10.out.2.1.other hgr.out HTN.out.2.2.2 (by omega), HX10.out.2.2.other hgr.out HTN.out.2.2.2 (by omega)⟩)
      have HB11 := Lib.hid (below_set HB10.out (Nat.le_refl _) HG0.out.2.2 hgr.out)
      clear hh hcs hall hgr HX10 HH10 HB10
      go_wp2_with fail
      refine (wdone_any T wr (N + 1 + 1) (X0 ++ X1) HX11.out.2.2 (by rw [List.length_append, HL0.out, HL1.out]; omega)).mono ?_
      rintro e w12 ⟨he, hheap, hwf, hB⟩
      rw [List.length_append, HL0.out, HL1.out] at he
      subst he
      have HI12 : Hid (IntsAt .u8 w12.heap.size w12 (some ⟨wr.heap.size, 0, none⟩) wr.heap.size 0 (k + L1) (X0 ++ X1)) := Lib.hid (by
        have := whole_ints hheap hwf (by rw [List.length_append, HL0.out, HL1.out]; unfold maxLen; omega)
        rwa [List.length_append, HL0.out, HL1.out] at this)
      have HX12 : Hid (WIs T w12 N X0 ∧ WIs T w12 (N + 1) X1) := Lib.hid ⟨HX11.out.1.stay (Stay.below hB), HX11.out.2.1.stay (Stay.below hB)⟩
      have HB12 := Lib.hid (HB11.out.trans (hB.mono HB11.out.size))
      clear hB hheap hwf HX11 HB11
      generalize wr.heap.size = g1 at *
      go_wp2_with fail
      refine (wdone_any T w12 N X0 HX12.out.1 (by rw [HL0.out]; omega)).mono ?_
      rintro e w13 ⟨he, hheap, hwf, hB⟩
      rw [HL0.out] at he
      subst he
      have HP13 : Hid (PcAt w13 ⟨some ⟨w12.heap.size, 0, none⟩, k, w12.heap.size, 0, X0⟩) := Lib.hid ⟨whole_ints hheap hwf (by rw [HL0.out]; unfold maxLen; omega), (fun e => by cases e), Nat.le_of_eq HL0.out⟩
      have HI13 := Lib.hid ((HI12.out.kept hB (Nat.le_refl _)).mono hB.size)
      have HX13 : Hid (WIs T w13 (N + 1) X1) := Lib.hid (HX12.out.2.stay (Stay.below hB))
      have HB13 := Lib.hid (HB12.out.trans (hB.mono HB12.out.size))
      clear hB hheap hwf HX12 HB12 HI12
      generalize w12.heap.size = g2 at *
      go_wp2_with fail
      refine (wdone_any T w13 (N + 1) X1 HX13.out (by rw [HL1.out]; omega)).mono ?_
      rintro e w14 ⟨he, hheap, hwf, hB⟩
      rw [HL1.out] at he
      subst he
      have HQ14 : Hid (PcAt w14 ⟨some ⟨w13.heap.size, 0, none⟩, L1, w13.heap.size, 0, X1⟩) := Lib.hid ⟨whole_ints hheap hwf (by rw [HL1.out]; unfold maxLen; omega), (fun e => by cases e), Nat.le_of_eq HL1.out⟩
      have HP14 := Lib.hid (HP13.out.kept hB)
      have HI14 := Lib.hid ((HI13.out.kept hB (Nat.le_refl _)).mono hB.size)
      have HB14 := Lib.hid (HB13.out.trans (hB.mono HB13.out.size))
      clear hB hheap hwf HX13 HB13 HI13 HP13
      generalize w13.heap.size = g3 at *
      have HJ := Lib.hid (join2_any w14 w14.heap.size k L1 _ _ HP14.out HQ14.out HL0.out HL1.out rfl (by omega) (by omega))
      go_wp2_with fail
      refine HJ.out.mono ?_
      rintro e w15 ⟨v, rfl, hgt, hB⟩
      have hwfa : ∀ x ∈ X0 ++ X1, (Lit.int .u8 x).wf = true := HI14.out.fits
      obtain ⟨a5, cap5, b5, rfl, hc1, hc2, hb5, HI⟩ := hgt.ints rfl hwfa
      rw [List.length_append, HL0.out, HL1.out] at HI ⊢
      have HSAME := Lib.hid (same_yes (HI14.out.kept hB (Nat.le_refl _)) HI (k + L1) cap5)
      have HB15 := Lib.hid (HB14.out.trans (hB.mono HB14.out.size))
      clear hB hgt HI hc1 hc2 hb5 hwfa HI14 HB14
      go_wp2_with fail
      refine HSAME.out.mono ?_
      rintro e w16 ⟨rfl, rfl⟩
      go_wp2
      go_ret
      exact ⟨rfl, HB15.out⟩
end Go.Proofs.Ytlnocekiaffbpaa
