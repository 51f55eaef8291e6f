/- The walk of WireBack. -/
import Derived.Test.YtlnocekiaffbpaaBr
import Derived.Test.YtlnocekiaffbpaaWx
set_option linter.unusedVariables false
namespace Go.Proofs.Ytlnocekiaffbpaa
open Go.RowKit

theorem opC_len (o : OpV) (h : o.s.size ≤ 60) : (opC o).length ≤ 70 := by
  have hp : ∀ n, (putF n).length ≤ 10 := fun n => (putL_length 9 n).2
  unfold opC
  split
  · rw [fixF_length]; omega
  split
  · have := hp (o.n % 65536).toNat; omega
  split
  · have := hp (foldF o.n).toNat; omega
  · rw [List.length_append, strI_length]; have := hp o.s.size; omega
theorem flat_fewC {ops : List OpV} (h : fewF ops) : (ops.flatMap opC).length ≤ 2800 := by
  have h1 := flat_len opC 70 ops (fun o ho => opC_len o (h.1 o ho))
  have := h.2
  omega

set_option maxRecDepth 100000 in
set_option maxHeartbeats 4000000 in
theorem walk_WireBack (a0 : Option Addr) (len0 cap0 : Nat) (z0 : List OpV) (cut : Int) (w : World) (w0 : IsOps w a0 len0 cap0 z0) (wc : (Lit.int .i64 cut).wf = true) :
    Calls Try.prog 4 #[.slice a0 len0 cap0, .int .i64 cut] w fun e w' => e = .returned (.bool true) ∧ Below w.heap.size w w' := by
  obtain ⟨hc0, b0, off0, h0⟩ := w0
  have H0 := Lib.hid (fun W (hb : Below w.heap.size w W) => few_any W a0 b0 off0 len0 cap0 z0 (h0.now hb) hc0)
  have hbl0 := h0.below
  have HRD : Hid (∀ W R zs s, Below w.heap.size w W → fewF z0 → w.heap.size ≤ R → RIs W R zs s → Calls Try.prog 27 #[.pointer (some ⟨R, 0, none⟩), .slice a0 len0 cap0] W (ReadPost W R zs (rdAll zs z0 s))) :=
    Lib.hid (fun W R zs s hb hf hR hr => read_any W R zs s a0 b0 off0 len0 cap0 z0 (h0.now hb) (by omega) hf hr)
  have H1 := Lib.hid h0
  have hand : bits .and .i64 cut 65535 = cut % 65536 := i64_and65535 cut
  clear h0 hbl0
  go_enter Try.func4, Try.ntmps4
  go_wp2_with fail
  refine (walive_any _).mono ?_
  rintro e w2 ⟨rfl, hB2⟩
  have HB2 := Lib.hid hB2
  clear hB2
  go_wp2_with fail
  refine (H0.out _ HB2.out).mono ?_
  rintro e w3 ⟨hf0 | rfl, hB⟩
  rotate_left
  · have HB3 := Lib.hid (HB2.out.trans (hB.mono HB2.out.size))
    clear hB
    go_wp2
    go_ret
    exact ⟨rfl, HB3.out⟩
  obtain ⟨rfl, hf0⟩ := hf0
  have HB3 := Lib.hid (HB2.out.trans (hB.mono HB2.out.size))
  have HF0 := Lib.hid hf0
  have hl40 : len0 ≤ 40 := by have := H1.out.length; have := hf0.2; omega
  have HLEN : Hid (∀ k, ((z0.take k).flatMap opC).length ≤ 2800) := Lib.hid (fun k => by
    have h1 := flat_len opC 70 (z0.take k) (fun o ho => opC_len o (HF0.out.1 o (List.mem_of_mem_take ho)))
    have h2 : (z0.take k).length ≤ 40 := by rw [List.length_take]; have := HF0.out.2; omega
    omega)
  clear hB hf0 H0 HB2
  obtain ⟨S, hSd⟩ : ∃ S : Nat → Prop, ∀ k, S k ↔ w3.heap.size < k := ⟨_, fun _ => Iff.rfl⟩
  have HS : Hid (∀ k, w3.heap.size < k → S k) := Lib.hid (fun k h => (hSd k).2 h)
  have HW0 : Hid (WIs S (w3.alloc (.cells #[.pointer none, .int .i64 0] 27)) w3.heap.size []) := Lib.hid (wis_new S w3 _ rfl (fun h => Nat.lt_irrefl _ ((hSd _).1 h)))
  have HN : Hid (w.heap.size ≤ w3.heap.size) := Lib.hid HB3.out.size
  have HB4 : Hid (Below w.heap.size w (w3.alloc (.cells #[.pointer none, .int .i64 0] 27))) := Lib.hid (HB3.out.alloc HB3.out.size _)
  clear hSd
  go_wp2
  go_loopw [18] (fun i wr => ∃ k : Nat, k ≤ len0 ∧ i = .int .i64 k ∧ Hid (WIs S wr w3.heap.size ((z0.take k).flatMap opC)) ∧ Hid (Below w.heap.size w wr)) (fun i _ => len0 - (intOf i).toNat)
  case atStart => exact ⟨0, Nat.zero_le _, rfl, Lib.hid (by simpa using HW0.out), HB4⟩
  case round =>
    obtain ⟨k, hk, rfl, hw, hB⟩ := hrel
    by_cases hlt : k < len0
    · obtain ⟨o, ho, hmem⟩ := nth_op H1.out.length hlt
      have HO := Lib.hid ho
      obtain ⟨c0, c1, c2⟩ := (H1.out.kept hB.out (Nat.le_refl _)).cell k o ho
      have hss := HF0.out.1 o hmem
      obtain ⟨-, ⟨hn0, hn1⟩, -⟩ := H1.out.ok o hmem
      have hblk : b0 < wr.heap.size := by have := H1.out.below; have := hB.out.size; omega
      have hNlt : w3.heap.size < wr.heap.size := hw.out.lt
      obtain rfl : a0 = some ⟨b0, off0, none⟩ := H1.out.addr.resolve_left (by omega)
      clear ho hmem
      obtain ⟨kind, n, s⟩ := o
      simp only at c0 c1 c2 hss hn0 hn1
      have HS1 : Hid (∀ o : Obj, ∀ j, (wr.alloc o).heap.size ≤ j → S j) := Lib.hid (fun o j hj => HS.out j (by simp at hj; omega))
      have HST : Hid (∀ o : Obj, WIs S (wr.alloc o) w3.heap.size ((z0.take k).flatMap opC)) := Lib.hid (fun o => hw.out.stay (Stay.below ((Below.refl _ _).alloc (Nat.le_refl _) _)))
      have hll := HLEN.out k
      have HEND : Hid (∀ (o : Obj) (w2 : World) (xs : List Int), opC ⟨kind, n, s⟩ = xs → WIs S w2 w3.heap.size ((z0.take k).flatMap opC ++ xs) → (wr.alloc o).grownBy w2 (some w3.heap.size) → Hid (WIs S w2 w3.heap.size ((z0.take (k + 1)).flatMap opC)) ∧ Hid (Below w.heap.size w w2)) := Lib.hid (fun o w2 xs e h1 h2 => by
        subst e
        refine ⟨?_, below_set (hB.out.alloc hB.out.size o) (Nat.le_refl _) HN.out h2⟩
        show WIs S w2 w3.heap.size _
        rw [flat_take opC HO.out]; exact h1)
      clear hw hB
      by_cases k0 : kind = 0
      · have hb0 : (kind == 0) = true := by simp [k0]
        have HB : Hid (opC ⟨kind, n, s⟩ = fixF (n % 4294967296)) := Lib.hid (by unfold opC; rw [if_pos k0])
        have HC := Lib.hid (fun o : Obj => wfixed_any S (wr.alloc o) _ _ (n % 4294967296) (by omega) (by omega) (HST.out o) (HS1.out o) (by omega))
        clear k0 hll
        go_wp2_with fail
        refine (HC.out _).mono ?_
        rintro e w5 ⟨rfl, hw2, hg2⟩
        have HE := HEND.out _ _ _ HB.out hw2 hg2
        clear hw2 hg2
        go_wp2
        go_roundw
        case rel => exact ⟨k + 1, by omega, by go_num, HE.1, HE.2⟩
        case measure => simp [intOf]; omega
      have hb0 : (kind == 0) = false := by simp [k0]
      by_cases k1 : kind = 1
      · have hb1 : (kind == 1) = true := by simp [k1]
        have HB : Hid (opC ⟨kind, n, s⟩ = putF (n % 65536).toNat) := Lib.hid (by unfold opC; rw [if_neg k0, if_pos k1])
        have handn : bits .and .i64 n 65535 = n % 65536 := i64_and65535 n
        have HC := Lib.hid (fun o : Obj => wcount_any S (wr.alloc o) _ _ (n % 65536) (n % 65536).toNat (by omega) (by omega) (by omega) (HST.out o) (HS1.out o) (by omega))
        clear k0 k1 hll
        go_wp2_with fail
        refine (HC.out _).mono ?_
        rintro e w5 ⟨rfl, hw2, hg2⟩
        have HE := HEND.out _ _ _ HB.out hw2 hg2
        clear hw2 hg2 handn
        go_wp2
        go_roundw
        case rel => exact ⟨k + 1, by omega, by go_num, HE.1, HE.2⟩
        case measure => simp [intOf]; omega
      have hb1 : (kind == 1) = false := by simp [k1]
      by_cases k2 : kind = 2
      · have hb2 : (kind == 2) = true := by simp [k2]
        have HB : Hid (opC ⟨kind, n, s⟩ = putF (foldF n).toNat) := Lib.hid (by unfold opC; rw [if_neg k0, if_neg k1, if_pos k2])
        have HC := Lib.hid (fun o : Obj => wnum_any S (wr.alloc o) _ _ n (foldF n).toNat (by have := (fold_bd hn0 hn1).1; omega) (by omega) (by omega) (HST.out o) (HS1.out o) (by omega))
        clear k0 k1 k2 hll
        go_wp2_with fail
        refine (HC.out _).mono ?_
        rintro e w5 ⟨rfl, hw2, hg2⟩
        have HE := HEND.out _ _ _ HB.out hw2 hg2
        clear hw2 hg2
        go_wp2
        go_roundw
        case rel => exact ⟨k + 1, by omega, by go_num, HE.1, HE.2⟩
        case measure => simp [intOf]; omega
      have hb2 : (kind == 2) = false := by simp [k2]
      have HB : Hid (opC ⟨kind, n, s⟩ = putF s.size ++ strI s) := Lib.hid (by unfold opC; rw [if_neg k0, if_neg k1, if_neg k2])
      have HC := Lib.hid (fun o : Obj => wtext_any S (wr.alloc o) _ _ s (by omega) (HST.out o) (HS1.out o) (by omega))
      clear k0 k1 k2 hll
      go_wp2_with fail
      refine (HC.out _).mono ?_
      rintro e w5 ⟨rfl, hw2, hg2⟩
      have HE := HEND.out _ _ _ HB.out hw2 hg2
      clear hw2 hg2
      go_wp2
      go_roundw
      case rel => exact ⟨k + 1, by omega, by go_num, HE.1, HE.2⟩
      case measure => simp [intOf]; omega
    · obtain rfl : k = len0 := by omega
      have HT : Hid (z0.take k = z0) := Lib.hid (by rw [List.take_of_length_le (by rw [H1.out.length]; exact Nat.le_refl _)])
      have hw2 := hw.out
      rw [HT.out] at hw2
      have hll := HLEN.out k
      rw [HT.out] at hll
      have HGOOD : Hid (rdAll (z0.flatMap opC) z0 ⟨0, 0, 0⟩ = (⟨(z0.flatMap opC).length, 0, 0⟩, true)) := Lib.hid (all_good (z0.flatMap opC) z0 [] H1.out.ok HF0.out.1 rfl)
      have HCUT : Hid (∀ d, d < (z0.flatMap opC).length → (rdAll ((z0.flatMap opC).take d) z0 ⟨0, 0, 0⟩).2 = false ∧ (rdAll ((z0.flatMap opC).take d) z0 ⟨0, 0, 0⟩).1.e = 20) := Lib.hid (fun d hd => all_cut ((z0.flatMap opC).take d) z0 [] d H1.out.ok HF0.out.1 hd rfl)
      generalize z0.flatMap opC = zs at *
      have HWK := Lib.hid hw2
      clear hw hw2 HT HW0 HB3 HB4 HLEN
      obtain ⟨L, hL⟩ : ∃ L, zs.length = L := ⟨_, rfl⟩
      rw [hL] at hll
      have HL := Lib.hid hL
      clear hL
      go_wp2_with fail
      refine (wdone_any S wr _ zs HWK.out (by rw [HL.out]; omega)).mono ?_
      rintro e w5 ⟨he, hheap, hwf, hBd⟩
      rw [HL.out] at he
      subst he
      have HI5 : Hid (IntsAt .u8 w5.heap.size w5 (some ⟨wr.heap.size, 0, none⟩) wr.heap.size 0 L zs) := Lib.hid (by
        have := whole_ints hheap hwf (by rw [HL.out]; unfold maxLen; omega)
        rwa [HL.out] at this)
      have HB5 := Lib.hid (hB.out.trans (hBd.mono hB.out.size))
      clear hB hBd hheap hwf HWK
      generalize wr.heap.size = g at *
      go_wp2_with fail
      refine (open_any (cap := L) HI5.out (fun e => by cases e) (by omega)).mono ?_
      rintro e w6 ⟨R, rfl, hR, hr, hB⟩
      have HR0 : Hid (w.heap.size ≤ R) := Lib.hid (Nat.le_trans HB5.out.size hR)
      have HB6 := Lib.hid (HB5.out.trans (hB.mono HB5.out.size))
      have HI6 := Lib.hid ((HI5.out.kept hB (Nat.le_refl _)).mono hB.size)
      have HRK := Lib.hid (HRD.out _ R zs _ HB6.out HF0.out HR0.out hr)
      have hgw : g < w5.heap.size ∨ L = 0 := by have := HI5.out.below; omega
      have HGR : Hid (L = 0 ∨ g < R) := Lib.hid (by omega)
      clear hB hR hr HI5 HB5 hgw
      rw [HGOOD.out] at HRK
      go_wp2_with fail
      refine HRK.out.mono ?_
      rintro e w7 ⟨rfl, hr, hg⟩
      have HI7 : Hid (IntsAt .u8 w7.heap.size w7 (some ⟨g, 0, none⟩) g 0 L zs) := Lib.hid (HI6.out.stay (S := fun k => k ≠ R) (Stay.grown hg (fun k e hk => hk (by cases e; rfl))) (by have := HGR.out; omega))
      have HB7 := Lib.hid (below_set HB6.out (Nat.le_refl _) HR0.out hg)
      have HE := rend_any w7 R zs _ hr
      rw [show rend zs ⟨zs.length, 0, 0⟩ = ⟨zs.length, 0, 0⟩ by unfold rend; rw [if_neg (by simp)]] at HE
      have HE2 := Lib.hid HE
      clear hr hg HE HI6 HB6 HRK
      go_wp2_with fail
      refine HE2.out.mono ?_
      rintro e w8 ⟨rfl, hr, hg⟩
      have HI8 : Hid (IntsAt .u8 w8.heap.size w8 (some ⟨g, 0, none⟩) g 0 L zs) := Lib.hid (HI7.out.stay (S := fun k => k ≠ R) (Stay.grown hg (fun k e hk => hk (by cases e; rfl))) (by have := HGR.out; omega))
      have HB8 := Lib.hid (below_set HB7.out (Nat.le_refl _) HR0.out hg)
      have HR8 := Lib.hid hr
      clear hr hg HE2 HI7 HB7
      go_wp2_with fail
      refine (rfault_any w8 R zs _ HR8.out).mono ?_
      rintro e w9 ⟨rfl, hB⟩
      have HI9 := Lib.hid ((HI8.out.kept hB (Nat.le_refl _)).mono hB.size)
      have HB9 := Lib.hid (HB8.out.trans (hB.mono HB8.out.size))
      have HA := rat_any w9 R zs _ (HR8.out.stay hB)
      rw [show (RS.mk zs.length 0 0).pos = L from HL.out] at HA
      have HA9 := Lib.hid HA
      clear hB HA HI8 HB8 HR8
      go_wp2_with fail
      refine HA9.out.mono ?_
      rintro e w10 ⟨rfl, rfl⟩
      by_cases hL0 : L = 0
      · subst hL0
        go_wp2
        go_ret
        exact ⟨rfl, HB9.out⟩
      · obtain ⟨d, hd⟩ : ∃ d : Nat, cut % 65536 % (L : Int) = (d : Int) := ⟨(cut % 65536 % (L : Int)).toNat, by have := Int.emod_nonneg (cut % 65536) (show (L : Int) ≠ 0 by omega); omega⟩
        have hdL : d < L := by have := Int.emod_lt_of_pos (cut % 65536) (show (0 : Int) < (L : Int) by omega); omega
        have HO := Lib.hid (open_any (cap := L) (HI9.out.take d (by omega)) (fun e => by cases e) (by omega))
        obtain ⟨hc1, hc2⟩ := HCUT.out d (by rw [HL.out]; exact hdL)
        have HC1 := Lib.hid (And.intro hc1 hc2)
        clear hc1 hc2
        go_wp2_with fail
        refine HO.out.mono ?_
        rintro e w11 ⟨R2, rfl, hR, hr, hB⟩
        have HR2 : Hid (w.heap.size ≤ R2) := Lib.hid (Nat.le_trans HB9.out.size hR)
        have HB11 := Lib.hid (HB9.out.trans (hB.mono HB9.out.size))
        have HRK2 := Lib.hid (HRD.out _ R2 (zs.take d) _ HB11.out HF0.out HR2.out hr)
        clear hB hR hr HI9 HB9 HO
        go_wp2_with fail
        refine HRK2.out.mono ?_
        rintro e w12 ⟨he, hr, hg⟩
        rw [HC1.out.1] at he
        subst he
        have HB12 := Lib.hid (below_set HB11.out (Nat.le_refl _) HR2.out hg)
        have HFT := rfault_any w12 R2 _ _ hr
        unfold FaultPost at HFT
        rw [HC1.out.2] at HFT
        generalize (rdAll (zs.take d) z0 ⟨0, 0, 0⟩).1.fa = fa at *
        have HFT2 := Lib.hid HFT
        clear hr hg HFT HC1 HB11
        go_wp2_with fail
        refine HFT2.out.mono ?_
        rintro e w13 ⟨rfl, hB⟩
        have HB13 := Lib.hid (HB12.out.trans (hB.mono HB12.out.size))
        have hfl := run_faultE 20 fa
        clear hB HFT2 HB12
        go_wp2
        go_ret
        exact ⟨rfl, HB13.out⟩
end Go.Proofs.Ytlnocekiaffbpaa
