/- The walk of WireStays: behind a fault all is nothing. -/
import Derived.Test.YtlnocekiaffbpaaOr
import Derived.Test.YtlnocekiaffbpaaJo
import Derived.Deep.RegionHeld3
set_option linter.unusedVariables false
namespace Go.Proofs.Ytlnocekiaffbpaa
open Go.RowKit

/-- The state of a reader behind the fault. -/
def sF : RS := ⟨0, 20, 0⟩
theorem f_rnum (zs : List Int) : rnum zs sF = (sF, 0, 0) := rfl
theorem f_rtake (zs : List Int) (h n : Nat) : rtake zs h n sF = (sF, []) := rfl
theorem f_rbnd (zs : List Int) (most : Int) : rbnd zs most sF = (sF, 0, 0) := by
  unfold rbnd
  rw [f_rnum]
  split <;> rfl
theorem f_rend (zs : List Int) : rend zs sF = sF := by unfold rend; split <;> rfl
theorem f_fixed {w : World} {R : Nat} {zs : List Int} (h : RIs w R zs sF) : Calls Try.prog 33 #[.pointer (some ⟨R, 0, none⟩)] w fun e w' => e = .returned (.int .u32 0) ∧ RIs w' R zs sF ∧ w.grownBy w' (some R) := by
  have := rfixed_any w R zs sF h
  exact this
theorem f_count {w : World} {R : Nat} {zs : List Int} (m : Int) (h0 : -5 ≤ m) (h1 : m ≤ 300) (h : RIs w R zs sF) : Calls Try.prog 34 #[.pointer (some ⟨R, 0, none⟩), .int .i64 m] w fun e w' => e = .returned (.int .i64 0) ∧ RIs w' R zs sF ∧ w.grownBy w' (some R) := by
  have := rcount_any w R zs sF m (max m 0).toNat (by omega) (by omega) (by omega) h
  rw [f_rbnd] at this
  exact this
theorem f_num {w : World} {R : Nat} {zs : List Int} (h : RIs w R zs sF) : Calls Try.prog 35 #[.pointer (some ⟨R, 0, none⟩)] w fun e w' => e = .returned (.int .i64 0) ∧ RIs w' R zs sF ∧ w.grownBy w' (some R) := by
  have := rnumb_any w R zs sF h
  rw [f_rnum] at this
  exact this
theorem f_text {w : World} {R : Nat} {zs : List Int} (m : Int) (h0 : -5 ≤ m) (h1 : m ≤ 300) (h : RIs w R zs sF) : Calls Try.prog 36 #[.pointer (some ⟨R, 0, none⟩), .int .i64 m] w fun e w' => e = .returned (.string ⟨#[]⟩) ∧ RIs w' R zs sF ∧ w.grownBy w' (some R) := by
  have := rtext_any w R zs sF m (by omega) (by omega) h
  rw [show rtext zs m sF = (sF, []) by unfold rtext; rw [f_rbnd]; rfl] at this
  exact this
def EmptyPost (w : World) (R : Nat) (zs : List Int) (s : RS) (e : Ending) (w' : World) : Prop := ∃ a cap, e = .returned (.slice a 0 cap) ∧ RIs w' R zs s ∧ w.grownBy w' (some R)
theorem f_raw {w : World} {R : Nat} {zs : List Int} (m : Int) (h0 : -5 ≤ m) (h1 : m ≤ 300) (hz : zs.length ≤ 200) (h : RIs w R zs sF) : Calls Try.prog 31 #[.pointer (some ⟨R, 0, none⟩), .int .i64 m] w (EmptyPost w R zs sF) := by
  have := rraw_any w R zs sF m (max m 0).toNat (by omega) (by omega) (by omega) (by omega) h
  rw [f_rtake] at this
  refine this.mono ?_
  rintro e w' ⟨a, b, cap, rfl, _, _, _, _, hr, hg, _⟩
  exact ⟨a, cap, rfl, hr, hg⟩
theorem f_end {w : World} {R : Nat} {zs : List Int} (h : RIs w R zs sF) : Calls Try.prog 28 #[.pointer (some ⟨R, 0, none⟩)] w fun e w' => e = .returned (.tuple #[]) ∧ RIs w' R zs sF ∧ w.grownBy w' (some R) := by
  have := rend_any w R zs sF h
  rw [f_rend] at this
  exact this
theorem f_first {w : World} {R : Nat} {zs : List Int} (n : Int) (hn : n = (zs.length : Int) + 1) (hz : zs.length ≤ 200) (h : RIs w R zs ⟨0, 0, 0⟩) : Calls Try.prog 31 #[.pointer (some ⟨R, 0, none⟩), .int .i64 n] w (EmptyPost w R zs sF) := by
  have := rraw_any w R zs ⟨0, 0, 0⟩ n (zs.length + 1) (by omega) (by omega) (by omega) (by omega) h
  rw [show rtake zs 0 (zs.length + 1) ⟨0, 0, 0⟩ = (sF, []) by unfold rtake; rw [if_pos rfl, if_pos (by simp only; omega)]; rfl] at this
  refine this.mono ?_
  rintro e w' ⟨a, b, cap, rfl, _, _, _, _, hr, hg, _⟩
  exact ⟨a, cap, rfl, hr, hg⟩

theorem f_at {w : World} {R : Nat} {zs : List Int} (h : RIs w R zs sF) : Calls Try.prog 30 #[.pointer (some ⟨R, 0, none⟩)] w fun e w' => e = .returned (.int .i64 0) ∧ w = w' := rat_any w R zs sF h
theorem f_fault {w : World} {R : Nat} {zs : List Int} (h : RIs w R zs sF) : Calls Try.prog 29 #[.pointer (some ⟨R, 0, none⟩)] w fun e w' => e = .returned (.agg #[.int .i64 20, .int .i64 0]) ∧ Below w.heap.size w w' := rfault_any w R zs sF h
/-- What stays through the steps. -/
structure St (w : World) (FB R : Nat) (z : List Int) (W : World) : Prop where
  r : RIs W R z sF
  box : W.heap[FB]? = some (.cells #[.int .i64 20, .int .i64 0] 49 (0, 0))
  below : Below w.heap.size w W
theorem St.row {w W W' : World} {FB R : Nat} {z : List Int} (h : St w FB R z W) (hR : w.heap.size ≤ R) (hne : R < FB) (hg : W.grownBy W' (some R)) (hr : RIs W' R z sF) : St w FB R z W' :=
  ⟨hr, heap_kept h.box hg (fun e => by cases e; omega), below_set h.below (Nat.le_refl _) hR hg⟩
theorem St.new {w W W' : World} {FB R : Nat} {z : List Int} (h : St w FB R z W) (hb : Below W.heap.size W W') : St w FB R z W' :=
  ⟨h.r.stay hb, heap_below h.box hb (heap_lt h.box), h.below.trans (hb.mono h.below.size)⟩

set_option maxHeartbeats 1000000 in
theorem walk_WireStays (a0 : Option Addr) (len0 cap0 : Nat) (z0 : List Int) (a1 : Option Addr) (len1 cap1 : Nat) (z1 : List OpV) (w : World) (w0 : IsRow .u8 w a0 len0 cap0 z0) (w1 : IsOps w a1 len1 cap1 z1) :
    Calls Try.prog 5 #[.slice a0 len0 cap0, .slice a1 len1 cap1] w fun e w' => e = .returned (.bool true) ∧ Below w.heap.size w w' := by
  have hcap := w0.cap
  have hnil : a0 = none → len0 = 0 ∧ cap0 = 0 := by
    intro h; subst h; exact w0.nil
  obtain ⟨b, off, hi⟩ := w0.ints
  obtain ⟨hc1, b1, off1, h1⟩ := w1
  clear w0
  have hm := hi.small
  have hm1 := h1.small
  unfold maxLen at hm hm1
  have HZL := Lib.hid hi.length
  have HO := Lib.hid (fun (W : World) (hB : Below w.heap.size w W) (hs : len0 ≤ 200) => open_any (cap := cap0) (hi.kept hB (Nat.le_refl _)) hnil (by omega))
  have H1 := Lib.hid h1
  clear hi h1 hnil
  generalize z0.take len0 = z at *
  by_cases h200 : 200 < len0
  · go_enter Try.func5, Try.ntmps5
    go_wp2_with fail
    refine (walive_any _).mono ?_
    rintro e w2 ⟨rfl, hB2⟩
    have HB2 := Lib.hid hB2
    clear hB2
    go_wp2
    go_ret
    exact ⟨rfl, HB2.out⟩
  by_cases h40 : 40 < len1
  · go_enter Try.func5, Try.ntmps5
    go_wp2_with fail
    refine (walive_any _).mono ?_
    rintro e w2 ⟨rfl, hB2⟩
    have HB2 := Lib.hid hB2
    clear hB2
    go_wp2
    go_ret
    exact ⟨rfl, HB2.out⟩
  go_enter Try.func5, Try.ntmps5
  go_wp2_with fail
  refine (walive_any _).mono ?_
  rintro e w2 ⟨rfl, hB2⟩
  have HB2 := Lib.hid hB2
  clear hB2
  go_wp2_with fail
  refine (HO.out _ HB2.out (by omega)).mono ?_
  rintro e w3 ⟨R, rfl, hR, hr, hB⟩
  have HB3 := Lib.hid (HB2.out.trans (hB.mono HB2.out.size))
  have HRW : Hid (w.heap.size ≤ R) := Lib.hid (Nat.le_trans HB2.out.size hR)
  have HF := Lib.hid (f_first ((len0 : Int) + 1) (by rw [HZL.out]) (by rw [HZL.out]; omega) hr)
  clear hr hB hR HB2
  go_wp2_with fail
  refine HF.out.mono ?_
  rintro e w4 ⟨a4, c4, rfl, hr, hg⟩
  have HB4 := Lib.hid (below_set HB3.out (Nat.le_refl _) HRW.out hg)
  have HR4 := Lib.hid hr
  clear hr hg HB3 HF
  go_wp2_with fail
  refine (rfault_any w4 R z _ HR4.out).mono ?_
  rintro e w5 ⟨rfl, hB⟩
  have HB5 := Lib.hid (HB4.out.trans (hB.mono HB4.out.size))
  have HR5 := Lib.hid (HR4.out.stay hB)
  clear hB HB4 HR4
  have hRF : R < w5.heap.size := by obtain ⟨_, _, _, _, hra⟩ := HR5.out; exact heap_lt hra.box
  have hWF : w.heap.size ≤ w5.heap.size := HB5.out.size
  have hb6 : Below w5.heap.size w5 (w5.alloc (.cells #[.int .i64 20, .int .i64 0] 49)) := (Below.refl _ _).alloc (Nat.le_refl _) _
  have HS6 : Hid (St w w5.heap.size R z (w5.alloc (.cells #[.int .i64 20, .int .i64 0] 49))) := Lib.hid ⟨HR5.out.stay hb6, heap_new _ rfl, HB5.out.trans (hb6.mono HB5.out.size)⟩
  clear HR5 HB5 hb6
  have e20 : sF.e = 20 := rfl
  have e00 : sF.fa = 0 := rfl
  go_wp2_with fail
  clear e20 e00
  generalize w5.alloc (.cells #[.int .i64 20, .int .i64 0] 49) = w6 at *
  generalize w5.heap.size = FB at *
  refine (f_at HS6.out.r).mono ?_
  rintro e w7 ⟨rfl, rfl⟩
  go_wp2
  go_loopw [39] (fun i wr => ∃ k : Nat, k ≤ len1 ∧ i = .int .i64 k ∧ Hid (St w FB R z wr)) (fun i _ => len1 - (intOf i).toNat)
  case atStart => exact ⟨0, Nat.zero_le _, rfl, HS6⟩
  case round =>
    obtain ⟨k, hk, rfl, hst⟩ := hrel
    by_cases hlt : k < len1
    · obtain ⟨o, ho, hmem⟩ := nth_op H1.out.length hlt
      obtain ⟨c0, c1, c2⟩ := (H1.out.kept hst.out.below (Nat.le_refl _)).cell k o ho
      obtain ⟨-, ⟨hn0, hn1⟩, -⟩ := H1.out.ok o hmem
      have hblk : b1 < wr.heap.size := by have := H1.out.below; have := hst.out.below.size; omega
      obtain rfl : a1 = some ⟨b1, off1, none⟩ := H1.out.addr.resolve_left (by omega)
      clear ho hmem
      obtain ⟨kind, n, s⟩ := o
      simp only at c0 c1 c2 hn0 hn1
      have HN : Hid (∀ o, St w FB R z (wr.alloc o)) := Lib.hid (fun o => hst.out.new ((Below.refl _ _).alloc (Nat.le_refl _) _))
      have HSTEP : Hid (∀ W W', St w FB R z W → W.grownBy W' (some R) → RIs W' R z sF → St w FB R z W') := Lib.hid (fun W W' h hg hr => h.row HRW.out hRF hg hr)
      go_wp2_with fail
      refine (held_any n (-5) 300 _ (by decide) hn0 hn1).mono ?_
      rintro e w8 ⟨m, hm0, hm1', rfl, rfl⟩
      go_wp2_with fail
      refine (f_fixed (HN.out _).r).mono ?_
      rintro e w8 ⟨rfl, hr, hg⟩
      have HS8 := Lib.hid (HSTEP.out _ _ (HN.out _) hg hr)
      clear hr hg HN
      go_wp2_with fail
      refine (f_count m hm0 hm1' HS8.out.r).mono ?_
      rintro e w9 ⟨rfl, hr, hg⟩
      have HS9 := Lib.hid (HSTEP.out _ _ HS8.out hg hr)
      clear hr hg HS8
      go_wp2_with fail
      refine (f_num HS9.out.r).mono ?_
      rintro e w10 ⟨rfl, hr, hg⟩
      have HS10 := Lib.hid (HSTEP.out _ _ HS9.out hg hr)
      clear hr hg HS9
      go_wp2_with fail
      refine (f_text m hm0 hm1' HS10.out.r).mono ?_
      rintro e w11 ⟨rfl, hr, hg⟩
      have HS11 := Lib.hid (HSTEP.out _ _ HS10.out hg hr)
      clear hr hg HS10
      go_wp2_with fail
      refine (f_raw m hm0 hm1' (by rw [HZL.out]; omega) HS11.out.r).mono ?_
      rintro e w12 ⟨a12, c12, rfl, hr, hg⟩
      have HS12 := Lib.hid (HSTEP.out _ _ HS11.out hg hr)
      clear hr hg HS11
      go_wp2_with fail
      refine (f_end HS12.out.r).mono ?_
      rintro e w13 ⟨rfl, hr, hg⟩
      have HS13 := Lib.hid (HSTEP.out _ _ HS12.out hg hr)
      clear hr hg HS12
      go_wp2
      go_roundw
      case rel => exact ⟨k + 1, by omega, by go_num, HS13⟩
      case measure => simp [intOf]; omega
    · go_wp2
      obtain ⟨f0, f1, -, -⟩ := two_cells hst.out.box
      have hFlt := heap_lt hst.out.box
      go_region_with ((first
        | (go_at_call 29; refine (f_fault (hst.out.new (Below.refl _ _).drew).r).mono ?_; rintro e w8 ⟨rfl, hB8⟩; have f0' := (hB8.cell (p := ⟨FB, 0, none⟩) hFlt).trans f0; have f1' := (hB8.cell (p := ⟨FB, 1, none⟩) hFlt).trans f1; have HS8 := Lib.hid ((hst.out.new (Below.refl _ _).drew).new hB8); clear hB8)
        | (go_at_call 30; refine (f_at HS8.out.r).mono ?_; rintro e w9 ⟨rfl, rfl⟩)))
      all_goals
        go_wp2
        go_ret
        exact ⟨rfl, HS8.out.below⟩
end Go.Proofs.Ytlnocekiaffbpaa
