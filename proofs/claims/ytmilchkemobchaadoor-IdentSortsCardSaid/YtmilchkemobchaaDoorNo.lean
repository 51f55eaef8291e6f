/- Contract: layer 5's example. -/
import Derived.Test.YtmilchkemobchaaDoorNl
import Derived.Deep.RegionHeld3
import Derived.Deep.Cut
set_option linter.unusedVariables false
set_option linter.unusedSectionVars false
namespace Go.Proofs.YtmilchkemobchaaDoor
open Go.RowKit Go.Shelf Ss

theorem below_drewN {a : Nat} {w W : World} (h : Below a w W) (n : Nat) : Below a w (W.drewN n) := h.trans ⟨rfl, rfl, rfl, Nat.le_refl _, fun _ _ => rfl⟩
theorem below_on {w W W' : World} (h : Below w.heap.size w W) (hb : Below W.heap.size W W') : Below w.heap.size w W' := h.trans (hb.mono h.size)
theorem below_al {w W : World} (h : Below w.heap.size w W) (o : Obj) : Below w.heap.size w (W.alloc o) := h.alloc h.size o
theorem strs_two (w : World) (x y : ByteArray) (hx : x.size ≤ maxLen) (hy : y.size ≤ maxLen) (t : TypeId) : StrsAt (w.alloc (.cells #[.string x, .string y] t)).heap.size (w.alloc (.cells #[.string x, .string y] t)) (some ⟨w.heap.size, 0, none⟩) w.heap.size 0 2 [x, y] :=
  ⟨.inr rfl, rfl, by decide, .inr (by simp), fun i hi => by
    match i, hi with
    | 0, _ => exact heap_cell (heap_new _ rfl) rfl
    | 1, _ => exact heap_cell (heap_new _ rfl) rfl, fun n hn => by simp at hn; rcases hn with rfl | rfl <;> assumption⟩
theorem strs_three (w : World) (x y z : ByteArray) (hx : x.size ≤ maxLen) (hy : y.size ≤ maxLen) (hz : z.size ≤ maxLen) (t : TypeId) : StrsAt (w.alloc (.cells #[.string x, .string y, .string z] t)).heap.size (w.alloc (.cells #[.string x, .string y, .string z] t)) (some ⟨w.heap.size, 0, none⟩) w.heap.size 0 3 [x, y, z] :=
  ⟨.inr rfl, rfl, by decide, .inr (by simp), fun i hi => by
    match i, hi with
    | 0, _ => exact heap_cell (heap_new _ rfl) rfl
    | 1, _ => exact heap_cell (heap_new _ rfl) rfl
    | 2, _ => exact heap_cell (heap_new _ rfl) rfl, fun n hn => by simp at hn; rcases hn with rfl | rfl | rfl <;> assumption⟩
theorem strs_nil (w : World) : StrsAt w.heap.size w none 0 0 0 [] := ⟨.inl rfl, rfl, Nat.zero_le _, .inl rfl, fun i hi => absurd hi (Nat.not_lt_zero _), fun n hn => by simp at hn⟩
theorem fresh_lit {w : World} {a : Option Addr} {b off len cap : Nat} {ss : List ByteArray} (hm : StrsAt w.heap.size w a b off len ss) (hl90 : len ≤ 90) {stem s : ByteArray} {c : Int} (hst : stem.size ≤ 1000) {N : Nat} (hN : FrOk ss stem N) (h1 : frS stem N = s) (h2 : frE stem N = c) :
    Calls Tryd.prog 8 #[.slice a len cap, .string stem] w (fun e w' => e = .returned (.tuple #[.string s, .int .i64 c]) ∧ Hid (Below w.heap.size w w')) := by
  subst h1 h2
  exact (fresh_any hm hl90 stem hst hN).mono (fun e w' h => ⟨h.1, Lib.hid h.2⟩)
theorem check_lit {s : ByteArray} {c : Int} (hs : s.size ≤ maxLen) (h : chkE s = c) (w : World) : Calls Tryd.prog 12 #[.string s] w fun e w' => e = .returned (.int .i64 c) ∧ w = w' := by
  subst h; exact check_any s hs w
theorem sorted_lit {B : Nat} {w : World} {a : Option Addr} {b off len cap : Nat} {ss : List ByteArray} {v : Bool} (hm : StrsAt B w a b off len ss) (h : sortedB ss = v) : Calls Tryd.prog 14 #[.slice a len cap] w fun e w' => e = .returned (.bool v) ∧ ∃ n, w' = w.drewN n := by
  subst h; exact sorted_any hm
theorem find_lit {B : Nat} {w : World} {a : Option Addr} {b off len cap : Nat} {ss : List ByteArray} {x : ByteArray} {v : Int} (hm : StrsAt B w a b off len ss) (h : findI ss x = v) : Calls Tryd.prog 16 #[.slice a len cap, .string x] w fun e w' => e = .returned (.int .i64 v) ∧ w = w' := by
  subst h; exact find_any hm x
theorem distinct_len {w : World} {a : Option Addr} {b off len cap : Nat} {ss : List ByteArray} (hm : StrsAt w.heap.size w a b off len ss) (h0 : a = none → len = 0 ∧ cap = 0) (hlen : len ≤ 60000) {mo : Int} (hmo : mo ≤ 100000) {n : Nat} (h : (takeM (distD ss) mo).length = n) :
    Calls Tryd.prog 19 #[.slice a len cap, .int .i64 mo] w (fun e w' => (∃ a' c', e = .returned (.slice a' n c')) ∧ Hid (Below w.heap.size w w')) := by
  subst h
  exact (ldistinct_any hm h0 hlen mo hmo).mono (fun e w' ⟨v, he, hg, hb⟩ => by obtain ⟨a', c', rfl⟩ := hg.slice; exact ⟨⟨a', c', he⟩, Lib.hid hb⟩)
def sA : ByteArray := ⟨#[97]⟩
theorem sorted_two (W : World) (x y : ByteArray) (hx : x.size ≤ maxLen) (hy : y.size ≤ maxLen) {v : Bool} (h : sortedB [x, y] = v) : Calls Tryd.prog 14 #[.slice (some ⟨W.heap.size, 0, none⟩) 2 2] (W.alloc (.cells #[.string x, .string y] 9)) (fun e w' => e = .returned (.bool v) ∧ Hid (Below W.heap.size W w')) :=
  (sorted_lit (strs_two W x y hx hy 9) h).mono (fun e w' ⟨he, n, hn⟩ => ⟨he, Lib.hid (by rw [hn]; exact below_drewN ((Below.refl _ W).alloc (Nat.le_refl _) _) n)⟩)
theorem find_two (W : World) (x y z : ByteArray) (hx : x.size ≤ maxLen) (hy : y.size ≤ maxLen) {v : Int} (h : findI [x, y] z = v) : Calls Tryd.prog 16 #[.slice (some ⟨W.heap.size, 0, none⟩) 2 2, .string z] (W.alloc (.cells #[.string x, .string y] 9)) (fun e w' => e = .returned (.int .i64 v) ∧ Hid (Below W.heap.size W w')) :=
  (find_lit (strs_two W x y hx hy 9) h).mono (fun e w' ⟨he, hn⟩ => ⟨he, Lib.hid (by rw [← hn]; exact (Below.refl _ W).alloc (Nat.le_refl _) _)⟩)
theorem dist_three (W : World) (x y z : ByteArray) (hx : x.size ≤ maxLen) (hy : y.size ≤ maxLen) (hz : z.size ≤ maxLen) {n : Nat} (h : (takeM (distD [x, y, z]) 9).length = n) : Calls Tryd.prog 19 #[.slice (some ⟨W.heap.size, 0, none⟩) 3 3, .int .i64 9] (W.alloc (.cells #[.string x, .string y, .string z] 9)) (fun e w' => (∃ a' c', e = .returned (.slice a' n c')) ∧ Hid (Below W.heap.size W w')) :=
  (distinct_len (strs_three W x y z hx hy hz 9) (fun e => by cases e) (by decide) (by decide) h).mono (fun e w' ⟨he, hb⟩ => ⟨he, Lib.hid (((Below.refl _ W).alloc (Nat.le_refl _) _).trans (hb.out.mono (by simp)))⟩)
theorem fr1 : FrOk [⟨#[97]⟩, ⟨#[98]⟩] ⟨#[97]⟩ 2 := ⟨by decide, by decide, fun n h1 h2 => by
    obtain rfl : n = 1 := by omega
    exact ⟨by decide +kernel, by rw [nmS_one]; exact List.mem_cons_self ..⟩, fun h => by
    have h2 := h.2
    have hz := nmS_size ⟨#[97]⟩ (n := 2) (by decide) (by decide)
    simp only [List.mem_cons, List.not_mem_nil, or_false] at h2
    rcases h2 with h2 | h2
    · rw [h2] at hz; exact absurd hz (by decide)
    · rw [h2] at hz; exact absurd hz (by decide)⟩
theorem frs1 : frS ⟨#[97]⟩ 2 = ⟨#[97, 95, 50]⟩ := by
  apply toList_inj
  decide +kernel
theorem frs2 : frS ⟨#[97]⟩ 1 = ⟨#[97]⟩ := by
  apply toList_inj
  decide +kernel
theorem frs3 : frS ⟨#[65]⟩ 1 = ⟨#[]⟩ := by
  apply toList_inj
  decide +kernel
theorem fre1 : frE ⟨#[97]⟩ 2 = 0 := by decide +kernel
theorem fre2 : frE ⟨#[97]⟩ 1 = 0 := by decide +kernel
theorem fre3 : frE ⟨#[65]⟩ 1 = 40 := by decide +kernel
theorem sz_lit {s : ByteArray} (h : s.size ≤ 1000) : s.size ≤ maxLen := by unfold maxLen; omega
theorem fr2 : FrOk [] ⟨#[97]⟩ 1 := ⟨by decide, by decide, (fun n h1 h2 => by omega), by simp⟩
theorem fr3 : FrOk [] ⟨#[65]⟩ 1 := ⟨by decide, by decide, (fun n h1 h2 => by omega), by simp⟩
set_option maxRecDepth 100000 in
set_option maxHeartbeats 1000000 in
theorem alive_any (w : World) : Calls Tryd.prog 7 #[] w fun e w' => e = .returned (.bool true) ∧ Below w.heap.size w w' := by
  obtain ⟨sa, hsa⟩ : ∃ s : ByteArray, s = ⟨#[97, 95, 50]⟩ := ⟨_, rfl⟩
  obtain ⟨sb, hsb⟩ : ∃ s : ByteArray, s = ⟨#[97]⟩ := ⟨_, rfl⟩
  have g1 : (sa.toList == [97, 95, 50]) = true := by rw [hsa]; decide +kernel
  have g2 : (sb.toList == [97]) = true := by rw [hsb]; decide +kernel
  have C1 := Lib.hid (fresh_lit (cap := 2) (strs_two w ⟨#[97]⟩ ⟨#[98]⟩ (sz_lit (by decide)) (sz_lit (by decide)) 9) (by decide) (by decide) fr1 (frs1.trans hsa.symm) fre1)
  have C2 : Hid (∀ W, _) := Lib.hid (fun W => fresh_lit (cap := 0) (strs_nil W) (by decide) (by decide) fr2 (frs2.trans hsb.symm) fre2)
  have C3 : Hid (∀ W, _) := Lib.hid (fun W => fresh_lit (cap := 0) (strs_nil W) (by decide) (by decide) fr3 frs3 fre3)
  have K1 : Hid (∀ W, _) := Lib.hid (fun W => check_lit (s := ⟨#[97, 95, 49]⟩) (c := 0) (sz_lit (by decide)) (by decide +kernel) W)
  have K2 : Hid (∀ W, _) := Lib.hid (fun W => check_lit (s := ⟨#[49, 97]⟩) (c := 40) (sz_lit (by decide)) (by decide +kernel) W)
  have S1 : Hid (∀ W, _) := Lib.hid (fun W => sorted_two W ⟨#[97]⟩ ⟨#[98]⟩ (v := true) (sz_lit (by decide)) (sz_lit (by decide)) (by decide +kernel))
  have S2 : Hid (∀ W, _) := Lib.hid (fun W => sorted_two W ⟨#[97]⟩ ⟨#[97]⟩ (v := false) (sz_lit (by decide)) (sz_lit (by decide)) (by decide +kernel))
  have F1 : Hid (∀ W, _) := Lib.hid (fun W => find_two W ⟨#[120]⟩ ⟨#[121]⟩ ⟨#[121]⟩ (v := 1) (sz_lit (by decide)) (sz_lit (by decide)) (by decide +kernel))
  have D1 : Hid (∀ W, _) := Lib.hid (fun W => dist_three W ⟨#[98]⟩ ⟨#[97]⟩ ⟨#[98]⟩ (n := 2) (sz_lit (by decide)) (sz_lit (by decide)) (sz_lit (by decide)) (by decide +kernel))
  clear hsa hsb
  go_enter Tryd.func7, Tryd.ntmps7
  go_wp2_with (first
    | (go_at_call 8; refine C1.out.mono ?_; clear C1; rintro e w1 ⟨rfl, hb1⟩)
    | (go_at_call 8; refine (C2.out _).mono ?_; clear C2; rintro e w2 ⟨rfl, hb2⟩)
    | (go_at_call 8; refine (C3.out _).mono ?_; clear C3; rintro e w3 ⟨rfl, hb3⟩)
    | (go_at_call 12; refine (K1.out _).mono ?_; clear K1; rintro e w' ⟨rfl, rfl⟩)
    | (go_at_call 12; refine (K2.out _).mono ?_; clear K2; rintro e w' ⟨rfl, rfl⟩)
    | (go_at_call 14; refine (S1.out _).mono ?_; clear S1; rintro e w4 ⟨rfl, hb4⟩)
    | (go_at_call 14; refine (S2.out _).mono ?_; clear S2; rintro e w5 ⟨rfl, hb5⟩)
    | (go_at_call 16; refine (F1.out _).mono ?_; clear F1; rintro e w6 ⟨rfl, hb6⟩)
    | (go_at_call 19; refine (D1.out _).mono ?_; clear D1; rintro e w9 ⟨⟨a9, c9, rfl⟩, hb9⟩))
  go_ret
  exact ⟨rfl, below_on (below_on (below_on (below_on (below_on (below_on (below_on (below_al (Below.refl _ _) _) hb1.out) hb2.out) hb3.out) hb4.out) hb5.out) hb6.out) hb9.out⟩
end Go.Proofs.YtmilchkemobchaaDoor
