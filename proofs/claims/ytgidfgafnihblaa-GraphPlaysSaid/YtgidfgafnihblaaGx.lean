/- Contract: the document's example. -/
import Derived.Test.YtgidfgafnihblaaGw
set_option linter.unusedVariables false
set_option linter.unusedSectionVars false
namespace Go.Proofs.Ytgidfgafnihblaa
open Go.RowKit Rk

theorem ints_two (w : World) (a b : Int) (ha : (Lit.int .i64 a).wf = true) (hb : (Lit.int .i64 b).wf = true) (t : TypeId) : IntsAt .i64 (w.alloc (.cells #[.int .i64 a, .int .i64 b] t)).heap.size (w.alloc (.cells #[.int .i64 a, .int .i64 b] t)) (some ⟨w.heap.size, 0, none⟩) w.heap.size 0 2 [a, b] :=
  ⟨.inr rfl, rfl, by decide, .inr (by simp), fun i hi => by
    match i, hi with
    | 0, _ => exact heap_cell (heap_new _ rfl) rfl
    | 1, _ => exact heap_cell (heap_new _ rfl) rfl, fun n hn => by simp at hn; rcases hn with rfl | rfl <;> assumption⟩
theorem ints_one (w : World) (a : Int) (ha : (Lit.int .i64 a).wf = true) (t : TypeId) : IntsAt .i64 (w.alloc (.cells #[.int .i64 a] t)).heap.size (w.alloc (.cells #[.int .i64 a] t)) (some ⟨w.heap.size, 0, none⟩) w.heap.size 0 1 [a] :=
  ⟨.inr rfl, rfl, by decide, .inr (by simp), fun i hi => by
    match i, hi with
    | 0, _ => exact heap_cell (heap_new _ rfl) rfl, fun n hn => by simp at hn; subst hn; assumption⟩
theorem below_turned {R : Nat → Prop} {n₀ : Nat} {w A B : World} (h : Below n₀ w A) (ht : Turned R A B) (hR : ∀ i, i < n₀ → R i → False) (hn : n₀ ≤ A.heap.size) : Below n₀ w B :=
  h.trans ⟨ht.os, ht.tape, ht.output, ht.size, fun k hk => ht.block k (by omega) (fun e => hR k hk e)⟩
def aF1 : Nat → Nat → Int := joinF 2 noTab 0 1 3
def aF2 : Nat → Nat → Int := joinF 2 aF1 1 0 4
def aF : Nat → Nat → Int := joinF 2 aF2 0 0 1
theorem join_lit {w : World} {g nb n : Nat} {ws : List Int} {F F' : Nat → Nat → Int} {v : Int} (h : IsG w g nb ws F) (hl : ws.length = n) (a b x : Int) (hv : joinE n F a b x = v) (hF : joinF n F a b x = F') :
    Calls Try.prog 10 #[.pointer (some ⟨g, 0, none⟩), .int .i64 a, .int .i64 b, .int .i64 x] w fun e w' => e = .returned (.int .i64 v) ∧ IsG w' g nb ws F' ∧ Turned (fun c => c = nb) w w' := by
  subst hl hv hF
  exact join_any h a b x
theorem between_lit {w : World} {g nb n : Nat} {ws : List Int} {F : Nat → Nat → Int} {v : Int} (h : IsG w g nb ws F) (hl : ws.length = n) (a b : Int) (hv : btw n F a b = v) :
    Calls Try.prog 13 #[.pointer (some ⟨g, 0, none⟩), .int .i64 a, .int .i64 b] w fun e w' => e = .returned (.int .i64 v) ∧ Turned (fun _ => False) w w' := by
  subst hl hv
  exact between_any h a b
theorem degree_lit {w : World} {g nb n : Nat} {ws : List Int} {F : Nat → Nat → Int} {v : Int} (h : IsG w g nb ws F) (hl : ws.length = n) (i : Int) (hv : vals (nearD n F i) = v) :
    Calls Try.prog 17 #[.pointer (some ⟨g, 0, none⟩), .int .i64 i] w fun e w' => e = .returned (.int .i64 v) ∧ Below w.heap.size w w' := by
  subst hl hv
  exact degree_any h i
theorem total_lit {w : World} {g nb : Nat} {ws : List Int} {F : Nat → Nat → Int} {v : Int} (h : IsG w g nb ws F) (hv : ws.sum = v) :
    Calls Try.prog 20 #[.pointer (some ⟨g, 0, none⟩)] w fun e w' => e = .returned (.int .i64 v) ∧ w = w' := by
  subst hv
  exact total_any h
theorem weight_lit {w : World} {g nb : Nat} {ws : List Int} {F : Nat → Nat → Int} {v : Int} (h : IsG w g nb ws F) (i : Int) (hv : wtOf ws i = v) :
    Calls Try.prog 16 #[.pointer (some ⟨g, 0, none⟩), .int .i64 i] w fun e w' => e = .returned (.int .i64 v) ∧ w = w' := by
  subst hv
  exact weightAt_any h i
theorem len_lit {w : World} {g nb : Nat} {ws : List Int} {F : Nat → Nat → Int} {v : Int} (h : IsG w g nb ws F) (hv : (ws.length : Int) = v) :
    Calls Try.prog 22 #[.pointer (some ⟨g, 0, none⟩)] w fun e w' => e = .returned (.int .i64 v) ∧ w = w' := by
  subst hv
  exact glen_any h
theorem edges_lit {w : World} {g nb n : Nat} {ws : List Int} {F : Nat → Nat → Int} {m : Int} {k : Nat} (h : IsG w g nb ws F) (hl : ws.length = n) (j : Nat) (hm : m = (j : Int)) (h1 : 1 ≤ j) (h2 : j ≤ 100000) (hk : ((edgesD n F).take j).length = k) :
    Calls Try.prog 19 #[.pointer (some ⟨g, 0, none⟩), .int .i64 m] w fun e w' => ∃ a cap, e = .returned (.slice a k cap) ∧ Below w.heap.size w w' := by
  subst hl hm hk
  refine (edges_any j h h1 h2).mono ?_
  rintro e w' ⟨v, rfl, hg, hb⟩
  obtain ⟨a, cap, rfl⟩ := hg.slice
  exact ⟨a, cap, rfl, hb⟩
theorem near_lit {w : World} {g nb n : Nat} {ws : List Int} {F : Nat → Nat → Int} {k : Nat} (h : IsG w g nb ws F) (hl : ws.length = n) (i : Int) (hk : (nearE n F i).length = k) :
    Calls Try.prog 15 #[.pointer (some ⟨g, 0, none⟩), .int .i64 i] w fun e w' => ∃ a cap, e = .returned (.slice a k cap) ∧ Below w.heap.size w w' := by
  subst hl hk
  refine (rnear_any h i).mono ?_
  rintro e w' ⟨v, rfl, hg, hb⟩
  obtain ⟨a, cap, rfl⟩ := hg.slice
  exact ⟨a, cap, rfl, hb⟩
set_option maxHeartbeats 2000000 in
theorem alive_any (w : World) : Calls Try.prog 7 #[] w fun e w' => e = .returned (.bool true) ∧ Below w.heap.size w w' := by
  have HN1 := Lib.hid (new_any (cap := 2) (ints_two w 1 2 (by decide) (by decide) 2) (fun e => by cases e))
  go_enter Try.func7, Try.ntmps7
  go_wp2_with fail
  refine HN1.out.mono ?_
  rintro e w2 ⟨hB, hc⟩
  rcases hc with ⟨h1, _⟩ | ⟨_, g, nb, rfl, hG, hg, hn⟩
  · exact absurd (by decide) h1
  have HB2 := Lib.hid (((Below.refl _ w).alloc (Nat.le_refl _) (.cells #[.int .i64 1, .int .i64 2] 2)).trans (hB.mono (by simp)))
  simp only [World.size_alloc] at hg hn
  have z2 := HB2.out.size
  have HG2 := Lib.hid hG
  clear hB hG HN1
  have HN3 := Lib.hid (new_any (cap := 1) (ints_one w2 0 (by decide) 2) (fun e => by cases e))
  go_wp2_with fail
  refine HN3.out.mono ?_
  rintro e w4 ⟨hB, hc⟩
  rcases hc with ⟨_, rfl⟩ | ⟨h1, _⟩
  rotate_left
  · exact absurd h1 (by decide)
  have hB4 := ((Below.refl _ w2).alloc (Nat.le_refl _) (.cells #[.int .i64 0] 2)).trans (hB.mono (by simp))
  have HB4 := Lib.hid (HB2.out.trans (hB4.mono z2))
  have z4 := HB4.out.size
  have HG4 := Lib.hid (HG2.out.below hB4)
  have hlt := HG2.out.lt
  have hEn : newE [0] = 23 := by decide
  rw [hEn]
  clear hB hB4 HN3 HG2 hEn
  go_wp2_with fail
  refine (join_lit (v := 0) (F' := aF1) HG4.out rfl 0 1 3 (by decide) rfl).mono ?_
  rintro e w5 ⟨rfl, hG, ht⟩
  have HB5 := Lib.hid (below_turned HB4.out ht (fun i hi e => by omega) z4)
  have HG5 := Lib.hid hG
  have z5 := HB5.out.size
  clear hG ht
  go_wp2_with fail
  refine (join_lit (v := 0) (F' := aF2) HG5.out rfl 1 0 4 (by decide) rfl).mono ?_
  rintro e w6 ⟨rfl, hG, ht⟩
  have HB6 := Lib.hid (below_turned HB5.out ht (fun i hi e => by omega) z5)
  have HG6 := Lib.hid hG
  have z6 := HB6.out.size
  clear hG ht
  go_wp2_with fail
  refine (join_lit (v := 1) (F' := aF) HG6.out rfl 0 0 1 (by decide) rfl).mono ?_
  rintro e w7 ⟨rfl, hG, ht⟩
  have HB7 := Lib.hid (below_turned HB6.out ht (fun i hi e => by omega) z6)
  have HG7 := Lib.hid hG
  have z7 := HB7.out.size
  clear hG ht HG6 HG5 HG4
  go_wp2_with fail
  refine (between_lit (v := 7) HG7.out rfl 0 1 (by decide)).mono ?_
  rintro e w8 ⟨rfl, ht⟩
  have HB8 := Lib.hid (below_turned HB7.out ht (fun i hi e => e) z7)
  have HG8 := Lib.hid (HG7.out.calm ht)
  have z8 := HB8.out.size
  clear ht
  go_wp2_with fail
  refine (between_lit (v := 7) HG8.out rfl 1 0 (by decide)).mono ?_
  rintro e w9 ⟨rfl, ht⟩
  have HB9 := Lib.hid (below_turned HB8.out ht (fun i hi e => e) z8)
  have HG9 := Lib.hid (HG8.out.calm ht)
  have z9 := HB9.out.size
  clear ht
  go_wp2_with fail
  refine (total_lit (v := 3) HG9.out (by decide)).mono ?_
  rintro e _ ⟨rfl, rfl⟩
  go_wp2_with fail
  refine (weight_lit (v := 2) HG9.out 1 (by decide)).mono ?_
  rintro e _ ⟨rfl, rfl⟩
  go_wp2_with fail
  refine (degree_lit (v := 7) HG9.out rfl 0 (by decide)).mono ?_
  rintro e wa ⟨rfl, hb⟩
  have HBa := Lib.hid (HB9.out.trans (hb.mono z9))
  have HGa := Lib.hid (HG9.out.below hb)
  have za := HBa.out.size
  clear hb
  go_wp2_with fail
  refine (edges_lit (k := 1) HGa.out rfl 9 rfl (by decide) (by decide) (by decide)).mono ?_
  rintro e wb ⟨ab, cb, rfl, hb⟩
  have HBb := Lib.hid (HBa.out.trans (hb.mono za))
  have HGb := Lib.hid (HGa.out.below hb)
  have zb := HBb.out.size
  clear hb
  go_wp2_with fail
  refine (near_lit (k := 1) HGb.out rfl 1 (by decide)).mono ?_
  rintro e wc ⟨ac, cc, rfl, hb⟩
  have HBc := Lib.hid (HBb.out.trans (hb.mono zb))
  have HGc := Lib.hid (HGb.out.below hb)
  have zc := HBc.out.size
  clear hb
  go_wp2_with fail
  refine (near_lit (k := 0) HGc.out rfl 5 (by decide)).mono ?_
  rintro e wd ⟨ad, cd, rfl, hb⟩
  have HBd := Lib.hid (HBc.out.trans (hb.mono zc))
  have HGd := Lib.hid (HGc.out.below hb)
  clear hb
  go_wp2_with fail
  refine (len_lit (v := 2) HGd.out rfl).mono ?_
  rintro e _ ⟨rfl, rfl⟩
  go_wp2
  go_ret
  exact ⟨rfl, HBd.out⟩
end Go.Proofs.Ytgidfgafnihblaa
