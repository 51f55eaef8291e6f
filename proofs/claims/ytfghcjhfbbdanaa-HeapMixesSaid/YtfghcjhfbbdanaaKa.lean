/- The example in layer 6's statements: it holds. -/
import Derived.Test.YtfghcjhfbbdanaaKc
import Derived.Test.YtfghcjhfbbdanaaIo
set_option linter.unusedVariables false
namespace Go.Proofs.Ytfghcjhfbbdanaa
open Go.RowKit

theorem ordLess : IsOrd 7 kk := .inl ⟨rfl, rfl⟩
theorem srt3 : Hm.srt (fun x : Int => x) [3, 1, 2] = [1, 2, 3] := by decide
theorem ints3 (w : World) : IntsAt .i64 (w.alloc (.cells #[.int .i64 3, .int .i64 1, .int .i64 2] 3)).heap.size (w.alloc (.cells #[.int .i64 3, .int .i64 1, .int .i64 2] 3)) (some ⟨w.heap.size, 0, none⟩) w.heap.size 0 3 [3, 1, 2] := by
  refine ⟨.inr rfl, rfl, by unfold maxLen; omega, .inr (by simp), fun i hi => ?_, fun n hn => ?_⟩
  · match i, hi with
    | 0, _ => simp [go_sem]
    | 1, _ => simp [go_sem]
    | 2, _ => simp [go_sem]
  · simp at hn
    rcases hn with rfl | rfl | rfl <;> decide

set_option maxHeartbeats 4000000 in
theorem halive_any (w : World) : Calls Try.prog 5 #[] w fun e w' => e = .returned (.bool true) ∧ Below w.heap.size w w' := by
  go_enter Try.func5, Try.ntmps5
  go_wp2_with fail
  refine (Ii.sort_any (kf := fun x => x) ⟨rfl, rfl⟩ (ints3 w) (by decide) (by decide)).mono ?_
  rintro e w1 ⟨v, rfl, hg, hb⟩
  rw [srt3] at hg
  obtain ⟨a5, cap5, b5, rfl, hc1, hc2, hb5, HI⟩ := hg.ints rfl (by decide)
  obtain rfl : a5 = some ⟨b5, 0, none⟩ := HI.addr.resolve_left (by decide)
  have HIh := Lib.hid HI
  have HB1 := Lib.hid (((Below.refl w.heap.size w).alloc (Nat.le_refl _) (.cells #[.int .i64 3, .int .i64 1, .int .i64 2] 3)).trans (hb.mono (by simp)))
  clear hg hb HI hb5 hc1 hc2
  simp only [List.length_cons, List.length_nil, Nat.zero_add, Nat.reduceAdd]
  go_wp2_with fail
  refine (hc_new 7 kk w1).mono ?_
  rintro e w2 ⟨rfl, hN, hb2⟩
  have HH2 := Lib.hid hN
  have HB2 := Lib.hid hb2
  clear hN hb2
  go_wp2_with fail
  refine (hc_push ordLess HH2.out 2 1 (by decide) (by decide) (by decide)).mono ?_
  rintro e w3 ⟨rfl, h3, s3⟩
  have HH3 := Lib.hid h3
  have HS3 := Lib.hid s3
  clear h3 s3
  go_wp2_with fail
  refine (hc_push ordLess HH3.out 1 2 (by decide) (by decide) (by decide)).mono ?_
  rintro e w4 ⟨rfl, h3, s3⟩
  have HH4 := Lib.hid h3
  have HS4 := Lib.hid s3
  clear h3 s3
  go_wp2_with fail
  refine (hc_push ordLess HH4.out 1 3 (by decide) (by decide) (by decide)).mono ?_
  rintro e w5 ⟨rfl, h3, s3⟩
  have HH5 : Hid (HC 7 kk w1.heap.size w5 [(2, 1), (1, 2), (1, 3)] 3) := h3
  have HS5 := Lib.hid s3
  clear h3 s3
  have htop : Hm.top kk [(2, 1), (1, 2), (1, 3)] = (1, 2) := by decide
  go_wp2_with fail
  refine (hc_peek HH5.out (by decide)).mono ?_
  rintro e w6 ⟨rfl, h6⟩
  rw [htop]
  have HB6 := Lib.hid h6
  have HH6 := Lib.hid (HH5.out.below h6)
  clear h6
  go_wp2_with fail
  have hba := (Below.refl w6.heap.size w6).alloc (Nat.le_refl _) (.cells #[.int .i64 1, .int .i64 2] 26)
  refine (hc_pop ordLess (HH6.out.below hba) (by decide) (by decide)).mono ?_
  rintro e w7 ⟨rfl, h7, s7⟩
  rw [htop]
  have hrest : (Hm.rest kk [(2, 1), (1, 2), (1, 3)]) = [(2, 1), (1, 3)] := by decide
  rw [hrest] at h7
  have HH7 := Lib.hid h7
  have hx3 := s7.boxed (heap_new (w := w6) _ rfl) (by decide) (by decide)
  have HX3 := Lib.hid hx3
  have HS7 := Lib.hid s7
  have hsz7 : w6.heap.size < w7.heap.size := heap_lt hx3
  clear h7 s7 hx3
  go_wp2_with fail
  have hbb := (Below.refl w7.heap.size w7).alloc (Nat.le_refl _) (.cells #[.int .i64 1, .int .i64 2] 26)
  refine (hc_len (HH7.out.below hbb)).mono ?_
  rintro e w8 ⟨rfl, rfl⟩
  clear htop hrest
  simp only [List.length_cons, List.length_nil, Nat.zero_add, Nat.reduceAdd]
  go_wp2_with fail
  have houts : Hm.outs kk 9 [(2, 1), (1, 3)] = [(1, 3), (2, 1)] := by decide
  have hleft : Hm.left kk 9 [(2, 1), (1, 3)] = [] := by decide
  refine (hc_take ordLess (HH7.out.below hbb) (by decide) 9).mono ?_
  rintro e w9 ⟨v9, rfl, hg9, h9, s9⟩
  rw [show (9 : Int).toNat = 9 from rfl, houts] at hg9
  rw [show (9 : Int).toNat = 9 from rfl, hleft] at h9
  have HH9 := Lib.hid h9
  have HS9 := Lib.hid s9
  have HG9 := Lib.hid hg9
  obtain ⟨a9, cap9, rfl⟩ := hg9.slice
  clear hg9 h9 s9 houts hleft
  simp only [List.length_cons, List.length_nil, Nat.zero_add, Nat.reduceAdd]
  go_wp2_with fail
  refine (hc_pop0 ordLess HH9.out rfl).mono ?_
  rintro e w10 ⟨rfl, _, s10⟩
  have HS10 := Lib.hid s10
  have hx3 := s10.boxed (HS9.out.boxed (heap_below HX3.out hbb hsz7) (by decide) (by decide)) (by decide) (by decide)
  have hx5 := s10.boxed (HS9.out.boxed (heap_new (w := w7) (.cells #[.int .i64 1, .int .i64 2] 26) rfl) (by decide) (by decide)) (by decide) (by decide)
  have hg10 := s10.gath HG9.out (by decide) (by decide)
  obtain ⟨a10, cp10, b10, hv10, _, _, hI10⟩ := Gath.itsAt (l := [(1, 3), (2, 1)]) hg10 rfl
  simp only [List.length_cons, List.length_nil, Nat.zero_add, Nat.reduceAdd, Value.slice.injEq, true_and] at hv10
  obtain ⟨rfl, rfl⟩ := hv10
  obtain rfl : a9 = some ⟨b10, 0, none⟩ := hI10.addr.resolve_left (by decide)
  have k1 := (hI10.cell 0 (by decide)).2
  have hS : Spared w1.heap.size w6 w10 := ((Spared.of_below hba (Nat.le_of_lt HH6.out.lt)).trans HS7.out).trans ((Spared.of_below hbb (Nat.le_of_lt HH7.out.lt)).trans (HS9.out.trans s10))
  have hS1 : Below w1.heap.size w1 w10 := HB2.out.trans ((HS3.out.below.trans (HS4.out.below.trans HS5.out.below)).trans ((HB6.out.mono (Nat.le_of_lt HH5.out.lt)).trans hS.below))
  have hI1 := HIh.out.kept hS1 (Nat.le_refl _)
  have k2 := hI1.cell 0 (by decide)
  have k3 := hI1.cell 2 (by decide)
  obtain ⟨_, k4, _⟩ := pair_cells hx3
  obtain ⟨_, k5, _⟩ := pair_cells hx5
  have HEND := Lib.hid (HB1.out.trans (hS1.mono HB1.out.size))
  have hz3 : w6.heap.size < w10.heap.size := heap_lt hx3
  have hz5 : w7.heap.size < w10.heap.size := heap_lt hx5
  have hz9 : b10 < w10.heap.size := hI10.below.resolve_left (by decide)
  have hz1 : b5 < w10.heap.size := by have := HIh.out.below.resolve_left (by decide); have := hS1.size; omega
  simp at k1 k2 k3
  clear hx3 hx5 hg10 hI10 s10 hI1 hS hS1 hba hbb
  go_wp2
  go_ret
  exact ⟨rfl, HEND.out.alloc HEND.out.size _⟩
end Go.Proofs.Ytfghcjhfbbdanaa
