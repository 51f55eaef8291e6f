/- The walk of HeapSorts: a list in order is as the document says; it isn't turned. -/
import Derived.Test.YtilecfmaehkafaaKa
set_option linter.unusedVariables false
namespace Go.Proofs.Ytilecfmaehkafaa
open Go.RowKit

set_option maxHeartbeats 4000000 in
theorem walk_HeapSorts (a0 : Option Addr) (len0 cap0 : Nat) (z0 : List Int) (w : World) (w0 : IsRow .i64 w a0 len0 cap0 z0) :
    Calls Try.prog 4 #[.slice a0 len0 cap0] w fun e w' => e = .returned (.bool true) ∧ Below w.heap.size w w' := by
  obtain ⟨b, off, hi⟩ := w0.ints
  have hm := hi.small
  unfold maxLen at hm
  have H1 := Lib.hid hi
  clear hi w0
  generalize z0.take len0 = z at *
  by_cases h200 : 200 < len0
  · go_enter Try.func4, Try.ntmps4
    go_wp2_with fail
    refine (halive_any _).mono ?_
    rintro e w2 ⟨rfl, hB2⟩
    have HB2 := Lib.hid hB2
    clear hB2
    go_wp2
    go_ret
    exact ⟨rfl, HB2.out⟩
  obtain ⟨i0, hi, hz0, hz1, hz2⟩ := info_parts Try.infoItem
  have HIi := Lib.hid hi
  have HZ0 := Lib.hid hz0
  have HZ1 := Lib.hid hz1
  have HZ2 := Lib.hid hz2
  clear hi hz0 hz1 hz2
  go_enter Try.func4, Try.ntmps4
  go_wp2_with fail
  refine (halive_any _).mono ?_
  rintro e w2 ⟨rfl, hB2⟩
  have HB2 := Lib.hid hB2
  have hz2 := hB2.size
  clear hB2
  go_wp2
  go_loopw [3, 4, 16] (fun v3 v4 i wr => ∃ (k : Nat) (b3 b4 : Option Nat), i = .int .i64 k ∧ k ≤ len0 ∧ Hid (GB wr w.heap.size 27 2 v3 k (its (tg z k)) b3) ∧ Hid (GB wr w.heap.size 27 2 v4 k (its (tg z k)) b4) ∧ Hid (∀ g, b3 = some g → b4 ≠ some g) ∧ Hid (Below w.heap.size w wr))
    (fun _ _ i _ => len0 - (intOf i).toNat)
  case atStart =>
    exact ⟨0, none, none, rfl, Nat.zero_le _, Lib.hid (gb_nil _ _ _ _ _), Lib.hid (gb_nil _ _ _ _ _), Lib.hid (fun g e => by cases e), Lib.hid ((HB2.out.alloc hz2 _).alloc (by simp; omega) _)⟩
  case round =>
    obtain ⟨k, b3, b4, rfl, hk, hG3, hG4, hA, hB⟩ := hrel
    obtain ⟨a3, cap3, rfl⟩ := hG3.out.slice
    obtain ⟨a4, cap4, rfl⟩ := hG4.out.slice
    have hbz := hB.out.size
    by_cases hlt : k < len0
    · have hI := H1.out.kept hB.out (Nat.le_refl _)
      have ha : a0 = some ⟨b, off, none⟩ := hI.addr.resolve_left (by omega)
      subst ha
      have c0 := hI.cell k hlt
      obtain ⟨x, hx⟩ : ∃ x, z.getD k 0 = x := ⟨_, rfl⟩
      rw [hx] at c0
      have HX : Hid (its (tg z (k + 1)) = its (tg z k) ++ its [(x, (k : Int))]) := Lib.hid (by rw [← hx]; show its (tg z k ++ [(z.getD k 0, (k : Int))]) = _; rw [its_append])
      clear hI hx
      go_wp2_with (at_builtin; refine wpList_append_GB _ rfl (.tmp 21) (.tmp 25) 29 rfl w.heap.size 27 i0 (.agg #[.int .i64 0, .int .i64 0]) 2 16 Try.underlying29 HIi.out HZ0.out HZ1.out HZ2.out rfl (by decide) (.slice a3 k cap3) k (its (tg z k)) b3 rfl (hG3.out.alloc _) ⟨wr.heap.size, 0, none⟩ 1 1 (its [(x, (k : Int))]) rfl rfl (cell_two _ _ _) (its_one _) (by decide) (by unfold maxLen; omega) (by omega) (by simp; omega) ?_; intro g5 cp5 w5 r5 hown hgrow hr hg; refine Hid.out ?_)
      have hbl : Below w.heap.size w w5 := (hB.out.alloc hbz (.cells #[.int .i64 x, .int .i64 (k : Int)] 27)).grown hgrow (by simp; omega) (fun r e => by rcases hr with h | h; (rw [h] at e; cases e); exact (hG3.out.lt r (by rw [← h]; exact e)).1)
      have hg4 := (hG4.out.alloc (.cells #[.int .i64 x, .int .i64 (k : Int)] 27)).kept hgrow (fun g e e' => by rcases hr with h | h; (rw [h] at e'; cases e'); exact hA.out g (by rw [← h]; exact e') e)
      have hap : ∀ g, some g5 = some g → b4 ≠ some g := by
        intro g e e4
        cases e
        rcases hg with h | h
        · exact hA.out g5 h e4
        · have := (hG4.out.lt g5 e4).2.1; simp at h; omega
      have hz5 : g5 < w5.heap.size := (hown.lt g5 rfl).2.1
      have HO5 := Lib.hid hown
      have HB5 := Lib.hid hbl
      have HG4 := Lib.hid hg4
      have HA5 := Lib.hid hap
      have hbz5 := hbl.size
      clear hown hbl hg4 hap hgrow hr hg
      refine Lib.hid ?_
      go_wp2_with (at_builtin; refine wpList_append_GB _ rfl (.tmp 27) (.tmp 31) 29 rfl w.heap.size 27 i0 (.agg #[.int .i64 0, .int .i64 0]) 2 16 Try.underlying29 HIi.out HZ0.out HZ1.out HZ2.out rfl (by decide) (.slice a4 k cap4) k (its (tg z k)) b4 rfl (HG4.out.alloc _) ⟨w5.heap.size, 0, none⟩ 1 1 (its [(x, (k : Int))]) rfl rfl (cell_two _ _ _) (its_one _) (by decide) (by unfold maxLen; omega) (by omega) (by simp; omega) ?_; intro g6 cp6 w6 r6 hown hgrow hr hg; have H6 := Lib.hid (And.intro hown (And.intro hgrow (And.intro hr hg))); clear hown hgrow hr hg)
      obtain ⟨hown, hgrow, hr, hg⟩ := H6.out
      go_roundw
      case rel =>
        refine ⟨k + 1, some g5, some g6, by go_num, by omega, Lib.hid ?_, Lib.hid ?_, Lib.hid ?_, Lib.hid ?_⟩
        · rw [HX.out]
          exact (HO5.out.alloc _).kept hgrow (fun g e e' => by rcases hr with h | h; (rw [h] at e'; cases e'); exact HA5.out g e (by rw [← h]; exact e'))
        · rw [HX.out]; exact hown
        · intro g e e4
          cases e; cases e4
          rcases hg with h | h
          · exact HA5.out g5 rfl h
          · simp at h; omega
        · exact (HB5.out.alloc hbz5 _).grown hgrow (by simp; omega) (fun r e => by rcases hr with h | h; (rw [h] at e; cases e); exact (HG4.out.lt r (by rw [← h]; exact e)).1)
      case measure => simp [intOf]; omega
    · obtain rfl : k = len0 := by omega
      have hg3 := hG3.out.gath
      obtain ⟨a5, cap3, b5, hv5, hc5, hbb5, hI5⟩ := Gath.itsAt hg3 (tg_length z k)
      obtain ⟨a6, cap4, b6, hv6, hc6, hbb6, hI6⟩ := Gath.itsAt hG4.out.gath (tg_length z k)
      cases hv5
      cases hv6
      have HSo := Lib.hid (sort_any ordLess hI5 hc5 (by omega))
      have HI5 := Lib.hid hI5
      have HI6 := Lib.hid hI6
      clear hG3 hG4 hA hg3 hbb5 hbb6 hI5 hI6
      go_wp2_with fail
      refine HSo.out.mono ?_
      rintro e w7 ⟨v7, rfl, hg7, hb7⟩
      have hz7 := hb7.size
      have HSr := Lib.hid (sorted_any (cap := cap3) ((HI5.out.kept hb7 (Nat.le_refl _)).mono hz7) hc5 (by omega))
      have HG7 := Lib.hid hg7
      have HB7 := Lib.hid hb7
      obtain ⟨a7, cp7, rfl⟩ := hg7.slice
      clear hg7 hb7
      go_wp2_with fail
      refine HSr.out.mono ?_
      rintro e w8 ⟨v8, rfl, hg8, hb8⟩
      have hz8 := hb8.size
      have hg78 := HG7.out.kept hb8
      rw [Hm.srt_length] at hg8
      rw [tg_length] at hg78 hg8
      obtain ⟨a9, cp9, b9, hv9, hc9, _, hI9⟩ := Gath.itsAt hg78 (by rw [Hm.srt_length, tg_length])
      obtain ⟨a10, cp10, b10, hv10, hc10, _, hI10⟩ := Gath.itsAt hg8 (by rw [Hm.srt_length, tg_length])
      cases hv9
      subst hv10
      have HB8 := Lib.hid (HB7.out.trans (hb8.mono hz7))
      have HSa := Lib.hid (same_any (cap := cp7) (cap' := cp10) hI9 hI10 (by omega) (by omega) (Nat.le_refl _))
      have h56 := fun (W : World) (hb : Below wr.heap.size wr W) => same_any (cap := cap3) (cap' := cap4) (HI5.out.kept hb (Nat.le_refl _)) (HI6.out.kept hb (Nat.le_refl _)) (by omega) (by omega) hb.size
      have HSb := Lib.hid h56
      rw [decide_eq_true (rfl : Hm.srt kk (tg z k) = Hm.srt kk (tg z k))] at HSa
      simp only [decide_true] at HSb
      clear hg8 hb8 hg78 hI9 hI10 h56
      rw [tg_length]
      go_wp2_with fail
      refine HSa.out.mono ?_
      rintro e w9 ⟨rfl, hb9⟩
      have HB9 := Lib.hid (HB8.out.trans (hb9.mono (by have := HB8.out.size; omega)))
      clear hb9
      go_wp2_with fail
      refine (HSb.out _ HB9.out).mono ?_
      rintro e w10 ⟨rfl, hb10⟩
      have HB10 := Lib.hid (hB.out.trans ((HB9.out.trans (hb10.mono HB9.out.size)).mono hbz))
      clear hb10
      go_wp2
      go_ret
      exact ⟨rfl, HB10.out⟩
end Go.Proofs.Ytilecfmaehkafaa
