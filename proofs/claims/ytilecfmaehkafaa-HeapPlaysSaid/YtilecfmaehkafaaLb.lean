/- The walk of HeapPlays: every answer of a row of steps. -/
import Derived.Test.YtilecfmaehkafaaLa
import Derived.Test.YtilecfmaehkafaaKe
set_option linter.unusedVariables false
namespace Go.Proofs.Ytilecfmaehkafaa
open Go.RowKit

theorem and_7 (n : Int) : bits .and .i64 n 7 = n % 8 := by
  have h511 : (BitVec.ofInt 64 7).toNat = 2 ^ 3 - 1 := by decide
  have key : (BitVec.ofInt 64 n &&& BitVec.ofInt 64 7).toNat = (n % ((2 ^ 64 : Nat) : Int)).toNat % 2 ^ 3 := by
    rw [BitVec.toNat_and, BitVec.toNat_ofInt, h511, Nat.and_two_pow_sub_one_eq_mod]
  show IntKind.i64.wrap ((BitVec.ofInt 64 n &&& BitVec.ofInt 64 7).toNat : Nat) = n % 8
  rw [key, IntKind.wrap_i64]
  omega
theorem ItsAt.take {B : Nat} {w : World} {a : Option Addr} {b len : Nat} {l : List (Int × Int)} (h : ItsAt B w a b len l) {n : Nat} (hn : n ≤ len) : ItsAt B w a b n (l.take n) := by
  refine ⟨h.addr.imp (fun e => by omega) id, by rw [List.length_take, h.length]; omega, h.below.imp (fun e => by omega) id, fun i hi => ?_⟩
  have e : (l.take n).getD i default = l.getD i default := by simp [List.getD, List.getElem?_take_of_lt hi]
  rw [e]
  exact h.cell i (by omega)

theorem Gath.seat {w : World} {base : Nat} {a : Option Addr} {cap : Nat} {n : Nat} {l : List (Int × Int)} (h : Gath w base 27 2 (.slice a n cap) n (its l)) (hn : l.length = n) : ∃ b, ItsAt w.heap.size w a b n l ∧ n ≤ cap := by
  obtain ⟨a', cap', b, hv, hc, _, hI⟩ := Gath.itsAt h hn
  cases hv
  exact ⟨b, hI, hc⟩
/-- What is true between two steps. -/
structure PlI (w : World) (hb i : Nat) (v : Value) (row : List (Int × Int)) (W : World) : Prop where
  len : row.length ≤ i
  heap : ∃ puts : Int, 0 ≤ puts ∧ puts ≤ i ∧ HC 10 kk hb W row puts
  row : Gath W w.heap.size 27 2 v row.length (its row)
  below : Below w.heap.size w W
theorem PlI.on {w : World} {hb i : Nat} {v : Value} {row : List (Int × Int)} {W W' : World} (h : PlI w hb i v row W) (hB : Below W.heap.size W W') : PlI w hb i v row W' := by
  obtain ⟨p, h1, h2, h3⟩ := h.heap
  exact ⟨h.len, ⟨p, h1, h2, h3.below hB⟩, h.row.kept hB, h.below.trans (hB.mono h.below.size)⟩

theorem outs_min (c : Nat) (row : List (Int × Int)) : Hm.outs kk c row = Hm.outs kk (min c row.length) row ∧ Hm.left kk c row = Hm.left kk (min c row.length) row ∧ (Hm.outs kk (min c row.length) row).length = min c row.length := by
  refine ⟨?_, ?_, by rw [Hm.outs_length]; omega⟩
  · by_cases h : c ≤ row.length
    · rw [Nat.min_eq_left h]
    · rw [Nat.min_eq_right (by omega), Hm.outs_all c row (by omega), Hm.outs_all _ row (Nat.le_refl _)]
  · by_cases h : c ≤ row.length
    · rw [Nat.min_eq_left h]
    · rw [Nat.min_eq_right (by omega), Hm.nil_of (row := Hm.left kk c row) (by rw [Hm.left_length]; omega), Hm.nil_of (row := Hm.left kk row.length row) (by rw [Hm.left_length]; omega)]
theorem neqT (a b : Int) (V : World) : (binOp BinOp.neq 27 (.agg #[.int .i64 a, .int .i64 b]) (.agg #[.int .i64 a, .int .i64 b])).run Try.prog V = .ok (.bool false) V := by
  have h := neq_item (a, b) (a, b) V
  simpa using h

set_option maxRecDepth 100000 in
set_option maxHeartbeats 8000000 in
theorem walk_HeapPlays (a0 : Option Addr) (len0 cap0 : Nat) (z0 : List HopV) (w : World) (w0 : IsHops w a0 len0 cap0 z0) :
    Calls Try.prog 3 #[.slice a0 len0 cap0] w fun e w' => e = .returned (.bool true) ∧ Below w.heap.size w w' := by
  obtain ⟨_, b, off, hi⟩ := w0
  have hm := hi.small
  unfold maxLen at hm
  have H1 := Lib.hid hi
  clear hi
  by_cases h100 : 100 < len0
  · go_enter Try.func3, Try.ntmps3
    go_wp2_with fail
    refine (halive_any _).mono ?_
    rintro e w2 ⟨rfl, hB2⟩
    have HB2 := Lib.hid hB2
    clear hB2
    go_wp2
    go_ret
    exact ⟨rfl, HB2.out⟩
  obtain ⟨i0, hi, hz0, hz1, hz2⟩ := info_parts Try.infoItem
  have HIi := Lib.hid hi
  have HZ0 := Lib.hid hz0
  have HZ1 := Lib.hid hz1
  have HZ2 := Lib.hid hz2
  clear hi hz0 hz1 hz2
  go_enter Try.func3, Try.ntmps3
  go_wp2_with fail
  refine (halive_any _).mono ?_
  rintro e w2 ⟨rfl, hB2⟩
  have HB2 := Lib.hid hB2
  have hz2 := hB2.size
  clear hB2
  go_wp2_with fail
  refine (hc_new 10 kk w2).mono ?_
  rintro e w3 ⟨rfl, hN, hb2⟩
  have HN := Lib.hid hN
  have HB3 := Lib.hid (HB2.out.trans (hb2.mono hz2))
  have hz3 := hb2.size
  clear hN hb2
  go_wp2
  go_loopw [4, 24] (fun v i wr => ∃ (k : Nat) (row : List (Int × Int)), i = .int .i64 k ∧ k ≤ len0 ∧ Hid (PlI w w2.heap.size k v row wr))
    (fun _ i _ => len0 - (intOf i).toNat)
  case atStart =>
    exact ⟨0, [], rfl, Nat.zero_le _, Lib.hid ⟨Nat.le_refl _, ⟨0, by omega, by omega, HN.out.below ((Below.refl _ _).alloc (Nat.le_refl _) _)⟩, .inl ⟨rfl, rfl, _, rfl⟩, HB3.out.alloc (by omega) _⟩⟩
  case round =>
    obtain ⟨k, row, rfl, hk, hP⟩ := hrel
    have hbz := hP.out.below.size
    have hrl := hP.out.len
    obtain ⟨a4, cap4, b4, rfl, hc4, _, hI4⟩ := Gath.itsAt hP.out.row rfl
    by_cases hlt : k < len0
    · have hI := H1.out.kept hP.out.below (Nat.le_refl _)
      have ha : a0 = some ⟨b, off, none⟩ := hI.addr.resolve_left (by omega)
      subst ha
      obtain ⟨o, ho⟩ : ∃ o, z0[k]? = some o := ⟨z0[k]'(by rw [hI.length]; exact hlt), List.getElem?_eq_getElem _⟩
      obtain ⟨c0, c1, c2⟩ := hI.cell k o ho
      obtain ⟨⟨k1, k2⟩, ⟨k3, k4⟩, k5, k6⟩ := hI.ok o (List.mem_of_getElem? ho)
      obtain ⟨kd, key, n⟩ := o
      simp only at c0 c1 c2 k1 k2 k3 k4 k5 k6
      have HI4 := Lib.hid hI4
      clear hI ho hI4
      go_wp2_with fail
      have hal := (Below.refl wr.heap.size wr).alloc (Nat.le_refl _) (.cells #[.int .i64 kd, .int .i64 key, .int .i64 n] 31)
      refine (first_any (B := wr.heap.size) (cap := cap4) (HI4.out.kept hal (Nat.le_refl _)) (by omega) (by simp)).mono ?_
      rintro e w5 ⟨rfl, hb5⟩
      have hop := heap_below (heap_new (w := wr) (.cells #[.int .i64 kd, .int .i64 key, .int .i64 n] 31) (g := wr.heap.size) rfl) hb5 (by simp)
      have d0 : w5.cell? ⟨wr.heap.size, 0, none⟩ = some (.int .i64 kd) := heap_cell hop rfl
      have d1 : w5.cell? ⟨wr.heap.size, 1, none⟩ = some (.int .i64 key) := heap_cell hop rfl
      have d2 : w5.cell? ⟨wr.heap.size, 2, none⟩ = some (.int .i64 n) := heap_cell hop rfl
      have hb : Below wr.heap.size wr w5 := hal.trans (hb5.mono (by simp))
      have hP5 := Lib.hid (hP.out.on hb)
      have hz5 := hb.size
      have HOP := Lib.hid hop
      have hlt5 := heap_lt hop
      obtain ⟨puts, p0, p1, hC⟩ := hP5.out.heap
      have HC5 := Lib.hid hC
      have hlt2 := hC.lt
      clear hal hb5 hop hb hP HI4 c0 c1 c2 hC
      by_cases hk01 : kd = 0 ∨ kd = 1
      · rcases hk01 with rfl | rfl <;> (
          go_wp2_with fail
          have ha5 := (Below.refl w5.heap.size w5).alloc (Nat.le_refl _) (.cells #[.int .i64 key, .int .i64 (k : Int)] 27)
          refine (hc_push ordLess (HC5.out.below ha5) key k (by omega) p0 (by omega)).mono ?_
          rintro e w6 ⟨rfl, h6, s6⟩
          have hi6 := s6.boxed (heap_new (w := w5) (.cells #[.int .i64 key, .int .i64 (k : Int)] 27) (g := w5.heap.size) rfl) (by decide) (by decide)
          have e0 : w6.cell? ⟨w5.heap.size, 0, none⟩ = some (.int .i64 key) := heap_cell hi6 rfl
          have e1 : w6.cell? ⟨w5.heap.size, 1, none⟩ = some (.int .i64 (k : Int)) := heap_cell hi6 rfl
          have HG6 := Lib.hid (s6.gath (hP5.out.row.kept ha5) (by decide) (by decide))
          have H6 := Lib.hid h6
          have B6 := Lib.hid ((hP5.out.below.trans (ha5.mono (by omega))).trans (s6.below.mono hz2))
          have hz6 := s6.size
          have hz56 := ha5.size
          clear ha5 h6 s6 hi6 HOP
          refine Hid.out (Lib.hid ?_)
          go_wp2_with (at_builtin; refine wpList_append_gathW _ rfl (.tmp 43) (.tmp 45) 29 rfl w.heap.size 27 i0 (.agg #[.int .i64 0, .int .i64 0]) 2 16 Try.underlying29 HIi.out HZ0.out HZ1.out HZ2.out rfl (by decide) (.slice a4 row.length cap4) row.length (its row) rfl (HG6.out.kept ((Below.refl _ _).alloc (Nat.le_refl _) _)) ⟨w6.heap.size, 0, none⟩ 1 1 (its [(key, (k : Int))]) rfl rfl (cell_two _ _ _) (its_one _) (by decide) (by unfold maxLen; omega) (by omega) (by simp; omega) ?_; intro g7 cp7 w7 r7 hown hgrow hr hg; have H7 := Lib.hid (And.intro hown (And.intro hgrow hr)); clear hown hgrow hr hg)
          obtain ⟨hown, hgrow, hr⟩ := H7.out
          have ha6 := (Below.refl w6.heap.size w6).alloc (Nat.le_refl _) (.cells #[.int .i64 key, .int .i64 (k : Int)] 27)
          have hC7 := (H6.out.below ha6).kept hgrow (fun i e => by obtain ⟨e1, e2⟩ := hr i e; obtain ⟨_, cur, e3⟩ := owns_block e2 e1; exact ⟨_, e3, foreign_cells (by decide) (by decide)⟩)
          have hB7 := (B6.out.trans (ha6.mono (by omega))).grown hgrow (by simp; omega) (fun i e => by obtain ⟨e1, e2⟩ := hr i e; exact (owns_block e2 e1).1)
          have HP7 : Hid (PlI w w2.heap.size (k + 1) (.slice (some ⟨g7, 0, none⟩) (row.length + 1) cp7) (row ++ [(key, (k : Int))]) w7) :=
            Lib.hid ⟨by simp; omega, ⟨puts + 1, by omega, by omega, hC7⟩, .inr (by rw [its_append, List.length_append, List.length_singleton]; exact hown), hB7⟩
          clear hown hgrow hr ha6 hB7 H7
          refine (hc_len hC7).mono ?_
          rintro e _ ⟨rfl, rfl⟩
          rw [List.length_append, List.length_singleton]
          clear hC7
          go_wp2
          go_roundw
          case rel => exact ⟨k + 1, _, by go_num, by omega, HP7⟩
          case measure => simp [intOf]; omega)
      have h01 : kd ≠ 0 := fun e => hk01 (.inl e)
      have h11 : kd ≠ 1 := fun e => hk01 (.inr e)
      by_cases hk2 : kd = 2
      · subst hk2
        have hg := Try.guardItem
        by_cases h0 : row.length = 0
        · obtain rfl := Hm.nil_of h0
          have hf : firstI ([] : List (Int × Int)) = -1 := rfl
          rw [hf]
          go_wp2_with fail
          refine (hc_pop0 ordLess HC5.out h0).mono ?_
          rintro e w6 ⟨rfl, h6, s6⟩
          obtain ⟨b6, hI6, _⟩ := Gath.seat (s6.gath hP5.out.row (by decide) (by decide)) rfl
          have HI6 := Lib.hid hI6
          have H6 := Lib.hid h6
          have B6 := Lib.hid (hP5.out.below.trans (s6.below.mono hz2))
          have hz6 := s6.size
          have hneq := neqT 0 0
          clear hI6 h6 s6 HOP
          go_wp2
          go_quiet (fail)
          generalize hW : World.drewN _ _ = W6 at *
          have hBd : Below w6.heap.size w6 W6 := by rw [← hW]; exact ((Below.refl _ _).alloc (Nat.le_refl _) _).trans ((below_of_drewN _ _).mono (by simp))
          have HBd := Lib.hid hBd
          clear hW hBd
          go_wp2_with fail
          refine (without_any (B := w6.heap.size) (cap := cap4) (HI6.out.kept HBd.out (Nat.le_refl _)) (by decide) HBd.out.size (-1)).mono ?_
          rintro e w7 ⟨v7, rfl, g7, hb7⟩
          rw [withoutI_none] at g7
          have hB7 := HBd.out.trans (hb7.mono HBd.out.size)
          have HP7 : Hid (PlI w w2.heap.size (k + 1) v7 [] w7) := Lib.hid ⟨by simp, ⟨puts, p0, by omega, H6.out.below hB7⟩, gath_base g7 (by have := HBd.out.size; have := B6.out.size; omega), B6.out.trans (hB7.mono B6.out.size)⟩
          obtain ⟨a7, cap7, rfl⟩ := g7.slice
          have hC7 := H6.out.below hB7
          clear g7 hb7 hB7 HBd
          go_wp2_with fail
          refine (hc_len hC7).mono ?_
          rintro e _ ⟨rfl, rfl⟩
          clear hC7
          go_wp2
          go_roundw
          case rel => exact ⟨k + 1, _, by go_num, by omega, HP7⟩
          case measure => simp [intOf]; omega
        · obtain ⟨f, hff⟩ : ∃ f, Hm.first kk row = f := ⟨_, rfl⟩
          have hfl : f < row.length := by rw [← hff]; exact Hm.first_lt h0
          have hf : firstI row = (f : Int) := by unfold firstI; rw [if_neg h0, hff]
          rw [hf]
          go_wp2_with fail
          refine (hc_pop ordLess HC5.out (by omega) h0).mono ?_
          rintro e w6 ⟨rfl, h6, s6⟩
          obtain ⟨b6, hI6, _⟩ := Gath.seat (s6.gath hP5.out.row (by decide) (by decide)) rfl
          obtain rfl : a4 = some ⟨b6, 0, none⟩ := hI6.addr.resolve_left h0
          have q := (hI6.kept ((Below.refl w6.heap.size w6).alloc (Nat.le_refl _) (.cells #[.int .i64 (Hm.top kk row).1, .int .i64 (Hm.top kk row).2] 27)) (Nat.le_refl _)).cell f hfl
          rw [show row.getD f default = Hm.top kk row by rw [← hff]; rfl] at q
          have HI6 := Lib.hid hI6
          have H6 := Lib.hid h6
          have B6 := Lib.hid (hP5.out.below.trans (s6.below.mono hz2))
          have hz6 := s6.size
          have HRE := Lib.hid (withoutI_first row h0)
          rw [hf] at HRE
          have HRL := Lib.hid (Hm.rest_length (kf := kk) h0)
          generalize Hm.top kk row = tp at *
          obtain ⟨t1, t2⟩ := tp
          obtain ⟨q1, q2⟩ := q
          simp only at q1 q2
          have hneq := neqT t1 t2
          have hfi : (f : Int) < (row.length : Int) := by omega
          have hfd : decide (0 ≤ (f : Int)) = true := by simp
          clear hI6 h6 s6 HOP hff hf
          go_wp2
          go_quiet (fail)
          generalize hW : World.drewN _ _ = W6 at *
          have hBd : Below w6.heap.size w6 W6 := by rw [← hW]; exact ((Below.refl _ _).alloc (Nat.le_refl _) _).trans ((below_of_drewN _ _).mono (by simp))
          have HBd := Lib.hid hBd
          clear hW hBd q1 q2
          go_wp2_with fail
          refine (without_any (B := w6.heap.size) (cap := cap4) (HI6.out.kept HBd.out (Nat.le_refl _)) (by omega) HBd.out.size f).mono ?_
          rintro e w7 ⟨v7, rfl, g7, hb7⟩
          rw [HRE.out] at g7
          have hB7 := HBd.out.trans (hb7.mono HBd.out.size)
          have HP7 : Hid (PlI w w2.heap.size (k + 1) v7 (Hm.rest kk row) w7) := Lib.hid ⟨by have := HRL.out; omega, ⟨puts, p0, by omega, H6.out.below hB7⟩, gath_base g7 (by have := HBd.out.size; have := B6.out.size; omega), B6.out.trans (hB7.mono B6.out.size)⟩
          obtain ⟨a7, cap7, rfl⟩ := g7.slice
          have hC7 := H6.out.below hB7
          clear g7 hb7 hB7 HBd
          go_wp2_with fail
          refine (hc_len hC7).mono ?_
          rintro e _ ⟨rfl, rfl⟩
          clear hC7
          go_wp2
          go_roundw
          case rel => exact ⟨k + 1, _, by go_num, by omega, HP7⟩
          case measure => simp [intOf]; omega
      by_cases hk3 : kd = 3
      · subst hk3
        have hg := Try.guardItem
        by_cases h0 : row.length = 0
        · obtain rfl := Hm.nil_of h0
          have hf : firstI ([] : List (Int × Int)) = -1 := rfl
          rw [hf]
          go_wp2_with fail
          refine (hc_peek0 HC5.out h0).mono ?_
          rintro e w6 ⟨rfl, b6⟩
          have hz6 := b6.size
          have hneq := neqT 0 0
          clear HOP
          go_wp2
          go_quiet (fail)
          generalize hW : World.drewN _ _ = W6 at *
          have hBd : Below w6.heap.size w6 W6 := by rw [← hW]; exact ((Below.refl _ _).alloc (Nat.le_refl _) _).trans ((below_of_drewN _ _).mono (by simp))
          have HP7 : Hid (PlI w w2.heap.size (k + 1) (.slice a4 0 cap4) ([]) W6) := Lib.hid ⟨by simp, ⟨puts, p0, by omega, HC5.out.below (b6.trans (hBd.mono b6.size))⟩, hP5.out.row.kept (b6.trans (hBd.mono b6.size)), hP5.out.below.trans ((b6.trans (hBd.mono b6.size)).mono (by omega))⟩
          have hC7 := HC5.out.below (b6.trans (hBd.mono b6.size))
          clear hW hBd b6
          go_wp2_with fail
          refine (hc_len hC7).mono ?_
          rintro e _ ⟨rfl, rfl⟩
          clear hC7
          go_wp2
          go_roundw
          case rel => exact ⟨k + 1, _, by go_num, by omega, HP7⟩
          case measure => simp [intOf]; omega
        · obtain ⟨f, hff⟩ : ∃ f, Hm.first kk row = f := ⟨_, rfl⟩
          have hfl : f < row.length := by rw [← hff]; exact Hm.first_lt h0
          have hf : firstI row = (f : Int) := by unfold firstI; rw [if_neg h0, hff]
          rw [hf]
          go_wp2_with fail
          refine (hc_peek HC5.out h0).mono ?_
          rintro e w6 ⟨rfl, b6⟩
          have hz6 := b6.size
          obtain ⟨b7, hI6, _⟩ := Gath.seat (hP5.out.row.kept b6) rfl
          obtain rfl : a4 = some ⟨b7, 0, none⟩ := hI6.addr.resolve_left h0
          have q := (hI6.kept ((Below.refl w6.heap.size w6).alloc (Nat.le_refl _) (.cells #[.int .i64 (Hm.top kk row).1, .int .i64 (Hm.top kk row).2] 27)) (Nat.le_refl _)).cell f hfl
          rw [show row.getD f default = Hm.top kk row by rw [← hff]; rfl] at q
          generalize Hm.top kk row = tp at *
          obtain ⟨t1, t2⟩ := tp
          obtain ⟨q1, q2⟩ := q
          simp only at q1 q2
          have hneq := neqT t1 t2
          have hfi : (f : Int) < (row.length : Int) := by omega
          have hfd : decide (0 ≤ (f : Int)) = true := by simp
          clear hI6 HOP hff hf
          go_wp2
          go_quiet (fail)
          generalize hW : World.drewN _ _ = W6 at *
          have hBd : Below w6.heap.size w6 W6 := by rw [← hW]; exact ((Below.refl _ _).alloc (Nat.le_refl _) _).trans ((below_of_drewN _ _).mono (by simp))
          have HP7 : Hid (PlI w w2.heap.size (k + 1) (.slice (some ⟨b7, 0, none⟩) row.length cap4) (row) W6) := Lib.hid ⟨by omega, ⟨puts, p0, by omega, HC5.out.below (b6.trans (hBd.mono b6.size))⟩, hP5.out.row.kept (b6.trans (hBd.mono b6.size)), hP5.out.below.trans ((b6.trans (hBd.mono b6.size)).mono (by omega))⟩
          have hC7 := HC5.out.below (b6.trans (hBd.mono b6.size))
          clear hW hBd b6 q1 q2
          go_wp2_with fail
          refine (hc_len hC7).mono ?_
          rintro e _ ⟨rfl, rfl⟩
          clear hC7
          go_wp2
          go_roundw
          case rel => exact ⟨k + 1, _, by go_num, by omega, HP7⟩
          case measure => simp [intOf]; omega
      by_cases hk4 : kd = 4
      · subst hk4
        obtain ⟨c, hc⟩ : ∃ c : Nat, bits .and .i64 n 7 = (c : Int) := ⟨(n % 8).toNat, by rw [and_7]; omega⟩
        have hc7 : c ≤ 7 := by have := and_7 n; omega
        obtain ⟨m, hmm⟩ : ∃ m : Nat, min c row.length = m := ⟨_, rfl⟩
        have houl := outs_min c row
        rw [hmm] at houl
        have hmi : min (c : Int) (row.length : Int) = (m : Int) := by omega
        obtain ⟨b5, hI5, _⟩ := Gath.seat hP5.out.row rfl
        have HSo := Lib.hid (sorted_any (cap := cap4) hI5 hc4 (by omega))
        clear hI5
        go_upto_region 27 with fail
        go_cut [24, 13] from 24 to 145 (fun s24 s13 wx => s24 = .int .i64 k ∧ s13 = .int .i64 m ∧ wx = w5)
        case first =>
          go_wp2_with fail
          all_goals
            go_meet
            exact ⟨rfl, by congr 1; omega, rfl⟩
        case rest =>
        obtain ⟨rfl, rfl, rfl⟩ := hcut
        go_wp2_with fail
        refine HSo.out.mono ?_
        rintro e w6 ⟨v14, rfl, g14, hb6⟩
        rw [Hm.srt_length] at g14
        obtain ⟨a14, cap14, rfl⟩ := g14.slice
        obtain ⟨b14, _, hc14⟩ := Gath.seat g14 (Hm.srt_length _)
        have hmc : m ≤ cap14 := by omega
        have hmci : (m : Int) ≤ (cap14 : Int) := by omega
        have hm0 : (0 : Int) ≤ (m : Int) := by omega
        have hmt : ((m : Int)).toNat = m := by omega
        have hTS : ∀ W, Below w6.heap.size w6 W → Calls Try.prog 18 #[.pointer (some ⟨w2.heap.size, 0, none⟩), .int .i64 c] W (fun e w7 => ∃ a7 cap7, e = .returned (.slice a7 m cap7) ∧ Hid (HC 10 kk w2.heap.size w7 (Hm.left kk m row) puts) ∧ Hid (Spared w2.heap.size w6 w7) ∧ Hid (∀ W8, Below w7.heap.size w7 W8 → Calls Try.prog 17 #[.slice a7 m cap7, .slice a14 m cap14] W8 (fun e w9 => e = .returned (.bool true) ∧ Below W8.heap.size W8 w9))) := by
          intro W hW
          refine (hc_take ordLess (HC5.out.below (hb6.trans (hW.mono hb6.size))) (by omega) c).mono ?_
          rintro e w7 ⟨v7, rfl, g7, h7, s7⟩
          rw [show ((c : Int)).toNat = c by omega, houl.1] at g7
          rw [show ((c : Int)).toNat = c by omega, houl.2.1] at h7
          rw [houl.2.2] at g7
          obtain ⟨a7, cap7, rfl⟩ := g7.slice
          have sp : Spared w2.heap.size w6 w7 := (Spared.of_below hW (by have := hb6.size; omega)).trans s7
          refine ⟨a7, cap7, rfl, Lib.hid h7, Lib.hid sp, Lib.hid fun W8 hW8 => ?_⟩
          obtain ⟨b7, hI7, _⟩ := Gath.seat g7 houl.2.2
          obtain ⟨b8, hI8, _⟩ := Gath.seat (sp.gath g14 (by decide) (by decide)) (Hm.srt_length _)
          have hI9 := hI8.take (n := m) (by omega)
          rw [Hm.srt_take] at hI9
          have h := same_any (cap := cap7) (cap' := cap14) (hI7.kept hW8 (Nat.le_refl _)) (hI9.kept hW8 (Nat.le_refl _)) (by omega) (by omega) hW8.size
          rw [decide_eq_true (rfl : Hm.outs kk m row = Hm.outs kk m row)] at h
          exact h
        have HTS := Lib.hid hTS
        have hz6 := hb6.size
        have B6 := Lib.hid (hP5.out.below.trans (hb6.mono (by omega)))
        have G6 := Lib.hid (hP5.out.row.kept hb6)
        have e2 : w6.cell? ⟨wr.heap.size, 2, none⟩ = some (.int .i64 n) := heap_cell (heap_below HOP.out hb6 hlt5) rfl
        clear hTS g14 hb6 HSo
        go_upto_region 29 with fail
        go_cut [24, 131] from 24 to 145 (fun s24 s131 wx => s24 = .int .i64 k ∧ s131 = .bool false ∧ Hid (HC 10 kk w2.heap.size wx (Hm.left kk m row) puts) ∧ Hid (Spared w2.heap.size w6 wx))
        case first =>
          go_region_with (first
            | (go_at_call 18; refine (HTS.out _ (by first | exact Below.refl _ _ | exact (Below.refl _ _).drew)).mono ?_; rintro e w7 ⟨a7, cap7, rfl, hC7, hS7, hSM⟩)
            | (go_at_call 17; refine (hSM.out _ (by first | exact Below.refl _ _ | exact (Below.refl _ _).drew)).mono ?_; rintro e w9 ⟨rfl, hB9⟩))
          all_goals
            go_wp2_with fail
            go_meet
            have hB79 : Below w7.heap.size w7 w9 := by first | exact hB9 | exact ((Below.refl w7.heap.size w7).drew).trans hB9
            exact ⟨rfl, rfl, Lib.hid (hC7.out.below hB79), Lib.hid (hS7.out.trans (Spared.of_below hB79 (by have := hS7.out.size; omega)))⟩
        case rest =>
          obtain ⟨rfl, rfl, hC9, hS9⟩ := hcut
          have hlm : (Hm.left kk m row).length = row.length - m := Hm.left_length _ _
          have HLM := Lib.hid hlm
          have G9 := Lib.hid (hS9.out.gath G6.out (by decide) (by decide))
          have B9 := Lib.hid (B6.out.trans (hS9.out.below.mono hz2))
          have hz9 := B9.out.size
          have hmr : m ≤ row.length := by omega
          clear hlm e2 HTS houl hmi hmm HOP
          go_wp2
          go_loopw [4, 133] (fun v i W => ∃ j : Nat, i = .int .i64 j ∧ j ≤ m ∧ Hid (Gath W w.heap.size 27 2 v (Hm.left kk j row).length (its (Hm.left kk j row))) ∧ Hid (Below wc.heap.size wc W))
            (fun _ i _ => m - (intOf i).toNat)
          case atStart => exact ⟨0, rfl, Nat.zero_le _, G9, Lib.hid (Below.refl _ _)⟩
          case round =>
            obtain ⟨j, rfl, hj, hG, hB⟩ := hrel
            obtain ⟨a9, cap9, rfl⟩ := hG.out.slice
            obtain ⟨b9, hI9, _⟩ := Gath.seat hG.out rfl
            have hbj := hB.out.size
            by_cases hjm : j < m
            · have hlj : (Hm.left kk j row).length = row.length - j := Hm.left_length _ _
              have hne : (Hm.left kk j row).length ≠ 0 := by omega
              have HWF := Lib.hid (withoutI_first _ hne)
              have HSN := Lib.hid (Hm.left_snoc (kf := kk) j row (by omega))
              have hls : (Hm.left kk j row).length ≤ 100000 := by omega
              have HI9 := Lib.hid hI9
              clear hI9 hlj hne
              go_wp2_with fail
              refine (first_any (cap := cap9) HI9.out hls (Nat.le_refl _)).mono ?_
              rintro e wa ⟨rfl, hba⟩
              have HBA := Lib.hid hba
              clear hba
              go_wp2_with fail
              refine (without_any (cap := cap9) (HI9.out.kept HBA.out (Nat.le_refl _)) hls HBA.out.size _).mono ?_
              rintro e wb ⟨vb, rfl, gb, hbb⟩
              rw [HWF.out, ← HSN.out] at gb
              have GB := Lib.hid (gath_base gb (base' := w.heap.size) (by have := HBA.out.size; omega))
              have BB := Lib.hid (hB.out.trans ((HBA.out.trans (hbb.mono HBA.out.size)).mono hbj))
              clear gb hbb hls
              go_wp2
              go_roundw
              case rel => exact ⟨j + 1, by go_num, by omega, GB, BB⟩
              case measure => simp [intOf]; omega
            · obtain rfl : j = m := by omega
              clear hI9
              have hC9' := hC9.out.below hB.out
              have HP9 : Hid (PlI w w2.heap.size (k + 1) (.slice a9 (Hm.left kk j row).length cap9) (Hm.left kk j row) _) := Lib.hid ⟨by have := HLM.out; omega, ⟨puts, p0, by omega, hC9'⟩, hG.out, B9.out.trans (hB.out.mono hz9)⟩
              go_wp2_with fail
              refine (hc_len hC9').mono ?_
              rintro e _ ⟨rfl, rfl⟩
              clear hC9'
              go_wp2
              go_roundw
              case rel => exact ⟨k + 1, _, by go_num, by omega, HP9⟩
              case measure => simp [intOf]; omega
      go_wp2_with fail
      refine (hc_len HC5.out).mono ?_
      rintro e _ ⟨rfl, rfl⟩
      go_wp2
      go_roundw
      case rel => exact ⟨k + 1, row, by go_num, by omega, Lib.hid ⟨by omega, ⟨puts, p0, by omega, HC5.out⟩, hP5.out.row, hP5.out.below⟩⟩
      case measure => simp [intOf]; omega
    · obtain rfl : k = len0 := by omega
      go_wp2
      go_ret
      exact ⟨rfl, hP.out.below⟩
end Go.Proofs.Ytilecfmaehkafaa
