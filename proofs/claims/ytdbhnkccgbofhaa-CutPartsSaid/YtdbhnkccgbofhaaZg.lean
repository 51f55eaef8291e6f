/- Contract: up to so many of the parts that no thing has. -/
import Derived.Test.YtdbhnkccgbofhaaZf
import Derived.Test.YtdbhnkccgbofhaaCol
set_option linter.unusedVariables false
set_option linter.unusedSectionVars false
namespace Go.Proofs.Ytdbhnkccgbofhaa.L09
open Go.RowKit Go.Shelf Rk

attribute [local go_sem] Oper.semAt_some

theorem Try.infoInt : (Try.prog.info? 3).map (fun i => (i.zero, i.size, i.bytes)) = some (some (.int .i64 0), 1, 8) := by kernel_rfl
theorem boxed_alloc1 (w : World) (u : Value) (t : TypeId) {w1 : World} (hb : Below (w.heap.size + 1) (w.alloc (.cells #[u] t)) w1) : Boxed w1 w.heap.size t u :=
  (hb.block w.heap.size (by omega)).trans (Boxed.new w t u)
theorem boxed_alloc3 (w : World) (u : Value) (t : TypeId) (o2 o3 : Obj) {w1 : World} (hb : Below (w.heap.size + 1 + 1 + 1) (((w.alloc (.cells #[u] t)).alloc o2).alloc o3) w1) : Boxed w1 w.heap.size t u :=
  (hb.block w.heap.size (by omega)).trans (((Boxed.new w t u).alloc o2).alloc o3)
theorem boxed_alloc4 (w : World) (u : Value) (t : TypeId) (o2 o3 o4 : Obj) {w1 : World} (hb : Below (w.heap.size + 1 + 1 + 1 + 1) ((((w.alloc (.cells #[u] t)).alloc o2).alloc o3).alloc o4) w1) : Boxed w1 w.heap.size t u :=
  (hb.block w.heap.size (by omega)).trans ((((Boxed.new w t u).alloc o2).alloc o3).alloc o4)
def ints (l : List Int) : List Value := l.map fun x => .int .i64 x
theorem ints_snoc (l : List Int) (x : Int) : ints (l ++ [x]) = ints l ++ [.int .i64 x] := by unfold ints; rw [List.map_append]; rfl
def ListPost (w : World) (ys : List Int) (e : Ending) (w' : World) : Prop :=
  ∃ v, e = .returned v ∧ Gath w' w.heap.size 3 1 v ys.length (ints ys) ∧ Below w.heap.size w w'
set_option maxRecDepth 100000 in
theorem none_any {w : World} {a : Option Addr} {len cap : Nat} (k m : Int) (hm : m ≤ 0) : Calls Try.prog 23 #[.slice a len cap, .int .i64 k, .int .i64 m] w (ListPost w []) := by
  have hd : decide (m ≤ 0) = true := by simpa using hm
  refine (callsIn_wide (n := 3)).1 ?_
  refine callsIn_of_wp_marks Try.func23 rfl trivial ?_ rfl
  simp only [Try.ntmps23, List.size_toArray, List.length_cons, List.length_nil, Nat.reduceAdd, Nat.reduceSub, Array.replicate_succ, Array.replicate_zero, List.push_toArray, List.append_toArray, List.nil_append, List.cons_append]
  gi_wp2
  exact ⟨.slice (some ⟨w.heap.size + 1 + 1, 0, none⟩) 0 0, by simp [results, Try.f23, go_sem], _, rfl, .inl ⟨rfl, rfl, _, rfl⟩, ((((Below.refl _ w).alloc (Nat.le_refl _) _).alloc (by simp) _).alloc (by simp; omega) _).alloc (by simp; omega) _⟩
set_option maxRecDepth 100000 in
set_option maxHeartbeats 2000000 in
theorem some_any {w : World} {a : Option Addr} {b off len cap : Nat} {ms : List Int} (hms : IntsAt .i64 w.heap.size w a b off len ms) (hlen : len ≤ 100000) (k : Int) (hk : k ≤ 1000000) (m : Nat) (hm1 : 1 ≤ m) (hm : m ≤ 100000) :
    Calls Try.prog 23 #[.slice a len cap, .int .i64 k, .int .i64 (m : Int)] w (ListPost w ((emptyL (fun x => decide (x ∈ ms)) k.toNat).take m)) := by
  obtain ⟨i0, hi, hz0, hz1, hz2⟩ := info_parts Try.infoInt
  have HI := Lib.hid hi
  have HZ0 := Lib.hid hz0
  have HZ1 := Lib.hid hz1
  have HZ2 := Lib.hid hz2
  clear hi hz0 hz1 hz2
  have hd : decide ((m : Int) ≤ 0) = false := by simp; omega
  have b0 : Below w.heap.size w ((((w.alloc (.cells #[.int .i64 (m : Int)] 3)).alloc (.cells #[.slice none 0 0] 24)).alloc (.cells #[] 3)).alloc (.cells #[.slice (some ⟨w.heap.size + 1 + 1, 0, none⟩) 0 0] 24)) := ((((Below.refl _ w).alloc (Nat.le_refl _) _).alloc (by simp) _).alloc (by simp; omega) _).alloc (by simp; omega) _
  have HALL := Lib.hid (empty_any (cap := cap) ((hms.kept b0 (Nat.le_refl _)).mono b0.size) hlen k)
  have HB0 := Lib.hid b0
  have hDl : (emptyL (fun x => decide (x ∈ ms)) k.toNat).length ≤ 1000000 := Nat.le_trans (emptyL_length _ _) (by omega)
  obtain ⟨D, hDD⟩ : ∃ D, emptyL (fun x => decide (x ∈ ms)) k.toNat = D := ⟨_, rfl⟩
  rw [hDD] at hDl ⊢
  clear hms b0
  refine (callsIn_wide (n := 3)).1 ?_
  refine callsIn_of_wp_marks Try.func23 rfl trivial ?_ rfl
  simp only [Try.ntmps23, List.size_toArray, List.length_cons, List.length_nil, Nat.reduceAdd, Nat.reduceSub, Array.replicate_succ, Array.replicate_zero, List.push_toArray, List.append_toArray, List.nil_append, List.cons_append]
  gi_wp2_with (refine ⟨trivial, ?_⟩; gi_at_call 65; refine (callsIn_wide.2 HALL.out).mono ?_; rintro e w1 ⟨b1, b2, mb, nn, rfl, hE, hB1⟩)
  have hsz := hB1.size
  simp only [World.size_alloc] at hsz hB1 hE
  have hB := HB0.out.trans (hB1.mono (by omega))
  have bM := boxed_alloc4 w (.int .i64 (m : Int)) 3 (.cells #[.slice none 0 0] 24) (.cells #[] 3) (.cells #[.slice (some ⟨w.heap.size + 1 + 1, 0, none⟩) 0 0] 24) hB1
  have bR := boxed_alloc3 (w.alloc (.cells #[.int .i64 (m : Int)] 3)) (.slice none 0 0) 24 (.cells #[] 3) (.cells #[.slice (some ⟨w.heap.size + 1 + 1, 0, none⟩) 0 0] 24) (w1 := w1) (by simpa using hB1)
  have bO := boxed_alloc1 (((w.alloc (.cells #[.int .i64 (m : Int)] 3)).alloc (.cells #[.slice none 0 0] 24)).alloc (.cells #[] 3)) (.slice (some ⟨w.heap.size + 1 + 1, 0, none⟩) 0 0) 24 (w1 := w1) (by simpa using hB1)
  simp only [World.size_alloc] at bR bO
  have hst := (empty1_in 2 (by omega) hk w1 hE (Nat.le_refl _)).stops
  clear hB1
  have hC0 : Coll w.heap.size (w.heap.size + 1 + 1 + 1 + 1) w1.heap.size w.heap.size (w.heap.size + 1) (w.heap.size + 1 + 1 + 1) 3 24 3 (.int .i64 (m : Int)) (.slice none 0 0) w 0 [] w1 (.slice (some ⟨w.heap.size + 1 + 1, 0, none⟩) 0 0) :=
    ⟨bO, .inl ⟨rfl, rfl, _, rfl⟩, bM, bR, hB, Nat.le_refl _⟩
  rw [hDD] at hst
  refine wpIn_rangeFunc_ownG rfl (by omega) (gf := 86) (lb := #[.pointer (some ⟨b1, 0, none⟩), .pointer (some ⟨b2, 0, none⟩)]) rfl trivial (enters_of Try.func86 (by kernel_rfl) rfl)
    hst Mid.trans (Mid.putObj (Nat.le_refl _)) (Below.refl _ _) (fun _ => rfl)
    (fun pre W => pre.length < m ∧ CollI w.heap.size (w.heap.size + 1 + 1 + 1 + 1) w1.heap.size w.heap.size (w.heap.size + 1) (w.heap.size + 1 + 1 + 1) 3 24 3 (.int .i64 (m : Int)) (.slice none 0 0) w pre.length (ints pre) W)
    (fun c pre W => c = .ret ∧ pre.length = m ∧ ∃ v, Boxed W (w.heap.size + 1) 24 v ∧ Gath W w1.heap.size 3 1 v pre.length (ints pre) ∧ Below w.heap.size w W)
    (fun s A B row hs hg hr => ⟨hs.1, hs.2.elim fun v hC => ⟨v, hC.turned (by omega) (Nat.le_refl _) hg hr⟩⟩)
    (fun c s A B row hs hg hr => by
      obtain ⟨hc, e1, v, e3, e4, e5⟩ := hs
      exact ⟨hc, e1, v, boxed_kept e3 hg (fun r e => (hr r e).2), gath_kept e4 hg (fun r e => (hr r e).2), e5.grown hg e5.size (fun r e => by have := (hr r e).1; omega)⟩)
    ⟨by show 0 < m; omega, _, hC0⟩
    ?_ ?assign ?body ?done ?stop
  case assign =>
    intro l x W K hK
    unfold enc1
    gi_wp2
    exact hK
  case body =>
    rintro l pre x W ⟨hpm, v, hC⟩ hltz
    obtain ⟨a6, cap6, rfl⟩ := hC.row.slice
    have c1 := hC.box.cell
    have c2 := hC.boxM.cell
    have c3 := hC.boxR.cell
    have f3 := hC.boxR.frozen
    have HC := Lib.hid hC
    have hszW := hC.size
    clear hC hC0 bM bR bO hB hst hE
    by_cases hme : pre.length + 1 = m
    · have hmb : ((pre.length : Int) + 1 == (m : Int)) = true := by simp; omega
      have HM := Lib.hid hme
      clear hme
      gi_wp2_with (gi_at_builtin; refine wpListIn_append_gath _ rfl _ _ 24 rfl w1.heap.size 3 i0 (.int .i64 0) 1 8 Try.underlying24 HI.out HZ0.out HZ1.out HZ2.out rfl (by decide) _ _ _ rfl (HC.out.row.alloc _) ⟨W.heap.size, 0, none⟩ 1 1 [.int .i64 x] rfl rfl (cell_one _ _ _) (one_val rfl) (by decide) (by unfold maxLen; omega) (by omega) (by simp; omega) ?_; intro v' w3 row hown hgrow hrow; obtain ⟨g', cap', rfl⟩ := ownsRow_succ hown; obtain ⟨hb1, hC1, hk1, hm1⟩ := HC.out.appended (by omega) (by omega) (by omega) (by omega) (by omega) (by omega) (by omega) hown hgrow hrow; have hc1 := hb1.cell; have hf1 := hb1.frozen; clear c1 c2 c3 f3; have c1 := hC1.box.cell; have c2 := hC1.boxM.cell; have c3 := hC1.boxR.cell; have f3 := hC1.boxR.frozen)
      refine ⟨(hk1.trans (KeepsOthers.setCell _ _ _)).from _, rfl, by rw [List.length_append]; exact HM.out, .slice (some ⟨g', 0, none⟩) (pre.length + 1) cap', hC1.boxR.set _, ?_, hC1.below.setCell (p := ⟨w.heap.size + 1, 0, none⟩) (by show w.heap.size ≤ w.heap.size + 1; omega) _⟩
      rw [List.length_append, ints_snoc]
      exact gath_set hC1.row (by omega) _
    · have hmb : ((pre.length : Int) + 1 == (m : Int)) = false := by simp; omega
      have hpl : pre.length + 1 < m := by omega
      clear hme
      gi_wp2_with (gi_at_builtin; refine wpListIn_append_gath _ rfl _ _ 24 rfl w1.heap.size 3 i0 (.int .i64 0) 1 8 Try.underlying24 HI.out HZ0.out HZ1.out HZ2.out rfl (by decide) _ _ _ rfl (HC.out.row.alloc _) ⟨W.heap.size, 0, none⟩ 1 1 [.int .i64 x] rfl rfl (cell_one _ _ _) (one_val rfl) (by decide) (by unfold maxLen; omega) (by omega) (by simp; omega) ?_; intro v' w3 row hown hgrow hrow; obtain ⟨g', cap', rfl⟩ := ownsRow_succ hown; obtain ⟨hb1, hC1, hk1, hm1⟩ := HC.out.appended (by omega) (by omega) (by omega) (by omega) (by omega) (by omega) (by omega) hown hgrow hrow; have hc1 := hb1.cell; have hf1 := hb1.frozen; clear c1 c2 c3 f3; have c1 := hC1.box.cell; have c2 := hC1.boxM.cell)
      refine ⟨hk1.from _, hm1, by rw [List.length_append]; exact hpl, .slice (some ⟨g', 0, none⟩) (pre.length + 1) cap', ?_⟩
      rw [List.length_append, ints_snoc]
      exact hC1
  case done =>
    rintro E ys W hD rfl ⟨hpm, v, hC⟩ hK
    obtain ⟨a6, cap6, rfl⟩ := hC.row.slice
    have c1 := hC.box.cell
    have c3 := hC.boxR.cell
    have f3 := hC.boxR.frozen
    have HC := Lib.hid hC
    clear hC hC0 bM bR bO hB hst hE
    gi_wp2
    have hK' := (KeepsOthers.setCell W ⟨w.heap.size + 1, 0, none⟩ (.slice a6 ys.length cap6)).same E _ hK rfl
    refine ⟨by simp, .inl ⟨_, _, rfl, run_takeDeferred hK', ?_⟩⟩
    have hc5 := cell_kept (HC.out.boxR.set (.slice a6 ys.length cap6)).cell (grownBy_putObj' _ E (.deferred none)) (fun r e => by cases e; exact ⟨_, hK', rfl⟩)
    refine ⟨.slice a6 ys.length cap6, ?_, _, rfl, ?_, ?_⟩
    · simp [results, Try.f23, go_sem, hc5]
    · rw [List.take_of_length_le (by omega)]
      exact gath_putObj (gath_base (gath_set HC.out.row (by omega) _) (by omega)) _ hK' rfl
    · exact (HC.out.below.setCell (p := ⟨w.heap.size + 1, 0, none⟩) (by show w.heap.size ≤ w.heap.size + 1; omega) _).trans (belowK_b (w := w) (Nat.le_refl _) _ E _ _ (by omega) hK' rfl rfl)
  case stop =>
    rintro E c pre W hD hpre ⟨rfl, hil, v, hbR, hg, hbel⟩ hK
    obtain ⟨a6, cap6, rfl⟩ := hg.slice
    gi_wp2
    refine ⟨by simp, .inl ⟨_, _, rfl, run_takeDeferred hK, ?_⟩⟩
    have hc5 := cell_kept hbR.cell (grownBy_putObj' _ E (.deferred none)) (fun r e => by cases e; exact ⟨_, hK, rfl⟩)
    have htk : D.take m = pre := by
      obtain ⟨t, ht⟩ := hpre
      rw [← ht, ← hil, List.take_left]
    refine ⟨.slice a6 pre.length cap6, ?_, _, rfl, ?_, ?_⟩
    · simp [results, Try.f23, go_sem, hc5]
    · rw [htk]
      exact gath_putObj (gath_base hg (by omega)) _ hK rfl
    · exact hbel.trans (belowK_b (w := w) (Nat.le_refl _) _ E _ _ (by omega) hK rfl rfl)
/-- Whatever number is asked for. -/
theorem lempty_any {w : World} {a : Option Addr} {b off len cap : Nat} {ms : List Int} (hms : IntsAt .i64 w.heap.size w a b off len ms) (hlen : len ≤ 100000) (k : Int) (hk : k ≤ 1000000) (m : Int) (hm : m ≤ 100000) :
    Calls Try.prog 23 #[.slice a len cap, .int .i64 k, .int .i64 m] w (ListPost w ((emptyL (fun x => decide (x ∈ ms)) k.toNat).take m.toNat)) := by
  by_cases h : m ≤ 0
  · rw [show m.toNat = 0 by omega]
    exact none_any k m h
  · have := some_any (cap := cap) hms hlen k hk m.toNat (by omega) (by omega)
    rwa [show ((m.toNat : Nat) : Int) = m by omega] at this
end Go.Proofs.Ytdbhnkccgbofhaa.L09
