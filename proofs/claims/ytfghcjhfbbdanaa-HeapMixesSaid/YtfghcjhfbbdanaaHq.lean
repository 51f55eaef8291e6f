/- Contracts: up to so many that are taken out. -/
import Derived.Test.YtfghcjhfbbdanaaHz
set_option linter.unusedVariables false
namespace Go.Proofs.Ytfghcjhfbbdanaa
open Go.RowKit Go.Shelf

attribute [local go_sem] Oper.semAt_some

/-- A variable that holds a thing. -/
def Boxed2 (W : World) (b : Nat) (x : Int × Int) : Prop := W.heap[b]? = some (.cells #[.int .i64 x.1, .int .i64 x.2] 26 (0, 0))
theorem boxed_eq {A B : World} {b : Nat} {t : TypeId} {v : Value} (h : Boxed A b t v) (e : B.heap[b]? = A.heap[b]?) : Boxed B b t v := e.trans h
theorem DrI.gath {w : World} {hb lb hi B5 : Nat} {pre : List (Int × Int)} {W : World} {v : Value} (h : DrI w hb lb hi B5 pre W) (hv : Boxed W B5 24 v) : Gath W hi 26 2 v pre.length (its pre) := by
  obtain ⟨⟨u, h1, h2⟩, _⟩ := h
  have : u = v := by
    have e : some (Obj.cells #[u] 24 (0, 0)) = some (Obj.cells #[v] 24 (0, 0)) := h1.symm.trans hv
    simpa using e
  subst this
  exact h2
/-- What take leaves. -/
def TakePost (K : Nat) (kf : Int × Int → Int) (lo hb lb : Nat) (w : World) (row : List (Int × Int)) (puts : Int) (k : Nat) (e : Ending) (w' : World) : Prop :=
  ∃ v, e = .returned v ∧ Gath w' w.heap.size 26 2 v (Hm.outs kf k row).length (its (Hm.outs kf k row)) ∧ HIs K kf lo hb lb w' (Hm.left kf k row) puts ∧ Turned (fun k => k = hb ∨ k = lb) w w'
theorem hb_lb {K : Nat} {kf : Int × Int → Int} {lo hb lb : Nat} {w : World} {row : List (Int × Int)} {puts : Int} (h : HIs K kf lo hb lb w row puts) : hb < w.heap.size ∧ lb < w.heap.size := by
  obtain ⟨v, L, hm, _⟩ := h
  exact ⟨heap_lt hm.box, hm.lt⟩
theorem HIs.put {K : Nat} {kf : Int × Int → Int} {lo hb lb : Nat} {A : World} {row : List (Int × Int)} {puts : Int} (h : HIs K kf lo hb lb A row puts) {l : Nat} {o : Obj} (hl : A.heap[l]? = some o) (h1 : l ≠ hb) (h2 : l ≠ lb) (o' : Obj) : HIs K kf lo hb lb (A.putObj l o') row puts :=
  h.turned (Turned.of_grown (grownBy_putObj' A l o')) (fun e => h1 (by cases e; rfl)) (fun e => h2 (by cases e; rfl))

set_option maxRecDepth 100000 in
set_option maxHeartbeats 4000000 in
theorem take_any {K : Nat} {kf : Int × Int → Int} (HK : IsOrd K kf) {lo hb lb : Nat} {w : World} {row : List (Int × Int)} {puts : Int} (h : HIs K kf lo hb lb w row puts) (hs : row.length ≤ 100001) (m : Int) :
    Calls Try.prog 17 #[.pointer (some ⟨hb, 0, none⟩), .int .i64 m] w (TakePost K kf lo hb lb w row puts m.toNat) := by
  obtain ⟨hb1, hb2⟩ := hb_lb h
  have H := Lib.hid h
  clear h
  refine (callsIn_wide (n := 3)).1 ?_
  refine callsIn_of_wp_marks Try.func17 rfl trivial ?_ rfl
  simp only [Try.ntmps17, List.size_toArray, List.length_cons, List.length_nil, Nat.reduceAdd, Nat.reduceSub, Array.replicate_succ, Array.replicate_zero, List.push_toArray, List.append_toArray, List.nil_append, List.cons_append]
  by_cases hm : m ≤ 0
  · gi_wp2
    have hk0 : m.toNat = 0 := by omega
    have hB : Below w.heap.size w ((((w.alloc (Obj.cells #[Value.int IntKind.i64 m] 3)).alloc (Obj.cells #[Value.slice (some ⟨w.heap.size + 1 + 1, 0, none⟩) 0 0] 24)).alloc (Obj.cells #[] 26)).alloc (Obj.cells #[Value.slice (some ⟨w.heap.size + 1 + 1, 0, none⟩) 0 0] 24)) :=
      ((((Below.refl w.heap.size w).alloc (Nat.le_refl _) _).alloc (by simp) _).alloc (by simp; omega) _).alloc (by simp; omega) _
    refine ⟨.slice (some ⟨w.heap.size + 1 + 1, 0, none⟩) 0 0, by simp [results, Try.f17, go_sem], ?_⟩
    refine ⟨_, rfl, ?_, ?_, Turned.of_below hB⟩
    · rw [hk0, Hm.outs_zero]
      exact .inl ⟨rfl, rfl, _, rfl⟩
    · rw [hk0, Hm.left_zero]
      exact H.out.below hB
  · have hm0 : 0 < m := by omega
    gi_wp2_with (refine ⟨trivial, ?_⟩; gi_at_call 18; refine (callsIn_wide.2 (drain_any hb _)).mono ?_; rintro e w1 ⟨rfl, hw1⟩; refine Hid.out ?_)
    have bM : Boxed w1 w.heap.size 3 (.int .i64 m) := by rw [← hw1]; exact heap_alloc (heap_alloc (heap_alloc (heap_alloc (heap_new _ rfl) _) _) _) _
    have bR : Boxed w1 (w.heap.size + 1) 24 (.slice none 0 0) := by rw [← hw1]; exact heap_alloc (heap_alloc (heap_alloc (heap_new _ (by simp)) _) _) _
    have bO : Boxed w1 (w.heap.size + 1 + 1 + 1) 24 (.slice (some ⟨w.heap.size + 1 + 1, 0, none⟩) 0 0) := by rw [← hw1]; exact heap_alloc (heap_new _ (by simp)) _
    have hx : w1.heap[w.heap.size + 1 + 1 + 1 + 1]? = some (.cells #[.pointer (some ⟨hb, 0, none⟩)] 33 (0, 0)) := by rw [← hw1]; exact heap_new _ (by simp)
    have hz : w1.heap.size = w.heap.size + 1 + 1 + 1 + 1 + 1 := by rw [← hw1]; simp
    have hB : Below w.heap.size w w1 := by rw [← hw1]; exact (((((Below.refl w.heap.size w).alloc (Nat.le_refl _) _).alloc (by simp) _).alloc (by simp; omega) _).alloc (by simp; omega) _).alloc (by simp; omega) _
    clear hw1
    obtain ⟨i0, hi, hz0, hz1, hz2⟩ := info_parts Try.infoItem
    have HI := Lib.hid hi
    have HZ0 := Lib.hid hz0
    have HZ1 := Lib.hid hz1
    have HZ2 := Lib.hid hz2
    clear hi hz0 hz1 hz2
    have HIS := Lib.hid (H.out.below hB)
    have hDr : DrI w hb lb w1.heap.size (w.heap.size + 1 + 1 + 1) [] w1 := ⟨⟨_, bO, .inl ⟨rfl, rfl, _, rfl⟩⟩, Turned.of_below hB, Nat.le_refl _⟩
    refine Lib.hid ?_
    gi_wp2_with fail
    refine wpIn_rangeFunc_turns rfl (by omega) (gf := 25) (lb := #[.pointer (some ⟨w.heap.size + 1 + 1 + 1 + 1, 0, none⟩)]) rfl trivial (enters_of Try.func25 (by kernel_rfl) rfl)
      (drain_turns HK 2 (by omega) HIS.out hs hx (by omega) (by omega)) (fun k e => by rcases e with e | e <;> omega) Keep3.trans
      (fun A l o o' hl ho hc => ⟨(grownBy_putObj' A l o').size, World.putObj_heap_other (by omega), World.putObj_heap_other (by omega), World.putObj_heap_other (by omega)⟩)
      (fun xs A l o o' hS hl ho hc => ⟨hS.1, hS.2.put ho (by omega) (by omega) o'⟩)
      (fun xs A l o o' hS hl ho hc => by obtain ⟨k, e1, e2, e3, e4⟩ := hS; exact ⟨k, e1, e2, e3, e4.put ho (by omega) (by omega) o'⟩)
      (Below.refl _ _) (fun _ => rfl)
      (fun pre W => (pre.length < m.toNat ∧ Boxed W w.heap.size 3 (.int .i64 m) ∧ Boxed W (w.heap.size + 1) 24 (.slice none 0 0)) ∧ DrI w hb lb w1.heap.size (w.heap.size + 1 + 1 + 1) pre W)
      (fun c pre W => (c = .ret ∧ pre.length = m.toNat ∧ Turned (fun k => k = hb ∨ k = lb) w W) ∧ ∃ v, Boxed W (w.heap.size + 1) 24 v ∧ Gath W w1.heap.size 26 2 v pre.length (its pre))
      (OwnFrom.and (fun s A B row hs hg hr => ⟨hs.1, boxed_kept hs.2.1 hg (fun r e => (hr r e).2), boxed_kept hs.2.2 hg (fun r e => (hr r e).2)⟩) (DrI.own (by omega)))
      (fun c => fun s A B row hs hg hr => ⟨⟨hs.1.1, hs.1.2.1, hs.1.2.2.trans (Turned.of_grown hg) (fun _ _ e => e) (fun i hi' e => by have := (hr i e.symm).1; omega)⟩, hs.2.elim fun v hv => ⟨v, boxed_kept hv.1 hg (fun r e => (hr r e).2), gath_kept hv.2 hg (fun r e => (hr r e).2)⟩⟩)
      (fun s A B hs ht => ⟨⟨hs.1.1, boxed_turned hs.1.2.1 ht (fun e => by rcases e with e | e <;> omega), boxed_turned hs.1.2.2 ht (fun e => by rcases e with e | e <;> omega)⟩, hs.2.turned ht (by omega) (by omega) (by omega) (by omega)⟩)
      ⟨⟨by simp only [List.length_nil]; omega, bM, bR⟩, hDr⟩
      (fun x a' W => ∃ Bx, w1.heap.size ≤ Bx ∧ Bx < W.heap.size ∧ Boxed2 W Bx x ∧ a' = { tmps := #[.pointer (some ⟨hb, 0, none⟩), .int .i64 m, undef, .pointer (some ⟨w.heap.size, 0, none⟩), .pointer (some ⟨w.heap.size + 1, 0, none⟩), .pointer (some ⟨w.heap.size + 1 + 1 + 1, 0, none⟩), .pointer (some ⟨Bx, 0, none⟩), .slice (some ⟨w.heap.size + 1 + 1, 0, none⟩) 0 0, .int .i64 m, .bool false, undef, .pointer (some ⟨hb, 0, none⟩), .func (.func 25) #[] #[.pointer (some ⟨w.heap.size + 1 + 1 + 1 + 1, 0, none⟩)], .agg #[.int .i64 x.1, .int .i64 x.2], undef, undef, undef, undef, undef, undef, undef, undef, undef, undef], defers := [] })
      (fun x a' A l o o' hA hl ho hc => by
        obtain ⟨Bx, e1, e2, e3, e4⟩ := hA
        refine ⟨Bx, e1, Nat.lt_of_lt_of_le e2 (grownBy_putObj' A l o').size, ?_, e4⟩
        refine (World.putObj_heap_other (fun e => ?_)).trans e3
        subst e
        unfold Boxed2 at e3
        rw [ho] at e3
        cases e3
        cases hc)
      ?assign ?body ?done ?stop
    case assign =>
      intro l pre x W K hi hK
      unfold eItem
      gi_wp2
      have hba := (Below.refl W.heap.size W).alloc (Nat.le_refl _) (Obj.cells #[.int .i64 x.1, .int .i64 x.2] 26)
      have hsz := hi.2.size
      exact hK _ _ ((KeepsOthers.alloc _ _).from _) ⟨by simp, hba.block _ (by omega), hba.block _ (by omega), hba.block _ (by omega)⟩ ⟨⟨hi.1.1, hi.1.2.1.alloc _, hi.1.2.2.alloc _⟩, hi.2.new _⟩ ⟨W.heap.size, hsz, by simp, heap_new _ rfl, rfl⟩
    case body =>
      rintro l pre x a' W ⟨⟨hpm, c2, c3⟩, hD⟩ ⟨Bx, hBx1, hBx2, hX, rfl⟩ hN
      obtain ⟨⟨v, c1, hg⟩, hF, hsz⟩ := hD
      obtain ⟨a6, cap6, rfl⟩ := hg.slice
      have k1 := c1.cell
      have k2 := c2.cell
      have k3 := c3.cell
      have f3 := c3.frozen
      have k4 : W.cell? ⟨Bx, 0, none⟩ = some (.int .i64 x.1) := heap_cell hX rfl
      have k5 : W.cell? ⟨Bx, 1, none⟩ = some (.int .i64 x.2) := heap_cell hX rfl
      have HC := Lib.hid (And.intro c1 (And.intro c2 (And.intro c3 (And.intro hg (And.intro hF hX)))))
      clear c1 c2 c3 hg hF hX bM bR bO hx hB hDr
      by_cases hlast : pre.length + 1 = m.toNat
      · have hmb : ((pre.length : Int) + 1 == m) = true := by simp; omega
        have HL := Lib.hid hlast
        clear hlast
        gi_wp2_with (gi_at_builtin; refine wpListIn_append_gath _ rfl _ _ 24 rfl w1.heap.size 26 i0 (.agg #[.int .i64 0, .int .i64 0]) 2 16 Try.underlying24 HI.out HZ0.out HZ1.out HZ2.out rfl (by decide) _ _ _ rfl (HC.out.2.2.2.1.alloc _) ⟨W.heap.size, 0, none⟩ 1 1 (its [x]) rfl rfl (cell_two _ _ _) (its_one _) (by decide) (by unfold maxLen; omega) (by omega) (by simp; omega) ?_; intro v' w3 row' hown hgrow hrow; obtain ⟨g', cap', rfl⟩ := ownsRow_succ hown; obtain ⟨hb1', hD1, hk1, hs1, hbl1⟩ := DrI.appended HC.out.1 HC.out.2.2.2.2.1 hsz (by omega) (by omega) hown hgrow hrow; have hc1 := hb1'.cell; have hf1 := hb1'.frozen; have hc3 := (boxed_eq HC.out.2.2.1 (hbl1 _ (by omega) (by omega))).cell; have hf3 := (boxed_eq HC.out.2.2.1 (hbl1 _ (by omega) (by omega))).frozen; have hc2 := (boxed_eq HC.out.2.1 (hbl1 _ (by omega) (by omega))).cell; have HD1 := Lib.hid hD1; have HX1 := Lib.hid (And.intro hk1 (And.intro hs1 hbl1)); clear hD1 hk1 hs1 hbl1 hown hgrow hrow)
        have hne : w.heap.size + 1 ≠ w.heap.size + 1 + 1 + 1 := by omega
        have hK3 : Keep3 hb lb (w.heap.size + 1 + 1 + 1 + 1) W ((w3.setCell ⟨w.heap.size + 1 + 1 + 1, 0, none⟩ (.slice (some ⟨g', 0, none⟩) (pre.length + 1) cap')).setCell ⟨w.heap.size + 1, 0, none⟩ (.slice (some ⟨g', 0, none⟩) (pre.length + 1) cap')) :=
          ⟨by rw [size_set]; exact HX1.out.2.1, (Below.heap_setCell _ _ _ _ (by show hb ≠ w.heap.size + 1; omega)).trans (HX1.out.2.2 _ (by omega) (by omega)), (Below.heap_setCell _ _ _ _ (by show lb ≠ w.heap.size + 1; omega)).trans (HX1.out.2.2 _ (by omega) (by omega)), (Below.heap_setCell _ _ _ _ (by show w.heap.size + 1 + 1 + 1 + 1 ≠ w.heap.size + 1; omega)).trans (HX1.out.2.2 _ (by omega) (by omega))⟩
        refine ⟨(HX1.out.1.trans (KeepsOthers.setCell _ _ _)).from _, hK3, ⟨rfl, by rw [List.length_append, List.length_singleton]; exact HL.out, HD1.out.frame.trans (Turned.of_grown (grown_set _ _ _ _)) (fun _ _ e => e) (fun i hi e => by have : i = w.heap.size + 1 := (by cases e; rfl); omega)⟩, .slice (some ⟨g', 0, none⟩) (pre.length + 1) cap', ?_, ?_⟩
        · exact (boxed_eq HC.out.2.2.1 (HX1.out.2.2 _ (by omega) hne)).set _
        · exact gath_set (HD1.out.gath (hb1'.set _)) (by omega) _
      · have hmb : ((pre.length : Int) + 1 == m) = false := by simp; omega
        have hpl : pre.length + 1 < m.toNat := by omega
        clear hlast
        gi_wp2_with (gi_at_builtin; refine wpListIn_append_gath _ rfl _ _ 24 rfl w1.heap.size 26 i0 (.agg #[.int .i64 0, .int .i64 0]) 2 16 Try.underlying24 HI.out HZ0.out HZ1.out HZ2.out rfl (by decide) _ _ _ rfl (HC.out.2.2.2.1.alloc _) ⟨W.heap.size, 0, none⟩ 1 1 (its [x]) rfl rfl (cell_two _ _ _) (its_one _) (by decide) (by unfold maxLen; omega) (by omega) (by simp; omega) ?_; intro v' w3 row' hown hgrow hrow; obtain ⟨g', cap', rfl⟩ := ownsRow_succ hown; obtain ⟨hb1', hD1, hk1, hs1, hbl1⟩ := DrI.appended HC.out.1 HC.out.2.2.2.2.1 hsz (by omega) (by omega) hown hgrow hrow; have hc1 := hb1'.cell; have hf1 := hb1'.frozen; have hc3 := (boxed_eq HC.out.2.2.1 (hbl1 _ (by omega) (by omega))).cell; have hf3 := (boxed_eq HC.out.2.2.1 (hbl1 _ (by omega) (by omega))).frozen; have hc2 := (boxed_eq HC.out.2.1 (hbl1 _ (by omega) (by omega))).cell; have HD1 := Lib.hid hD1; have HX1 := Lib.hid (And.intro hk1 (And.intro hs1 hbl1)); clear hD1 hk1 hs1 hbl1 hown hgrow hrow)
        have hK3 : Keep3 hb lb (w.heap.size + 1 + 1 + 1 + 1) W (w3.setCell ⟨w.heap.size + 1 + 1 + 1, 0, none⟩ (.slice (some ⟨g', 0, none⟩) (pre.length + 1) cap')) :=
          ⟨HX1.out.2.1, HX1.out.2.2 _ (by omega) (by omega), HX1.out.2.2 _ (by omega) (by omega), HX1.out.2.2 _ (by omega) (by omega)⟩
        refine ⟨HX1.out.1.from _, hK3, ⟨by rw [List.length_append, List.length_singleton]; exact hpl, boxed_eq HC.out.2.1 (HX1.out.2.2 _ (by omega) (by omega)), boxed_eq HC.out.2.2.1 (HX1.out.2.2 _ (by omega) (by omega))⟩, HD1.out⟩
    case done =>
      rintro D xs W hD ⟨rfl, hS⟩ ⟨⟨hpm, c2, c3⟩, hDI⟩ hK
      obtain ⟨⟨v, c1, hg⟩, hF, hsz⟩ := hDI
      obtain ⟨a6, cap6, rfl⟩ := hg.slice
      have k1 := c1.cell
      have k3 := c3.cell
      have f3 := c3.frozen
      have HC := Lib.hid (And.intro c1 (And.intro c3 (And.intro hg (And.intro hF hS))))
      clear c1 c2 c3 hg hF hS bM bR bO hx hB hDr
      rw [Hm.srt_length] at *
      gi_wp2
      have hK' := (KeepsOthers.setCell W ⟨w.heap.size + 1, 0, none⟩ (.slice a6 row.length cap6)).same D _ hK rfl
      refine ⟨by simp, .inl ⟨_, _, rfl, run_takeDeferred hK', ?_⟩⟩
      have hc5 := cell_kept (HC.out.2.1.set (.slice a6 row.length cap6)).cell (grownBy_putObj' _ D (.deferred none)) (fun r e => by cases e; exact ⟨_, hK', rfl⟩)
      have hts : Turned (fun k => k = w.heap.size + 1) W (W.setCell ⟨w.heap.size + 1, 0, none⟩ (.slice a6 row.length cap6)) := (Turned.of_grown (grown_set W _ 0 _)).mono (fun k _ e => by simpa using e)
      refine ⟨.slice a6 row.length cap6, ?_, _, rfl, ?_, ?_, ?_⟩
      · simp [results, Try.f17, go_sem, hc5]
      · rw [Hm.outs_all m.toNat row (by omega), Hm.srt_length]
        exact gath_putObj (gath_base (gath_set HC.out.2.2.1 (by omega) _) (by omega)) _ hK' rfl
      · rw [Hm.nil_of (row := Hm.left kf m.toNat row) (by rw [Hm.left_length]; omega)]
        exact (HC.out.2.2.2.2.turned hts (by omega) (by omega)).put hK' (by omega) (by omega) _
      · exact (HC.out.2.2.2.1.trans hts (T := fun k => k = hb ∨ k = lb) (fun _ _ e => e) (fun i hi e => by omega)).trans (Turned.of_grown (grownBy_putObj' _ D _)) (fun _ _ e => e) (fun i hi e => by have : i = D := (by cases e; rfl); omega)
    case stop =>
      rintro D c pre W hD ⟨k, rfl, hk1, hk2, hS⟩ ⟨⟨rfl, hlen, hF⟩, v, c3, hg⟩ hK
      obtain ⟨a6, cap6, rfl⟩ := hg.slice
      gi_wp2
      refine ⟨by simp, .inl ⟨_, _, rfl, run_takeDeferred hK, ?_⟩⟩
      have hc5 := cell_kept c3.cell (grownBy_putObj' _ D (.deferred none)) (fun r e => by cases e; exact ⟨_, hK, rfl⟩)
      have hkm : k = m.toNat := by rw [Hm.outs_length] at hlen; omega
      subst hkm
      refine ⟨.slice a6 (Hm.outs kf m.toNat row).length cap6, ?_, _, rfl, ?_, ?_, ?_⟩
      · simp [results, Try.f17, go_sem, hc5]
      · exact gath_putObj (gath_base hg (by omega)) _ hK rfl
      · exact hS.put hK (by omega) (by omega) _
      · exact hF.trans (Turned.of_grown (grownBy_putObj' _ D _)) (fun _ _ e => e) (fun i hi e => by have : i = D := (by cases e; rfl); omega)
end Go.Proofs.Ytfghcjhfbbdanaa
