/- Contract: a list of numbers in order. -/
import Derived.Test.YtfghcjhfbbdanaaIy
set_option linter.unusedVariables false
namespace Go.Proofs.Ytfghcjhfbbdanaa.Ii
open Go.RowKit Go.Shelf

attribute [local go_sem] Oper.semAt_some
theorem HIs.put {K : Nat} {kf : Int → Int} {lo hb lb : Nat} {A : World} {row : List Int} {puts : Int} (h : HIs K kf lo hb lb A row puts) {l : Nat} {o : Obj} (hl : A.heap[l]? = some o) (h1 : l ≠ hb) (h2 : l ≠ lb) (o' : Obj) : HIs K kf lo hb lb (A.putObj l o') row puts :=
  h.turned (Turned.of_grown (grownBy_putObj' A l o')) (fun e => h1 (by cases e; rfl)) (fun e => h2 (by cases e; rfl))
theorem hb_lb {K : Nat} {kf : Int → Int} {lo hb lb : Nat} {w : World} {row : List Int} {puts : Int} (h : HIs K kf lo hb lb w row puts) : hb < w.heap.size ∧ lb < w.heap.size := by
  obtain ⟨v, L, hm, _⟩ := h
  exact ⟨heap_lt hm.box, hm.lt⟩
theorem Try.infoIntI : (Try.prog.info? 3).map (fun i => (i.zero, i.size, i.bytes)) = some (some (.int .i64 0), 1, 8) := by kernel_rfl

/-- What has come lies in a slice of its own, made ahead. -/
structure SrI (w : World) (bs B5 : Nat) (pre : List Int) (W : World) : Prop where
  box : ∃ v, Boxed W B5 22 v ∧ W.ownsRow bs 3 1 v pre.length (ivals .i64 pre)
  below : Below w.heap.size w W
theorem SrI.own {w : World} {bs B5 hi : Nat} (hw : w.heap.size ≤ hi) : OwnFrom hi (fun pre W => SrI w bs B5 pre W) := by
  intro pre A B row h hg hr
  obtain ⟨⟨v, h1, h2⟩, h3⟩ := h
  exact ⟨⟨v, boxed_kept h1 hg (fun r e => (hr r e).2), owns_grown h2 hg (fun r e => (hr r e).2)⟩, h3.grown hg h3.size (fun r e => by have := (hr r e).1; omega)⟩
theorem SrI.turned {w : World} {bs B5 hb lb : Nat} {pre : List Int} {A B : World} (h : SrI w bs B5 pre A) (ht : Turned (fun k => k = hb ∨ k = lb) A B) (h1 : hb < bs) (h2 : lb < bs) (h3 : B5 ≠ hb) (h4 : B5 ≠ lb) (h5 : w.heap.size ≤ hb) (h6 : w.heap.size ≤ lb) : SrI w bs B5 pre B := by
  obtain ⟨⟨v, k1, k2⟩, k3⟩ := h
  refine ⟨⟨v, boxed_turned k1 ht (fun e => e.elim h3 h4), ht.owns k2 (fun g hg e => ?_)⟩, k3.trans (ht.below (fun k hk e => by rcases e with e | e <;> omega) k3.size)⟩
  have := (owns_block k2 hg).1
  rcases e with e | e <;> omega
theorem SrI.new {w : World} {bs B5 : Nat} {pre : List Int} {A : World} (h : SrI w bs B5 pre A) (o : Obj) : SrI w bs B5 pre (A.alloc o) := by
  obtain ⟨⟨v, k1, k2⟩, k3⟩ := h
  exact ⟨⟨v, k1.alloc o, k2.alloc o⟩, k3.alloc k3.size o⟩
theorem SrI.appended {w : World} {bs B5 : Nat} {pre : List Int} {x : Int} {W w1 : World} {v v' : Value} {tmp : Obj}
    (hv : Boxed W B5 22 v) (h0 : W.ownsRow bs 3 1 v pre.length (ivals .i64 pre)) (hf : Below w.heap.size w W) (hB : w.heap.size ≤ B5) (hbs : w.heap.size ≤ bs)
    (hown : w1.ownsRow bs 3 1 v' (pre.length + 1) (ivals .i64 pre ++ [.int .i64 x])) (hgrow : (W.alloc tmp).grownBy w1 v.ownBlock) :
    Boxed w1 B5 22 v ∧ SrI w bs B5 (pre ++ [x]) (w1.setCell ⟨B5, 0, none⟩ v') ∧ KeepsOthers W (w1.setCell ⟨B5, 0, none⟩ v') ∧ W.heap.size ≤ (w1.setCell ⟨B5, 0, none⟩ v').heap.size ∧ (∀ k, k < W.heap.size → k ≠ B5 → (k < bs ∨ ∀ cur, W.heap[k]? ≠ some (.cells cur 3 (0, 0))) → (w1.setCell ⟨B5, 0, none⟩ v').heap[k]? = W.heap[k]?) := by
  have hne : ∀ j, (j < bs ∨ ∀ cur, W.heap[j]? ≠ some (.cells cur 3 (0, 0))) → some j ≠ v.ownBlock := fun j hj e => by
    obtain ⟨hb, cur, hc⟩ := owns_block h0 e.symm
    rcases hj with hj | hj
    · omega
    · exact hj cur hc
  have hB5 : ∀ cur, W.heap[B5]? ≠ some (.cells cur 3 (0, 0)) := fun cur e => by
    rw [show W.heap[B5]? = _ from hv] at e
    simp at e
  have hb1 : Boxed w1 B5 22 v := (hv.alloc tmp).kept hgrow (hne _ (.inr hB5))
  have hset := grownBy_setCell' w1 B5 v'
  have hown2 : (w1.setCell ⟨B5, 0, none⟩ v').ownsRow bs 3 1 v' (pre.length + 1) (ivals .i64 pre ++ [.int .i64 x]) := by
    refine hown.kept hset ?_
    rcases hown.2 with ⟨rfl, _⟩ | ⟨g, cap, cur, rfl, hg, hgb, _⟩
    · exact .inl rfl
    · refine .inr fun e => ?_
      have : g = B5 := by simpa [Value.ownBlock] using e
      subst this
      rw [show w1.heap[g]? = _ from hb1] at hgb
      simp at hgb
  have hsz : W.heap.size ≤ (w1.setCell ⟨B5, 0, none⟩ v').heap.size := by
    have h1 := hgrow.size
    have h2 := hset.size
    simp at h1
    omega
  refine ⟨hb1, ⟨⟨v', hb1.set v', by rw [List.length_append, List.length_singleton, ivals_snoc]; exact hown2⟩, ?_⟩, ?_, hsz, ?_⟩
  · exact ((hf.alloc hf.size tmp).grown hgrow (by have := hf.size; simp; omega) (fun g e => by have := (owns_block h0 e).1; omega)).setCell (p := ⟨B5, 0, none⟩) hB v'
  · refine ((KeepsOthers.alloc W tmp).trans (KeepsOthers.of_grownBy hgrow fun j o ej hj => ?_)).trans (KeepsOthers.setCell _ _ _)
    obtain ⟨_, cur, hc⟩ := owns_block (h0.alloc tmp) ej
    rw [hj] at hc
    cases hc; rfl
  · intro k hk h1 h2
    have e1 := hset.block k (by have := hgrow.size; simp at this; omega) (fun e => h1 (by cases e; rfl))
    have e2 := hgrow.block k (by simp; omega) (hne k h2)
    exact e1.trans (e2.trans (Below.heap_alloc W tmp k hk))

def SortPost (kf : Int → Int) (row : List Int) (w : World) (e : Ending) (w' : World) : Prop :=
  ∃ v, e = .returned v ∧ Gath w' w.heap.size 3 1 v row.length (ivals .i64 (Hm.srt kf row)) ∧ Below w.heap.size w w'

set_option maxRecDepth 100000 in
set_option maxHeartbeats 4000000 in
theorem sort_any {K : Nat} {kf : Int → Int} (HK : IsOrd K kf) {w : World} {a : Option Addr} {b off len cap : Nat} {row : List Int} (h : IntsAt .i64 w.heap.size w a b off len row) (hcap : len ≤ cap) (hs : len ≤ 100000) :
    Calls Try.prog 15 #[.slice a len cap, .func (.func K) #[] #[]] w (SortPost kf row w) := by
  have HIA := Lib.hid h
  have hrl := h.length
  clear h
  refine (callsIn_wide (n := 3)).1 ?_
  refine callsIn_of_wp_marks Try.func15 rfl trivial ?_ rfl
  simp only [Try.ntmps15, List.size_toArray, List.length_cons, List.length_nil, Nat.reduceAdd, Nat.reduceSub, Array.replicate_succ, Array.replicate_zero, List.push_toArray, List.append_toArray, List.nil_append, List.cons_append]
  gi_wp2_with (refine ⟨trivial, ?_⟩; gi_at_call 22; refine (callsIn_wide.2 (new_any K kf _)).mono ?_; rintro e w1 ⟨rfl, hN, hB⟩; have HN := Lib.hid (And.intro hN hB); clear hN hB)
  gi_loopw [14] (fun i wr => ∃ k lb : Nat, i = .int .i64 k ∧ k ≤ len ∧ w.heap.size ≤ lb ∧ Hid (HIs K kf w.heap.size w.heap.size lb wr (row.take k) k) ∧ Hid (Below w.heap.size w wr)) (fun i _ => len - (intOf i).toNat)
  case atStart => exact ⟨0, w.heap.size, rfl, Nat.zero_le _, Nat.le_refl _, Lib.hid HN.out.1, Lib.hid HN.out.2⟩
  case round =>
    obtain ⟨k, lb, rfl, hk, hlb, hH, hB⟩ := hrel
    by_cases hkl : k < len
    · have hIA := HIA.out.kept hB.out (Nat.le_refl _)
      have ha : a = some ⟨b, off, none⟩ := hIA.addr.resolve_left (by omega)
      subst ha
      have c1 := hIA.cell k hkl
      obtain ⟨x, hx⟩ : ∃ x, row.getD k 0 = x := ⟨_, rfl⟩
      rw [hx] at c1
      have HP := Lib.hid (fun (W : World) (hb : Below wr.heap.size wr W) => push_any HK (hH.out.below hb) x (by rw [List.length_take]; omega) (by omega) (by omega) (Nat.le_trans hB.out.size hb.size))
      have HX := Lib.hid hx
      clear hx hIA
      gi_wp2_with (refine ⟨trivial, ?_⟩; gi_at_call 23; refine (callsIn_wide.2 (HP.out _ (Below.refl _ _))).mono ?_; rintro e w2 ⟨rfl, lb', hH2, hl2, ht2⟩; have HH2 := Lib.hid (And.intro hH2 (And.intro hl2 ht2)); clear hH2 hl2 ht2)
      go_roundw
      case rel =>
        obtain ⟨e1, e2, e3⟩ := HH2.out
        have e4 := (hb_lb hH.out).2
        refine ⟨k + 1, lb', by go_num, by omega, ?_, Lib.hid ?_, Lib.hid ?_⟩
        · rcases e2 with rfl | e2
          · exact hlb
          · have := hB.out.size; omega
        · rw [List.take_succ_eq_append_getElem (by omega)]
          have : row[k]'(by omega) = x := by rw [← HX.out]; simp [List.getD, show k < row.length by omega]
          rw [this]
          have e5 : ((k + 1 : Nat) : Int) = (k : Int) + 1 := by omega
          rw [e5]
          exact e1
        · exact hB.out.trans (e3.below (fun i hi e => by rcases e with e | e <;> omega) hB.out.size)
      case measure => simp [intOf]; omega
    · obtain rfl : k = len := by omega
      have HH : Hid (HIs K kf w.heap.size w.heap.size lb wr row k) := by
        have := hH.out
        rw [List.take_of_length_le (by omega)] at this
        exact this
      clear hH
      have hz := hb_lb HH.out
      have hbz := hB.out.size
      obtain ⟨i0, hi, hz0, hz1, hz2⟩ := info_parts Try.infoIntI
      have HI := Lib.hid hi
      have HZ0 := Lib.hid hz0
      have HZ1 := Lib.hid hz1
      have HZ2 := Lib.hid hz2
      clear hi hz0 hz1 hz2
      gi_wp2_with (first
        | (gi_at_make; refine wpListIn_make_own _ rfl _ _ 22 rfl wr.heap.size 3 i0 (.int .i64 0) 1 Try.underlying22 HI.out HZ0.out HZ1.out .i64 .i64 k k rfl rfl rfl (by rw [HZ2.out]; omega) (by unfold maxLen; omega) (Nat.le_refl _) ?_; intro w2 hown2 hgrow2; have HO := Lib.hid (And.intro hown2 hgrow2); clear hown2 hgrow2)
        | (refine ⟨trivial, ?_⟩; gi_at_call 24; refine (callsIn_wide.2 (drain_any w.heap.size _)).mono ?_; rintro e w3 ⟨rfl, hw3⟩; refine Hid.out ?_))
      have bO : Boxed w3 w2.heap.size 22 (.slice (some ⟨wr.heap.size, 0, none⟩) 0 k) := by rw [← hw3]; exact heap_alloc (heap_new _ rfl) _
      have hx : w3.heap[w2.heap.size + 1]? = some (.cells #[.pointer (some ⟨w.heap.size, 0, none⟩)] 54 (0, 0)) := by rw [← hw3]; exact heap_new _ (by simp)
      have hz3 : w3.heap.size = w2.heap.size + 1 + 1 := by rw [← hw3]; simp
      have hz2 := HO.out.2.size
      have hB3 : Below wr.heap.size wr w3 := by rw [← hw3]; exact (((Below.refl wr.heap.size wr).grown HO.out.2 (Nat.le_refl _) (fun r e => by cases e)).alloc hz2 _).alloc (by simp; omega) _
      have hown3 : w3.ownsRow wr.heap.size 3 1 (.slice (some ⟨wr.heap.size, 0, none⟩) 0 k) 0 [] := by rw [← hw3]; exact (HO.out.1.alloc _).alloc _
      clear hw3 HO
      have HIS := Lib.hid (HH.out.below hB3)
      have hSr : SrI w wr.heap.size w2.heap.size [] w3 := ⟨⟨_, bO, hown3⟩, hB.out.trans (hB3.mono hbz)⟩
      clear hown3 bO hB3
      refine Lib.hid ?_
      gi_wp2_with fail
      refine wpIn_rangeFunc_turns rfl (by omega) (gf := 28) (lb := #[.pointer (some ⟨w2.heap.size + 1, 0, none⟩)]) rfl trivial (enters_of Try.func28 (by kernel_rfl) rfl)
        (drain_turns HK 2 (by omega) HIS.out (by omega) hx (by omega) (by omega)) (fun j e => by rcases e with e | e <;> omega) Keep3.trans
        (fun A l o o' hl ho hc => ⟨(grownBy_putObj' A l o').size, World.putObj_heap_other (by omega), World.putObj_heap_other (by omega), World.putObj_heap_other (by omega)⟩)
        (fun xs A l o o' hS hl ho hc => ⟨hS.1, hS.2.put ho (by omega) (by omega) o'⟩)
        (fun xs A l o o' hS hl ho hc => by obtain ⟨j, e1, e2, e3, e4⟩ := hS; exact ⟨j, e1, e2, e3, e4.put ho (by omega) (by omega) o'⟩)
        (Below.refl _ _) (fun _ => rfl)
        (fun pre W => (w3.heap.size ≤ W.heap.size ∧ W.heap[w2.heap.size + 1]? = some (.cells #[.pointer (some ⟨w.heap.size, 0, none⟩)] 54 (0, 0))) ∧ SrI w wr.heap.size w2.heap.size pre W)
        (fun _ _ _ => False)
        (OwnFrom.and (fun s A B row hs hg hr => ⟨Nat.le_trans hs.1 hg.size, heap_kept hs.2 hg (fun e => by obtain ⟨_, o, ho, hc⟩ := hr _ e.symm; rw [hs.2] at ho; cases ho; cases hc)⟩) (SrI.own (by omega)))
        (fun _ _ _ _ _ h _ _ => h)
        (fun s A B hs ht => ⟨⟨Nat.le_trans hs.1.1 ht.size, ht.old hs.1.2 (fun e => by rcases e with e | e <;> omega)⟩, hs.2.turned ht (by omega) (by omega) (by omega) (by omega) (Nat.le_refl _) hlb⟩)
        ⟨⟨Nat.le_refl _, hx⟩, hSr⟩
        (fun x a' W => a' = { tmps := #[.slice a k cap, .func (.func K) #[] #[], undef, undef, .slice none 0 0, .pointer (some ⟨w.heap.size, 0, none⟩), undef, u7, .pointer (some ⟨w2.heap.size, 0, none⟩), .int .i64 x, .func (.func K) #[] #[], .pointer (some ⟨w.heap.size, 0, none⟩), .slice a k cap, .int .i64 k, .int .i64 k, .bool false, u16, u17, u18, u19, u20, u21, .slice a k cap, .int .i64 k, .slice (some ⟨wr.heap.size, 0, none⟩) 0 k, .pointer (some ⟨w.heap.size, 0, none⟩), .func (.func 28) #[] #[.pointer (some ⟨w2.heap.size + 1, 0, none⟩)], .int .i64 x, undef, undef, undef, undef, undef], defers := [] })
        (fun x a' A l o o' hA hl ho hc => hA)
        ?assign ?body ?done ?stop
      case assign =>
        intro l pre x W J hi hK
        unfold eInt
        gi_wp2
        exact hK _ _ (KeepsFrom.refl _ _) ⟨Nat.le_refl _, rfl, rfl, rfl⟩ hi rfl
      case body =>
        rintro l pre x a' W ⟨⟨hsz, hX5⟩, hD⟩ rfl hN
        obtain ⟨⟨v, c1, hg⟩, hF⟩ := hD
        obtain ⟨a6, cap6, rfl⟩ := ownsRow_slice hg
        have k1 := c1.cell
        have HC := Lib.hid (And.intro c1 (And.intro hg (And.intro hF hX5)))
        clear c1 hg hF hx hSr hX5
        gi_wp2_with (gi_at_builtin; refine wpListIn_append_own _ rfl _ _ 22 rfl wr.heap.size 3 i0 (.int .i64 0) 1 8 Try.underlying22 HI.out HZ0.out HZ1.out HZ2.out rfl (by decide) _ _ _ rfl (HC.out.2.1.alloc _) ⟨W.heap.size, 0, none⟩ 1 1 [.int .i64 x] rfl rfl (cell_one _ _ _) (one_val rfl) (by unfold maxLen; omega) (by omega) (by simp; omega) ?_; intro v' w5 hown hgrow _; obtain ⟨g', cap', rfl⟩ := ownsRow_succ hown; obtain ⟨hb1', hD1, hk1, hs1, hbl1⟩ := SrI.appended HC.out.1 HC.out.2.1 HC.out.2.2.1 (by omega) (by omega) hown hgrow; have hc1 := hb1'.cell; have hf1 := hb1'.frozen; have HD1 := Lib.hid hD1; have HX1 := Lib.hid (And.intro hk1 (And.intro hs1 hbl1)); clear hD1 hk1 hs1 hbl1 hown hgrow)
        have hptr := HX1.out.2.2 (w2.heap.size + 1) (by omega) (by omega) (.inr (fun cur e => by rw [HC.out.2.2.2] at e; simp at e))
        have hK3 : Keep3 w.heap.size lb (w2.heap.size + 1) W (w5.setCell ⟨w2.heap.size, 0, none⟩ (.slice (some ⟨g', 0, none⟩) (pre.length + 1) cap')) :=
          ⟨HX1.out.2.1, HX1.out.2.2 _ (by omega) (by omega) (.inl (by omega)), HX1.out.2.2 _ (by omega) (by omega) (.inl (by omega)), hptr⟩
        exact ⟨HX1.out.1.from _, hK3, ⟨Nat.le_trans hsz HX1.out.2.1, hptr.trans HC.out.2.2.2⟩, HD1.out⟩
      case done =>
        rintro D xs W hD ⟨rfl, hS⟩ ⟨⟨hsz, _⟩, hDI⟩ hK
        obtain ⟨⟨v, c1, hg⟩, hF⟩ := hDI
        obtain ⟨a6, cap6, rfl⟩ := ownsRow_slice hg
        have k1 := c1.cell
        have HC := Lib.hid (And.intro c1 (And.intro hg hF))
        clear c1 hg hF hS hx hSr
        rw [Hm.srt_length] at *
        gi_wp2
        refine ⟨by simp, .inl ⟨_, _, rfl, run_takeDeferred hK, ?_⟩⟩
        refine ⟨.slice a6 row.length cap6, ?_, _, rfl, ?_, ?_⟩
        · simp [results, Try.f15, go_sem]
          omega
        · exact gath_putObj (gath_base (.inr HC.out.2.1) (by omega)) _ hK rfl
        · exact HC.out.2.2.trans (belowK_b (w := w) (Nat.le_refl _) _ D _ _ (by omega) hK rfl rfl)
      case stop =>
        rintro D c pre W _ _ h _
        exact h.elim
end Go.Proofs.Ytfghcjhfbbdanaa.Ii
