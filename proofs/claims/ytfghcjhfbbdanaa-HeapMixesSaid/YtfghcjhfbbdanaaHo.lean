/- Contract: a list in order. -/
import Derived.Test.YtfghcjhfbbdanaaHq
set_option linter.unusedVariables false
namespace Go.Proofs.Ytfghcjhfbbdanaa
open Go.RowKit Go.Shelf

attribute [local go_sem] Oper.semAt_some

/-- A slice of things below block B. -/
structure ItsAt (B : Nat) (w : World) (a : Option Addr) (b len : Nat) (l : List (Int × Int)) : Prop where
  addr : len = 0 ∨ a = some ⟨b, 0, none⟩
  length : l.length = len
  below : len = 0 ∨ b < B
  cell : ∀ i, i < len → w.cell? ⟨b, i * 2, none⟩ = some (.int .i64 (l.getD i default).1) ∧ w.cell? ⟨b, i * 2 + 1, none⟩ = some (.int .i64 (l.getD i default).2)
theorem ItsAt.kept {B B' : Nat} {w w' : World} {a : Option Addr} {b len : Nat} {l : List (Int × Int)} (h : ItsAt B w a b len l) (hb : Below B' w w') (hB : B ≤ B') : ItsAt B w' a b len l :=
  ⟨h.addr, h.length, h.below, fun i hi => by
    have h1 := h.below.resolve_left (by omega)
    have h2 := h.cell i hi
    exact ⟨(hb.cell (p := ⟨b, i * 2, none⟩) (by show b < B'; omega)).trans h2.1, (hb.cell (p := ⟨b, i * 2 + 1, none⟩) (by show b < B'; omega)).trans h2.2⟩⟩
theorem ItsAt.mono {B B' : Nat} {w : World} {a : Option Addr} {b len : Nat} {l : List (Int × Int)} (h : ItsAt B w a b len l) (hB : B ≤ B') : ItsAt B' w a b len l :=
  ⟨h.addr, h.length, h.below.imp id (fun g => Nat.lt_of_lt_of_le g hB), h.cell⟩
theorem ItsAt.turned {R : Nat → Prop} {B : Nat} {w w' : World} {a : Option Addr} {b len : Nat} {l : List (Int × Int)} (h : ItsAt B w a b len l) (ht : Turned R w w') (hB : B ≤ w.heap.size) (hn : len = 0 ∨ ¬ R b) : ItsAt B w' a b len l :=
  ⟨h.addr, h.length, h.below, fun i hi => by
    have h1 := h.below.resolve_left (by omega)
    have h2 := h.cell i hi
    have e := ht.block b (by omega) (hn.resolve_left (by omega))
    exact ⟨(World.cell?_of_block (w := w) (a := ⟨b, i * 2, none⟩) e).trans h2.1, (World.cell?_of_block (w := w) (a := ⟨b, i * 2 + 1, none⟩) e).trans h2.2⟩⟩
theorem its_at : ∀ (l : List (Int × Int)) (i : Nat), i < l.length → (its l)[i * 2]? = some (.int .i64 (l.getD i default).1) ∧ (its l)[i * 2 + 1]? = some (.int .i64 (l.getD i default).2)
  | [], i, h => by simp at h
  | x :: r, 0, h => ⟨rfl, rfl⟩
  | x :: r, i + 1, h => by
    have ih := its_at r i (by simpa using h)
    rw [show (i + 1) * 2 = i * 2 + 1 + 1 by omega]
    simp only [its, List.getElem?_cons_succ, List.getD_cons_succ]
    exact ih
/-- What has been gathered is a slice of things. -/
theorem Gath.itsAt {w : World} {base : Nat} {v : Value} {n : Nat} {l : List (Int × Int)} (h : Gath w base 26 2 v n (its l)) (hn : l.length = n) :
    ∃ a cap b, v = .slice a n cap ∧ n ≤ cap ∧ (n = 0 ∨ (base ≤ b ∧ ∃ cur, w.heap[b]? = some (.cells cur 26 (0, 0)))) ∧ ItsAt w.heap.size w a b n l := by
  rcases h with ⟨rfl, _, ao, rfl⟩ | h
  · exact ⟨ao, 0, 0, rfl, Nat.le_refl _, .inl rfl, .inl rfl, hn, .inl rfl, fun i hi => absurd hi (Nat.not_lt_zero _)⟩
  · rcases h.2 with ⟨rfl, rfl⟩ | ⟨g, cap, cur, rfl, hb, hg, hnc, hcm, hcs, htake⟩
    · exact ⟨none, 0, 0, rfl, Nat.le_refl _, .inl rfl, .inl rfl, hn, .inl rfl, fun i hi => absurd hi (Nat.not_lt_zero _)⟩
    · refine ⟨_, cap, g, rfl, hnc, .inr ⟨hb, cur, hg⟩, .inr rfl, hn, .inr (heap_lt hg), fun i hi => ?_⟩
      obtain ⟨e1, e2⟩ := its_at l i (by omega)
      have key : ∀ j u, (its l)[j]? = some u → w.cell? ⟨g, j, none⟩ = some u := by
        intro j u hu
        have := h.cells (g := g) rfl j u hu
        rwa [addr_add, Nat.zero_add] at this
      exact ⟨key _ _ e1, key _ _ e2⟩

/-- What has come lies in a slice of its own, made ahead. -/
structure SrI (w : World) (bs B5 : Nat) (pre : List (Int × Int)) (W : World) : Prop where
  box : ∃ v, Boxed W B5 24 v ∧ W.ownsRow bs 26 2 v pre.length (its pre)
  below : Below w.heap.size w W
theorem owns_grown {A B : World} {base : Nat} {e : TypeId} {size : Nat} {v : Value} {n : Nat} {xs : List Value} {row : Option Nat} (h : A.ownsRow base e size v n xs) (hg : A.grownBy B row) (hr : ∀ r, row = some r → ∃ o : Obj, A.heap[r]? = some o ∧ o.isCells = false) : B.ownsRow base e size v n xs := by
  refine h.kept hg ?_
  rcases h.2 with ⟨rfl, _⟩ | ⟨g, cap, cur, rfl, _, hgb, _⟩
  · exact .inl rfl
  · refine .inr fun e' => ?_
    obtain ⟨o, ho, hc⟩ := hr g (by simpa [Value.ownBlock] using e'.symm)
    rw [hgb] at ho; cases ho; cases hc
theorem owns_block {w : World} {base : Nat} {e : TypeId} {size : Nat} {v : Value} {n : Nat} {xs : List Value} (h : w.ownsRow base e size v n xs) {g : Nat} (hg : v.ownBlock = some g) : base ≤ g ∧ ∃ cur, w.heap[g]? = some (.cells cur e (0, 0)) := by
  rcases h.2 with ⟨rfl, _⟩ | ⟨g', cap, cur, rfl, hb, hgb, _⟩
  · simp [Value.ownBlock] at hg
  · obtain rfl : g' = g := by simpa [Value.ownBlock] using hg
    exact ⟨hb, cur, hgb⟩
theorem SrI.own {w : World} {bs B5 hi : Nat} (hw : w.heap.size ≤ hi) : OwnFrom hi (fun pre W => SrI w bs B5 pre W) := by
  intro pre A B row h hg hr
  obtain ⟨⟨v, h1, h2⟩, h3⟩ := h
  exact ⟨⟨v, boxed_kept h1 hg (fun r e => (hr r e).2), owns_grown h2 hg (fun r e => (hr r e).2)⟩, h3.grown hg h3.size (fun r e => by have := (hr r e).1; omega)⟩
theorem SrI.turned {w : World} {bs B5 hb lb : Nat} {pre : List (Int × Int)} {A B : World} (h : SrI w bs B5 pre A) (ht : Turned (fun k => k = hb ∨ k = lb) A B) (h1 : hb < bs) (h2 : lb < bs) (h3 : B5 ≠ hb) (h4 : B5 ≠ lb) (h5 : w.heap.size ≤ hb) (h6 : w.heap.size ≤ lb) : SrI w bs B5 pre B := by
  obtain ⟨⟨v, k1, k2⟩, k3⟩ := h
  refine ⟨⟨v, boxed_turned k1 ht (fun e => e.elim h3 h4), ht.owns k2 (fun g hg e => ?_)⟩, k3.trans (ht.below (fun k hk e => by rcases e with e | e <;> omega) k3.size)⟩
  have := (owns_block k2 hg).1
  rcases e with e | e <;> omega
theorem SrI.new {w : World} {bs B5 : Nat} {pre : List (Int × Int)} {A : World} (h : SrI w bs B5 pre A) (o : Obj) : SrI w bs B5 pre (A.alloc o) := by
  obtain ⟨⟨v, k1, k2⟩, k3⟩ := h
  exact ⟨⟨v, k1.alloc o, k2.alloc o⟩, k3.alloc k3.size o⟩
theorem SrI.appended {w : World} {bs B5 : Nat} {pre : List (Int × Int)} {x : Int × Int} {W w1 : World} {v v' : Value} {tmp : Obj}
    (hv : Boxed W B5 24 v) (h0 : W.ownsRow bs 26 2 v pre.length (its pre)) (hf : Below w.heap.size w W) (hB : w.heap.size ≤ B5) (hbs : w.heap.size ≤ bs)
    (hown : w1.ownsRow bs 26 2 v' (pre.length + 1) (its pre ++ its [x])) (hgrow : (W.alloc tmp).grownBy w1 v.ownBlock) :
    Boxed w1 B5 24 v ∧ SrI w bs B5 (pre ++ [x]) (w1.setCell ⟨B5, 0, none⟩ v') ∧ KeepsOthers W (w1.setCell ⟨B5, 0, none⟩ v') ∧ W.heap.size ≤ (w1.setCell ⟨B5, 0, none⟩ v').heap.size ∧ (∀ k, k < W.heap.size → k ≠ B5 → (k < bs ∨ ∀ cur, W.heap[k]? ≠ some (.cells cur 26 (0, 0))) → (w1.setCell ⟨B5, 0, none⟩ v').heap[k]? = W.heap[k]?) := by
  have hne : ∀ j, (j < bs ∨ ∀ cur, W.heap[j]? ≠ some (.cells cur 26 (0, 0))) → some j ≠ v.ownBlock := fun j hj e => by
    obtain ⟨hb, cur, hc⟩ := owns_block h0 e.symm
    rcases hj with hj | hj
    · omega
    · exact hj cur hc
  have hB5 : ∀ cur, W.heap[B5]? ≠ some (.cells cur 26 (0, 0)) := fun cur e => by
    rw [show W.heap[B5]? = _ from hv] at e
    simp at e
  have hb1 : Boxed w1 B5 24 v := (hv.alloc tmp).kept hgrow (hne _ (.inr hB5))
  have hset := grownBy_setCell' w1 B5 v'
  have hown2 : (w1.setCell ⟨B5, 0, none⟩ v').ownsRow bs 26 2 v' (pre.length + 1) (its pre ++ its [x]) := by
    refine hown.kept hset ?_
    rcases hown.2 with ⟨rfl, _⟩ | ⟨g, cap, cur, rfl, hg, hgb, _⟩
    · exact .inl rfl
    · refine .inr fun e => ?_
      have : g = B5 := by simpa [Value.ownBlock] using e
      subst this
      rw [show w1.heap[g]? = _ from hb1] at hgb
      simp at hgb
  have hsz : W.heap.size ≤ (w1.setCell ⟨B5, 0, none⟩ v').heap.size := by
    have h1 := hgrow.size
    have h2 := hset.size
    simp at h1
    omega
  refine ⟨hb1, ⟨⟨v', hb1.set v', by rw [List.length_append, List.length_singleton, its_append]; exact hown2⟩, ?_⟩, ?_, hsz, ?_⟩
  · exact ((hf.alloc hf.size tmp).grown hgrow (by have := hf.size; simp; omega) (fun g e => by have := (owns_block h0 e).1; omega)).setCell (p := ⟨B5, 0, none⟩) hB v'
  · refine ((KeepsOthers.alloc W tmp).trans (KeepsOthers.of_grownBy hgrow fun j o ej hj => ?_)).trans (KeepsOthers.setCell _ _ _)
    obtain ⟨_, cur, hc⟩ := owns_block (h0.alloc tmp) ej
    rw [hj] at hc
    cases hc; rfl
  · intro k hk h1 h2
    have e1 := hset.block k (by have := hgrow.size; simp at this; omega) (fun e => h1 (by cases e; rfl))
    have e2 := hgrow.block k (by simp; omega) (hne k h2)
    exact e1.trans (e2.trans (Below.heap_alloc W tmp k hk))

theorem ownsRow_slice {w : World} {base : Nat} {e : TypeId} {size : Nat} {v : Value} {n : Nat} {xs : List Value} (h : w.ownsRow base e size v n xs) : ∃ a cap, v = .slice a n cap := by
  rcases h.2 with ⟨rfl, rfl⟩ | ⟨g, cap, cur, rfl, _⟩
  · exact ⟨none, 0, rfl⟩
  · exact ⟨_, cap, rfl⟩
def SortPost (kf : Int × Int → Int) (row : List (Int × Int)) (w : World) (e : Ending) (w' : World) : Prop :=
  ∃ v, e = .returned v ∧ Gath w' w.heap.size 26 2 v row.length (its (Hm.srt kf row)) ∧ Below w.heap.size w w'

set_option maxRecDepth 100000 in
set_option maxHeartbeats 4000000 in
theorem sort_any {K : Nat} {kf : Int × Int → Int} (HK : IsOrd K kf) {w : World} {a : Option Addr} {b len cap : Nat} {row : List (Int × Int)} (h : ItsAt w.heap.size w a b len row) (hcap : len ≤ cap) (hs : len ≤ 100000) :
    Calls Try.prog 6 #[.slice a len cap, .func (.func K) #[] #[]] w (SortPost kf row w) := by
  have HIA := Lib.hid h
  have hrl := h.length
  clear h
  refine (callsIn_wide (n := 3)).1 ?_
  refine callsIn_of_wp_marks Try.func6 rfl trivial ?_ rfl
  simp only [Try.ntmps6, List.size_toArray, List.length_cons, List.length_nil, Nat.reduceAdd, Nat.reduceSub, Array.replicate_succ, Array.replicate_zero, List.push_toArray, List.append_toArray, List.nil_append, List.cons_append]
  gi_wp2_with (refine ⟨trivial, ?_⟩; gi_at_call 10; refine (callsIn_wide.2 (new_any K kf _)).mono ?_; rintro e w1 ⟨rfl, hN, hB⟩; have HN := Lib.hid (And.intro hN hB); clear hN hB)
  gi_loopw [14] (fun i wr => ∃ k lb : Nat, i = .int .i64 k ∧ k ≤ len ∧ w.heap.size ≤ lb ∧ Hid (HIs K kf w.heap.size w.heap.size lb wr (row.take k) k) ∧ Hid (Below w.heap.size w wr)) (fun i _ => len - (intOf i).toNat)
  case atStart => exact ⟨0, w.heap.size, rfl, Nat.zero_le _, Nat.le_refl _, Lib.hid HN.out.1, Lib.hid HN.out.2⟩
  case round =>
    obtain ⟨k, lb, rfl, hk, hlb, hH, hB⟩ := hrel
    by_cases hkl : k < len
    · have hIA := HIA.out.kept hB.out (Nat.le_refl _)
      have ha : a = some ⟨b, 0, none⟩ := hIA.addr.resolve_left (by omega)
      subst ha
      obtain ⟨c1, c2⟩ := hIA.cell k hkl
      obtain ⟨x, hx⟩ : ∃ x, row.getD k default = x := ⟨_, rfl⟩
      rw [hx] at c1 c2
      have HP := Lib.hid (fun (W : World) (hb : Below wr.heap.size wr W) => push_any HK (hH.out.below hb) x.1 x.2 (by rw [List.length_take]; omega) (by omega) (by omega) (Nat.le_trans hB.out.size hb.size))
      have HX := Lib.hid hx
      clear hx hIA
      gi_wp2_with (refine ⟨trivial, ?_⟩; gi_at_call 11; refine (callsIn_wide.2 (HP.out _ ((Below.refl _ _).alloc (Nat.le_refl _) _))).mono ?_; rintro e w2 ⟨rfl, lb', hH2, hl2, ht2⟩; have HH2 := Lib.hid (And.intro hH2 (And.intro hl2 ht2)); clear hH2 hl2 ht2)
      go_roundw
      case rel =>
        obtain ⟨e1, e2, e3⟩ := HH2.out
        have e4 := (hb_lb hH.out).2
        refine ⟨k + 1, lb', by go_num, by omega, ?_, Lib.hid ?_, Lib.hid ?_⟩
        · rcases e2 with rfl | e2
          · exact hlb
          · have := hB.out.size; simp at e2; omega
        · rw [List.take_succ_eq_append_getElem (by omega)]
          have : row[k]'(by omega) = (x.1, x.2) := by rw [← HX.out]; simp [List.getD, show k < row.length by omega]
          rw [this]
          have e5 : ((k + 1 : Nat) : Int) = (k : Int) + 1 := by omega
          rw [e5]
          exact e1
        · exact (hB.out.alloc hB.out.size _).trans (e3.below (fun i hi e => by rcases e with e | e <;> omega) (by have := hB.out.size; simp; omega))
      case measure => simp [intOf]; omega
    · obtain rfl : k = len := by omega
      have HH : Hid (HIs K kf w.heap.size w.heap.size lb wr row k) := by
        have := hH.out
        rw [List.take_of_length_le (by omega)] at this
        exact this
      clear hH
      have hz := hb_lb HH.out
      have hbz := hB.out.size
      obtain ⟨i0, hi, hz0, hz1, hz2⟩ := info_parts Try.infoItem
      have HI := Lib.hid hi
      have HZ0 := Lib.hid hz0
      have HZ1 := Lib.hid hz1
      have HZ2 := Lib.hid hz2
      clear hi hz0 hz1 hz2
      gi_wp2_with (first
        | (gi_at_make; refine wpListIn_make_own _ rfl _ _ 24 rfl wr.heap.size 26 i0 (.agg #[.int .i64 0, .int .i64 0]) 2 Try.underlying24 HI.out HZ0.out HZ1.out .i64 .i64 k k rfl rfl rfl (by rw [HZ2.out]; omega) (by unfold maxLen; omega) (Nat.le_refl _) ?_; intro w2 hown2 hgrow2; have HO := Lib.hid (And.intro hown2 hgrow2); clear hown2 hgrow2)
        | (refine ⟨trivial, ?_⟩; gi_at_call 18; refine (callsIn_wide.2 (drain_any w.heap.size _)).mono ?_; rintro e w3 ⟨rfl, hw3⟩; refine Hid.out ?_))
      have bO : Boxed w3 w2.heap.size 24 (.slice (some ⟨wr.heap.size, 0, none⟩) 0 k) := by rw [← hw3]; exact heap_alloc (heap_new _ rfl) _
      have hx : w3.heap[w2.heap.size + 1]? = some (.cells #[.pointer (some ⟨w.heap.size, 0, none⟩)] 33 (0, 0)) := by rw [← hw3]; exact heap_new _ (by simp)
      have hz3 : w3.heap.size = w2.heap.size + 1 + 1 := by rw [← hw3]; simp
      have hz2 := HO.out.2.size
      have hB3 : Below wr.heap.size wr w3 := by rw [← hw3]; exact (((Below.refl wr.heap.size wr).grown HO.out.2 (Nat.le_refl _) (fun r e => by cases e)).alloc hz2 _).alloc (by simp; omega) _
      have hown3 : w3.ownsRow wr.heap.size 26 2 (.slice (some ⟨wr.heap.size, 0, none⟩) 0 k) 0 [] := by rw [← hw3]; exact (HO.out.1.alloc _).alloc _
      clear hw3 HO
      have HIS := Lib.hid (HH.out.below hB3)
      have hSr : SrI w wr.heap.size w2.heap.size [] w3 := ⟨⟨_, bO, hown3⟩, hB.out.trans (hB3.mono hbz)⟩
      clear hown3 bO hB3
      refine Lib.hid ?_
      gi_wp2_with fail
      refine wpIn_rangeFunc_turns rfl (by omega) (gf := 25) (lb := #[.pointer (some ⟨w2.heap.size + 1, 0, none⟩)]) rfl trivial (enters_of Try.func25 (by kernel_rfl) rfl)
        (drain_turns HK 2 (by omega) HIS.out (by omega) hx (by omega) (by omega)) (fun j e => by rcases e with e | e <;> omega) Keep3.trans
        (fun A l o o' hl ho hc => ⟨(grownBy_putObj' A l o').size, World.putObj_heap_other (by omega), World.putObj_heap_other (by omega), World.putObj_heap_other (by omega)⟩)
        (fun xs A l o o' hS hl ho hc => ⟨hS.1, hS.2.put ho (by omega) (by omega) o'⟩)
        (fun xs A l o o' hS hl ho hc => by obtain ⟨j, e1, e2, e3, e4⟩ := hS; exact ⟨j, e1, e2, e3, e4.put ho (by omega) (by omega) o'⟩)
        (Below.refl _ _) (fun _ => rfl)
        (fun pre W => (w3.heap.size ≤ W.heap.size ∧ W.heap[w2.heap.size + 1]? = some (.cells #[.pointer (some ⟨w.heap.size, 0, none⟩)] 33 (0, 0))) ∧ SrI w wr.heap.size w2.heap.size pre W)
        (fun _ _ _ => False)
        (OwnFrom.and (fun s A B row hs hg hr => ⟨Nat.le_trans hs.1 hg.size, heap_kept hs.2 hg (fun e => by obtain ⟨_, o, ho, hc⟩ := hr _ e.symm; rw [hs.2] at ho; cases ho; cases hc)⟩) (SrI.own (by omega)))
        (fun _ _ _ _ _ h _ _ => h)
        (fun s A B hs ht => ⟨⟨Nat.le_trans hs.1.1 ht.size, ht.old hs.1.2 (fun e => by rcases e with e | e <;> omega)⟩, hs.2.turned ht (by omega) (by omega) (by omega) (by omega) (Nat.le_refl _) hlb⟩)
        ⟨⟨Nat.le_refl _, hx⟩, hSr⟩
        (fun x a' W => ∃ Bx, w3.heap.size ≤ Bx ∧ Bx < W.heap.size ∧ Boxed2 W Bx x ∧ a' = { tmps := #[.slice a k cap, .func (.func K) #[] #[], undef, undef, .slice none 0 0, .pointer (some ⟨w.heap.size, 0, none⟩), undef, u7, .pointer (some ⟨w2.heap.size, 0, none⟩), .pointer (some ⟨Bx, 0, none⟩), .func (.func K) #[] #[], .pointer (some ⟨w.heap.size, 0, none⟩), .slice a k cap, .int .i64 k, .int .i64 k, .bool false, u16, u17, u18, u19, u20, u21, .slice a k cap, .int .i64 k, .slice (some ⟨wr.heap.size, 0, none⟩) 0 k, .pointer (some ⟨w.heap.size, 0, none⟩), .func (.func 25) #[] #[.pointer (some ⟨w2.heap.size + 1, 0, none⟩)], .agg #[.int .i64 x.1, .int .i64 x.2], undef, undef, undef, undef, undef], defers := [] })
        (fun x a' A l o o' hA hl ho hc => by
          obtain ⟨Bx, e1, e2, e3, e4⟩ := hA
          refine ⟨Bx, e1, Nat.lt_of_lt_of_le e2 (grownBy_putObj' A l o').size, ?_, e4⟩
          refine (World.putObj_heap_other (fun e => ?_)).trans e3
          subst e
          unfold Boxed2 at e3
          rw [ho] at e3
          cases e3
          cases hc)
        ?assign ?body ?done ?stop
      case assign =>
        intro l pre x W J hi hK
        unfold eItem
        gi_wp2
        have hba := (Below.refl W.heap.size W).alloc (Nat.le_refl _) (Obj.cells #[.int .i64 x.1, .int .i64 x.2] 26)
        have hsz := hi.1.1
        exact hK _ _ ((KeepsOthers.alloc _ _).from _) ⟨by simp, hba.block _ (by omega), hba.block _ (by omega), hba.block _ (by omega)⟩ ⟨⟨by simp; omega, heap_alloc hi.1.2 _⟩, hi.2.new _⟩ ⟨W.heap.size, hsz, by simp, heap_new _ rfl, rfl⟩
      case body =>
        rintro l pre x a' W ⟨⟨hsz, hX5⟩, hD⟩ ⟨Bx, hBx1, hBx2, hX, rfl⟩ hN
        obtain ⟨⟨v, c1, hg⟩, hF⟩ := hD
        obtain ⟨a6, cap6, rfl⟩ := ownsRow_slice hg
        have k1 := c1.cell
        have k4 : W.cell? ⟨Bx, 0, none⟩ = some (.int .i64 x.1) := heap_cell hX rfl
        have k5 : W.cell? ⟨Bx, 1, none⟩ = some (.int .i64 x.2) := heap_cell hX rfl
        have HC := Lib.hid (And.intro c1 (And.intro hg (And.intro hF (And.intro hX hX5))))
        clear c1 hg hF hX hx hSr hX5
        gi_wp2_with (gi_at_builtin; refine wpListIn_append_own _ rfl _ _ 24 rfl wr.heap.size 26 i0 (.agg #[.int .i64 0, .int .i64 0]) 2 16 Try.underlying24 HI.out HZ0.out HZ1.out HZ2.out rfl (by decide) _ _ _ rfl (HC.out.2.1.alloc _) ⟨W.heap.size, 0, none⟩ 1 1 (its [x]) rfl rfl (cell_two _ _ _) (its_one _) (by unfold maxLen; omega) (by omega) (by simp; omega) ?_; intro v' w5 hown hgrow _; obtain ⟨g', cap', rfl⟩ := ownsRow_succ hown; obtain ⟨hb1', hD1, hk1, hs1, hbl1⟩ := SrI.appended HC.out.1 HC.out.2.1 HC.out.2.2.1 (by omega) (by omega) hown hgrow; have hc1 := hb1'.cell; have hf1 := hb1'.frozen; have HD1 := Lib.hid hD1; have HX1 := Lib.hid (And.intro hk1 (And.intro hs1 hbl1)); clear hD1 hk1 hs1 hbl1 hown hgrow)
        have hptr := HX1.out.2.2 (w2.heap.size + 1) (by omega) (by omega) (.inr (fun cur e => by rw [HC.out.2.2.2.2] at e; simp at e))
        have hK3 : Keep3 w.heap.size lb (w2.heap.size + 1) W (w5.setCell ⟨w2.heap.size, 0, none⟩ (.slice (some ⟨g', 0, none⟩) (pre.length + 1) cap')) :=
          ⟨HX1.out.2.1, HX1.out.2.2 _ (by omega) (by omega) (.inl (by omega)), HX1.out.2.2 _ (by omega) (by omega) (.inl (by omega)), hptr⟩
        exact ⟨HX1.out.1.from _, hK3, ⟨Nat.le_trans hsz HX1.out.2.1, hptr.trans HC.out.2.2.2.2⟩, HD1.out⟩
      case done =>
        rintro D xs W hD ⟨rfl, hS⟩ ⟨⟨hsz, _⟩, hDI⟩ hK
        obtain ⟨⟨v, c1, hg⟩, hF⟩ := hDI
        obtain ⟨a6, cap6, rfl⟩ := ownsRow_slice hg
        have k1 := c1.cell
        have HC := Lib.hid (And.intro c1 (And.intro hg hF))
        clear c1 hg hF hS hx hSr
        rw [Hm.srt_length] at *
        gi_wp2
        refine ⟨by simp, .inl ⟨_, _, rfl, run_takeDeferred hK, ?_⟩⟩
        refine ⟨.slice a6 row.length cap6, ?_, _, rfl, ?_, ?_⟩
        · simp [results, Try.f6, go_sem]
          omega
        · exact gath_putObj (gath_base (.inr HC.out.2.1) (by omega)) _ hK rfl
        · exact HC.out.2.2.trans (belowK_b (w := w) (Nat.le_refl _) _ D _ _ (by omega) hK rfl rfl)
      case stop =>
        rintro D c pre W _ _ h _
        exact h.elim
end Go.Proofs.Ytfghcjhfbbdanaa
