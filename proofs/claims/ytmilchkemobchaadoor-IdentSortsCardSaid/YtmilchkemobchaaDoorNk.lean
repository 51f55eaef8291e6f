/- Contract: up to so many of the strings of a list, each once (layer 5). -/
import Derived.Test.YtmilchkemobchaaDoorNj
import Derived.Test.YtmilchkemobchaaDoorRu
set_option linter.unusedVariables false
set_option linter.unusedSectionVars false
set_option linter.unusedSimpArgs false
namespace Go.Proofs.YtmilchkemobchaaDoor
open Go.RowKit Go.Shelf Ss

attribute [local go_sem] Oper.semAt_some

theorem wpListIn_append_GB {F : Fence} {n : Nat} {P : Program} (w : World) {ops : Array Oper} {rest : List Oper} {o : Oper} {a : Act} {Q : Exit → Act → World → Prop} (hgd : o.guard = none) (s x : Operand) (t : TypeId)
    (hop : o.op = Op.call { callee := Callee.builtin Builtin.append, args := #[s, x], argTypes := #[t, t] })
    (base : Nat) (e : TypeId) (i : TypeInfo) (z : Value) (size bytes : Nat) (h1 : P.underlying t = some (.slice e)) (h2 : P.info? e = some i) (h3 : i.zero = some z) (h4 : i.size = size) (h5 : i.bytes = bytes) (h6 : z.cells.size = size) (h7 : 0 < size)
    (v : Value) (k : Nat) (xs : List Value) (b : Option Nat) (hs : a.eval s = v) (hown : GB w base e size v k xs b)
    (ad : Addr) (m c : Nat) (news : List Value) (hx : a.eval x = .slice (some ad) m c) (hn : news.length = m * size) (hc : ∀ j u, news[j]? = some u → w.cell? (ad.add j) = some u) (h1c : ∀ u ∈ news, u.oneCell' = true)
    (hm : 0 < m) (b1 : k + m ≤ maxLen) (b2 : (k + m) * bytes ≤ 140737488355328) (hbase : base ≤ w.heap.size)
    (hK : ∀ g cap w' row, GB w' base e size (.slice (some ⟨g, 0, none⟩) (k + m) cap) (k + m) (xs ++ news) (some g) → w.grownBy w' row → (row = none ∨ row = b) → (b = some g ∨ w.heap.size ≤ g) → wpListIn F n P ops Q rest (a.put o.dst (.slice (some ⟨g, 0, none⟩) (k + m) cap)) w') :
    wpListIn F n P ops Q (o :: rest) a w := by
  refine wpListIn_plain hgd fun K hK' => ?_
  have hw : Region.wanted o (yielded ops a.tmps) = true := by simp [Region.wanted, hgd]
  have := stepIn_append_GB (F := F) (fn := n) (P := P) (ops := ops) (K := K) (Q := Q) (E := True) hgd s x t hop base e i z size bytes h1 h2 h3 h4 h5 h6 h7 v k xs b hs hown ad m c news hx hn hc h1c hm b1 b2 hbase (fun g cap w' row k1 k2 k3 k4 => hK' _ _ (hK g cap w' row k1 k2 k3 k4))
  rwa [if_pos hw] at this
theorem Gt.Tryd.infoStr : (Tryd.prog.info? 9).map (fun i => (i.zero, i.size, i.bytes)) = some (some (.string ByteArray.empty), 1, 16) := Gs.Tryd.infoStr
/-- While texts are gathered: what the box holds, and what is gathered. -/
structure DiH (w : World) (mo : Int) (lo hi : Nat) (u v : Value) (xs : List ByteArray) (b : Option Nat) (W : World) : Prop where
  bo : Boxed W (w.heap.size + 1 + 1 + 1) 22 u
  bm : Boxed W w.heap.size 3 (.int .i64 mo)
  br : Boxed W (w.heap.size + 1) 22 (.slice none 0 0)
  g : GB W hi 9 1 v xs.length (svals xs) b
  below : Below w.heap.size w W
  size : hi ≤ W.heap.size
  l1 : w.heap.size + 1 + 1 + 1 + 1 ≤ lo
  l2 : lo ≤ hi
section
variable {w : World} {mo : Int} {lo hi : Nat} {W W' : World} {u v : Value} {xs : List ByteArray} {b : Option Nat}
theorem DiH.alloc (h : DiH w mo lo hi u v xs b W) (o : Obj) : DiH w mo lo hi u v xs b (W.alloc o) :=
  ⟨h.bo.alloc o, h.bm.alloc o, h.br.alloc o, h.g.alloc o, h.below.alloc (by have := h.size; have := h.l1; have := h.l2; omega) o, by rw [World.size_alloc]; have := h.size; omega, h.l1, h.l2⟩
/-- A block that is no cells is turned. -/
theorem DiH.turned {row : Option Nat} (h : DiH w mo lo hi u v xs b W) (hg : W.grownBy W' row) (hr : ∀ r, row = some r → hi ≤ r ∧ ∃ o : Obj, W.heap[r]? = some o ∧ o.isCells = false) : DiH w mo lo hi u v xs b W' := by
  have hs := h.size
  have hl := h.l1
  have hl2 := h.l2
  have hne : ∀ j, j < hi → some j ≠ row := fun j hj e => by have := (hr j e.symm).1; omega
  have hno : ∀ g, (∃ cur ty fr, W.heap[g]? = some (.cells cur ty fr)) → row ≠ some g := fun g ⟨cur, ty, fr, hc⟩ e => by
    obtain ⟨_, o, ho, hf⟩ := hr g e
    rw [hc] at ho; cases ho; cases hf
  exact ⟨h.bo.kept hg (hne _ (by omega)), h.bm.kept hg (hne _ (by omega)), h.br.kept hg (hne _ (by omega)), h.g.kept hg (fun g e => hno g (by obtain ⟨_, _, cur, h2⟩ := h.g.lt g e; exact ⟨_, _, _, h2⟩)), h.below.grown hg (by omega) (fun r e => by have := (hr r e).1; omega), Nat.le_trans hs hg.size, hl, hl2⟩
theorem DiH.app {x : ByteArray} {g c : Nat} {row : Option Nat} (h : DiH w mo lo hi u v xs b W) (hG : GB W' hi 9 1 (.slice (some ⟨g, 0, none⟩) (xs.length + 1) c) (xs.length + 1) (svals xs ++ [.string x]) (some g)) (hg : W.grownBy W' row) (hr : row = none ∨ row = b) :
    DiH w mo lo hi u (.slice (some ⟨g, 0, none⟩) (xs.length + 1) c) (xs ++ [x]) (some g) W' ∧ KeepsT 9 hi W W' ∧ Mid lo hi W W' := by
  have hs := h.size
  have hl := h.l1
  have hl2 := h.l2
  have hrow : ∀ r, row = some r → hi ≤ r ∧ ∃ cur, W.heap[r]? = some (.cells cur 9 (0, 0)) := fun r e => by
    have e1 : b = some r := by rcases hr with e2 | e2; rw [e] at e2; cases e2; rw [← e2, e]
    obtain ⟨k1, _, k2⟩ := h.g.lt r e1
    exact ⟨k1, k2⟩
  have hne : ∀ j, j < hi → some j ≠ row := fun j hj e => by have := (hrow j e.symm).1; omega
  exact ⟨⟨h.bo.kept hg (hne _ (by omega)), h.bm.kept hg (hne _ (by omega)), h.br.kept hg (hne _ (by omega)), by rw [svals_snoc, List.length_append]; exact hG, h.below.grown hg (by omega) (fun r e => by have := (hrow r e).1; omega), Nat.le_trans hs hg.size, hl, hl2⟩,
    .grown hg (fun r e => by obtain ⟨_, cur, k⟩ := hrow r e; exact .inr ⟨_, _, k⟩), Mid.grown hg hs (fun r e => .inr (hrow r e).1)⟩
theorem DiH.store (h : DiH w mo lo hi u v xs b W) (x : Value) : DiH w mo lo hi x v xs b (W.setCell ⟨w.heap.size + 1 + 1 + 1, 0, none⟩ x) := by
  have hl := h.l1
  have hl2 := h.l2
  have e1 := grownBy_setCell' W (w.heap.size + 1 + 1 + 1) x
  refine ⟨h.bo.set _, h.bm.other (by omega) _, h.br.other (by omega) _, h.g.kept e1 (fun g e e9 => ?_), h.below.setCell (p := ⟨w.heap.size + 1 + 1 + 1, 0, none⟩) (by show w.heap.size ≤ w.heap.size + 1 + 1 + 1; omega) _, Nat.le_trans h.size e1.size, hl, hl2⟩
  cases e9; have := (h.g.lt _ e).1; omega
end
/-- Up to so many of a list. -/
def takeM (D : List ByteArray) (mo : Int) : List ByteArray := if 0 ≤ mo then D.take mo.toNat else D
/-- What a call leaves: a row of new memory. -/
def RowPost (w : World) (T : List ByteArray) (e : Ending) (w' : World) : Prop :=
  ∃ v, e = .returned v ∧ Gath w' w.heap.size 9 1 v T.length (svals T) ∧ Below w.heap.size w w'
set_option maxRecDepth 100000 in
set_option maxHeartbeats 4000000 in
theorem ldistinct_any {w : World} {a : Option Addr} {b off len cap : Nat} {ss : List ByteArray} (hm : StrsAt w.heap.size w a b off len ss) (h0 : a = none → len = 0 ∧ cap = 0) (hlen : len ≤ 60000) (mo : Int) (hmo : mo ≤ 100000) :
    Calls Tryd.prog 19 #[.slice a len cap, .int .i64 mo] w (RowPost w (takeM (distD ss) mo)) := by
  obtain ⟨i0, hi, hz0, hz1, hz2⟩ := info_parts Gt.Tryd.infoStr
  have HI := Lib.hid hi
  have HZ0 := Lib.hid hz0
  have HZ1 := Lib.hid hz1
  have HZ2 := Lib.hid hz2
  clear hi hz0 hz1 hz2
  have b0 : Below w.heap.size w ((((w.alloc (.cells #[.int .i64 mo] 3)).alloc (.cells #[.slice none 0 0] 22)).alloc (.cells #[] 9)).alloc (.cells #[.slice (some ⟨w.heap.size + 1 + 1, 0, none⟩) 0 0] 22)) := ((((Below.refl _ w).alloc (Nat.le_refl _) _).alloc (by simp) _).alloc (by simp; omega) _).alloc (by simp; omega) _
  have bO : Boxed ((((w.alloc (.cells #[.int .i64 mo] 3)).alloc (.cells #[.slice none 0 0] 22)).alloc (.cells #[] 9)).alloc (.cells #[.slice (some ⟨w.heap.size + 1 + 1, 0, none⟩) 0 0] 22)) (w.heap.size + 1 + 1 + 1) 22 (.slice (some ⟨w.heap.size + 1 + 1, 0, none⟩) 0 0) := by
    have := Boxed.new (((w.alloc (.cells #[.int .i64 mo] 3)).alloc (.cells #[.slice none 0 0] 22)).alloc (.cells #[] 9)) 22 (.slice (some ⟨w.heap.size + 1 + 1, 0, none⟩) 0 0)
    simpa only [World.size_alloc] using this
  have bR : Boxed ((((w.alloc (.cells #[.int .i64 mo] 3)).alloc (.cells #[.slice none 0 0] 22)).alloc (.cells #[] 9)).alloc (.cells #[.slice (some ⟨w.heap.size + 1 + 1, 0, none⟩) 0 0] 22)) (w.heap.size + 1) 22 (.slice none 0 0) := by
    refine Boxed.alloc (Boxed.alloc ?_ _) _
    have := Boxed.new (w.alloc (.cells #[.int .i64 mo] 3)) 22 (.slice none 0 0)
    simpa only [World.size_alloc] using this
  have bM : Boxed ((((w.alloc (.cells #[.int .i64 mo] 3)).alloc (.cells #[.slice none 0 0] 22)).alloc (.cells #[] 9)).alloc (.cells #[.slice (some ⟨w.heap.size + 1 + 1, 0, none⟩) 0 0] 22)) w.heap.size 3 (.int .i64 mo) :=
    Boxed.alloc (Boxed.alloc (Boxed.alloc (Boxed.new w 3 (.int .i64 mo)) _) _) _
  have zz : ((((w.alloc (.cells #[.int .i64 mo] 3)).alloc (.cells #[.slice none 0 0] 22)).alloc (.cells #[] 9)).alloc (.cells #[.slice (some ⟨w.heap.size + 1 + 1, 0, none⟩) 0 0] 22)).heap.size = w.heap.size + 1 + 1 + 1 + 1 := by simp only [World.size_alloc]
  have HALL := Lib.hid (distinct_any (cap := cap) (StrsAt.mono (hm.kept b0 (Nat.le_refl _)) b0.size) h0 hlen)
  have HPre := Lib.hid (And.intro zz (And.intro b0 (And.intro bO (And.intro bR bM))))
  have hDl : (distD ss).length ≤ len := by have := distL_length ss ss.length; rw [hm.length] at this; unfold distD; rw [hm.length]; exact this
  have HFit := Lib.hid (distD_fits hm.fits)
  clear hm b0 h0 bO bR bM zz
  unfold DistPost at HALL
  refine (callsIn_wide (n := 3)).1 ?_
  refine callsIn_of_wp_marks Tryd.func19 rfl trivial ?_ rfl
  simp only [Tryd.ntmps19, List.size_toArray, List.length_cons, List.length_nil, Nat.reduceAdd, Nat.reduceSub, Array.replicate_succ, Array.replicate_zero, List.push_toArray, List.append_toArray, List.nil_append, List.cons_append]
  gi_wp2_with (refine ⟨trivial, ?_⟩; gi_at_call 24; refine (callsIn_wide.2 HALL.out).mono ?_; clear HALL; rintro e w1 ⟨b2, rb, rfl, hE, hB1⟩)
  revert hE hB1 HPre
  generalize ((((w.alloc (.cells #[.int .i64 mo] 3)).alloc (.cells #[.slice none 0 0] 22)).alloc (.cells #[] 9)).alloc (.cells #[.slice (some ⟨w.heap.size + 1 + 1, 0, none⟩) 0 0] 22)) = w0
  intro HPre hE hB1
  obtain ⟨zz, b0, bO, bR, bM⟩ := HPre.out
  have hsz := hB1.size
  have hseq := distinct1_in 2 (by omega) (n₀ := w.heap.size) w1 hE (Nat.le_refl _)
  have hP0 : DiH w mo w0.heap.size w1.heap.size (.slice (some ⟨w.heap.size + 1 + 1, 0, none⟩) 0 0) (.slice (some ⟨w.heap.size + 1 + 1, 0, none⟩) 0 0) [] none w1 :=
    ⟨(hB1.block _ (by omega)).trans bO, (hB1.block _ (by omega)).trans bM, (hB1.block _ (by omega)).trans bR, gb_nil _ _ _ _ _, b0.trans (hB1.mono b0.size), Nat.le_refl _, by omega, hsz⟩
  clear HPre hE hB1 bO bR bM
  obtain ⟨D, hD⟩ : ∃ D, distD ss = D := ⟨_, rfl⟩
  have HDd := Lib.hid hD
  rw [hD] at hseq hDl HFit ⊢
  clear hD
  refine wpIn_rangeFunc_seqN rfl (by omega) (gf := 27) (lb := #[.pointer (some ⟨b2, 0, none⟩)]) rfl trivial (enters_of Tryd.func27 (by kernel_rfl) rfl)
    hseq (by omega) (by omega) (Below.refl _ _) (fun _ => rfl)
    (fun pre W => (mo < 0 ∨ (pre.length : Int) ≤ mo) ∧ ∃ v b, DiH w mo w0.heap.size w1.heap.size v v pre b W)
    (fun c q W => c = .ret ∧ ∃ pre x, q = pre ++ [x] ∧ (pre.length : Int) = mo ∧ ∃ v, Boxed W (w.heap.size + 1) 22 v ∧ Gath W w1.heap.size 9 1 v pre.length (svals pre) ∧ Below w.heap.size w W)
    (fun s A B row hs hg hr => ⟨hs.1, by obtain ⟨v, b, hP⟩ := hs.2; exact ⟨v, b, hP.turned hg hr⟩⟩)
    (fun c s A B row hs hg hr => by
      obtain ⟨hc, pre, x, e1, e2, v, k1, k2, k3⟩ := hs
      exact ⟨hc, pre, x, e1, e2, v, boxed_kept k1 hg (fun r e => (hr r e).2), gath_kept k2 hg (fun r e => (hr r e).2), k3.grown hg k3.size (fun r e => by have := (hr r e).1; omega)⟩)
    ⟨by show mo < 0 ∨ (0 : Int) ≤ mo; omega, _, _, hP0⟩
    (fun x a' W => a' = { tmps := #[.slice a len cap, .int .i64 mo, undef, .pointer (some ⟨w.heap.size, 0, none⟩), .pointer (some ⟨w.heap.size + 1, 0, none⟩), .pointer (some ⟨w.heap.size + 1 + 1 + 1, 0, none⟩), .string x, .slice (some ⟨w.heap.size + 1 + 1, 0, none⟩) 0 0, .slice a len cap, .func (.func 27) #[] #[.pointer (some ⟨b2, 0, none⟩)], .string x, undef, undef, undef, undef, undef, undef, undef, undef, undef, undef], defers := [] })
    (fun x a' A l o o' h _ _ _ => h)
    ?assign ?body ?done ?stop
  case assign =>
    intro l pre x W K hI hK
    unfold encT
    gi_wp2
    exact hK _ W ⟨Nat.le_refl _, fun _ _ _ h _ => h⟩ ⟨Below.refl _ _, Mid.refl _ _ _, KeepsT.refl _ _ _⟩ hI rfl
  case body =>
    rintro l pre x a' W ⟨hpm, v, b, hP⟩ rfl hlt
    obtain ⟨a6, cap6, rfl⟩ := hP.g.gath.slice
    have c1 := hP.bo.cell
    have c2 := hP.bm.cell
    have c3 := hP.br.cell
    have f3 := hP.br.frozen
    have HP := Lib.hid hP
    have hszW := hP.size
    have hl1 := hP.l1
    clear hP hP0 hseq
    by_cases hme : (pre.length : Int) = mo
    · have hmb : ((pre.length : Int) == mo) = true := by simp; omega
      gi_wp2
      refine ⟨(KeepsOthers.setCell _ _ _).from _, ⟨(Below.refl _ _).setCell (p := ⟨w.heap.size + 1, 0, none⟩) (by show w.heap.size ≤ w.heap.size + 1; omega) _, Mid.set _ _ _ _ (.inl (by omega)), KeepsT.set _ _ _ _ (by omega)⟩, rfl, pre, x, rfl, hme, .slice a6 pre.length cap6, HP.out.br.set _, ?_, HP.out.below.setCell (p := ⟨w.heap.size + 1, 0, none⟩) (by show w.heap.size ≤ w.heap.size + 1; omega) _⟩
      exact gath_set HP.out.g.gath (by omega) _
    · have hmb : ((pre.length : Int) == mo) = false := by simp; omega
      gi_wp2_with (gi_at_builtin; refine wpListIn_append_GB _ rfl _ _ 22 rfl w1.heap.size 9 i0 (.string ByteArray.empty) 1 16 Tryd.underlying22 HI.out HZ0.out HZ1.out HZ2.out rfl (by decide) _ _ _ _ rfl (HP.out.g.alloc _) ⟨W.heap.size, 0, none⟩ 1 1 [.string x] rfl rfl (cell_one _ _ _) (by intro u hu; simp at hu; subst hu; rfl) (by decide) (by unfold maxLen; omega) (by omega) (by simp; omega) ?_; intro g' cap' w3 row hG hgrow hrow hgr; obtain ⟨hP1, hk1, hm1⟩ := (HP.out.alloc _).app hG hgrow hrow; have hb1 := hP1.bo.cell; have hf1 := hP1.bo.frozen; clear c1 c2 c3 f3)
      have kT := (KeepsT.alloc 9 w1.heap.size W (.cells #[.string x] 9)).trans (hk1.trans (KeepsT.set w3 (w.heap.size + 1 + 1 + 1) 0 (.slice (some ⟨g', 0, none⟩) (pre.length + 1) cap') (by omega)))
      have hrow' : ∀ r, row = some r → w.heap.size ≤ r := fun r e => by
        rcases hrow with e2 | e2
        · rw [e] at e2; cases e2
        · have := (HP.out.g.lt r (by rw [← e2, e])).1; omega
      refine ⟨kT.from (Nat.le_refl _), ⟨(((Below.refl _ W).alloc (by omega) _).grown hgrow (by simp; omega) hrow').setCell (p := ⟨w.heap.size + 1 + 1 + 1, 0, none⟩) (by show w.heap.size ≤ w.heap.size + 1 + 1 + 1; omega) _, ((Mid.alloc _ _ W _ hszW).trans hm1).trans (Mid.set _ _ _ _ (.inl (by omega))), kT⟩, by rw [List.length_append, List.length_cons, List.length_nil]; omega, _, _, hP1.store _⟩
  case done =>
    rintro E ys W hD rfl ⟨hpm, v, b, hP⟩ hK
    obtain ⟨a6, cap6, rfl⟩ := hP.g.gath.slice
    have c1 := hP.bo.cell
    have c3 := hP.br.cell
    have f3 := hP.br.frozen
    have HP := Lib.hid hP
    have hl1 := hP.l1
    clear hP hP0 hseq
    gi_wp2
    have hK' := (KeepsOthers.setCell W ⟨w.heap.size + 1, 0, none⟩ (.slice a6 ys.length cap6)).same E _ hK rfl
    refine ⟨by simp, .inl ⟨_, _, rfl, run_takeDeferred hK', ?_⟩⟩
    have hc5 := cell_kept (HP.out.br.set (.slice a6 ys.length cap6)).cell (grownBy_putObj' _ E (.deferred none)) (fun r e => by cases e; exact ⟨_, hK', rfl⟩)
    refine ⟨.slice a6 ys.length cap6, ?_, _, rfl, ?_, ?_⟩
    · simp [results, Tryd.f19, go_sem, hc5]
    · have htk : takeM (distD ss) mo = ys := by
        rw [HDd.out]
        unfold takeM
        split
        · exact List.take_of_length_le (by omega)
        · rfl
      rw [htk]
      exact gath_putObj (gath_base (gath_set HP.out.g.gath (by omega) _) (by omega)) _ hK' rfl
    · exact (HP.out.below.setCell (p := ⟨w.heap.size + 1, 0, none⟩) (by show w.heap.size ≤ w.heap.size + 1; omega) _).trans (belowK_b (w := w) (Nat.le_refl _) _ E _ _ (by omega) hK' rfl rfl)
  case stop =>
    rintro E c q W hD hpre ⟨rfl, pre, x, rfl, hil, v, hbR, hg, hbel⟩ hK
    obtain ⟨a6, cap6, rfl⟩ := hg.slice
    gi_wp2
    refine ⟨by simp, .inl ⟨_, _, rfl, run_takeDeferred hK, ?_⟩⟩
    have hc5 := cell_kept hbR.cell (grownBy_putObj' _ E (.deferred none)) (fun r e => by cases e; exact ⟨_, hK, rfl⟩)
    have htk : takeM D mo = pre := by
      unfold takeM
      obtain ⟨t, ht⟩ := hpre
      rw [if_pos (by omega), ← ht, ← hil, Int.toNat_natCast, List.append_assoc, List.take_left]
    refine ⟨.slice a6 pre.length cap6, ?_, _, rfl, ?_, ?_⟩
    · simp [results, Tryd.f19, go_sem, hc5]
    · rw [htk]
      exact gath_putObj (gath_base hg (by omega)) _ hK rfl
    · exact hbel.trans (belowK_b (w := w) (Nat.le_refl _) _ E _ _ (by omega) hK rfl rfl)
end Go.Proofs.YtmilchkemobchaaDoor
