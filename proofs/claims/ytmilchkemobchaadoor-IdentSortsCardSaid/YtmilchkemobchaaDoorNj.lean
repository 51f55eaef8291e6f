/- Contracts: Distinct, and what its iterator hands out. -/
import Derived.Test.YtmilchkemobchaaDoorNi
import Derived.Test.YtmilchkemobchaaDoorNm
import Derived.Test.YtmilchkemobchaaDoorEa
import Derived.Test.YtmilchkemobchaaDoorNg
import Derived.TacticsInMore
set_option linter.unusedVariables false
set_option linter.unusedSectionVars false
namespace Go.Proofs.YtmilchkemobchaaDoor
open Go.RowKit Go.Shelf Ss

attribute [local go_sem] Oper.semAt_some

theorem SetT.same {w w' : World} {P : Program} {k : TypeId} {b n : Nat} {g : ByteArray → Bool} (h : SetT w P k b n g) (hb : ∀ o, w.heap[b]? = some o → (∀ cs ty fr, o ≠ .cells cs ty fr) → w'.heap[b]? = some o) : SetT w' P k b n g := by
  obtain ⟨D, ⟨es, cl, h3, h4⟩, h2⟩ := h
  exact ⟨D, ⟨es, cl, hb _ h3 (fun cs ty fr e => by cases e), h4⟩, h2⟩
theorem SetT.mono {w : World} {P : Program} {k : TypeId} {b n n' : Nat} {g : ByteArray → Bool} (h : SetT w P k b n g) (hn : n ≤ n') : SetT w P k b n' g := by
  obtain ⟨D, h1, h2⟩ := h
  exact ⟨D, h1.mono hn, h2⟩
def encT (x : ByteArray) : Array Value := #[.string x]
/-- What Distinct's iterator needs. -/
structure DsR (lo up b2 rb : Nat) (ss : List ByteArray) (W : World) : Prop where
  row : ∃ a cap, Boxed W b2 22 (.slice a ss.length cap) ∧ (ss.length = 0 ∨ a = some ⟨rb, 0, none⟩)
  cells : ss.length = 0 ∨ ∃ cur, W.heap[rb]? = some (.cells cur 9 (0, 0)) ∧ ∀ i, i < ss.length → cur[i]? = some (.string (atS ss i))
  l2 : lo ≤ b2 ∧ b2 < up
  l3 : ss.length = 0 ∨ (lo ≤ rb ∧ rb < up)
  small : ss.length ≤ 100000
  fits : ∀ s ∈ ss, s.size ≤ maxLen
theorem DsR.mid {lo up b2 rb : Nat} {ss : List ByteArray} {W W' : World} (h : DsR lo up b2 rb ss W) (hm : Mid lo up W W') : DsR lo up b2 rb ss W' := by
  obtain ⟨a, cap, h1, h2⟩ := h.row
  refine ⟨⟨a, cap, (hm.block _ h.l2.1 h.l2.2).trans h1, h2⟩, ?_, h.l2, h.l3, h.small, h.fits⟩
  by_cases e : ss.length = 0
  · exact .inl e
  · obtain ⟨cur, h3, h4⟩ := h.cells.resolve_left e
    have h5 := h.l3.resolve_left e
    exact .inr ⟨cur, (hm.block _ h5.1 h5.2).trans h3, h4⟩
theorem DsR.cell {lo up b2 rb : Nat} {ss : List ByteArray} {W : World} (h : DsR lo up b2 rb ss W) {i : Nat} (hi' : i < ss.length) : W.cell? ⟨rb, i, none⟩ = some (.string (atS ss i)) := by
  obtain ⟨cur, h3, h4⟩ := h.cells.resolve_left (by omega)
  exact heap_cell h3 (h4 i hi')
/-- What lies while texts are handed out. -/
structure DsW (lo up : Nat) (ss : List ByteArray) (J : List ByteArray → World → Prop) (W : World) (j : Nat) (X : World) : Prop where
  told : J (distL ss j) X
  set : SetT X Tryd.prog 9 W.heap.size j (usedTo ss j)
  mid : Mid lo up W X
  size : W.heap.size ≤ X.heap.size
set_option maxRecDepth 100000 in
set_option maxHeartbeats 4000000 in
theorem distinct1_in (n : Nat) (hn : 1 ≤ n) {n₀ lo up b2 rb : Nat} {ss : List ByteArray} (w : World) (h : DsR lo up b2 rb ss w) (hup : up ≤ w.heap.size) :
    SeqN Fence.wide n Tryd.prog 27 #[.pointer (some ⟨b2, 0, none⟩)] encT n₀ lo up 9 (fun ys => ys = distD ss) (fun pre => pre <+: distD ss) (distD ss).length w := fun l J Jx W hW hJ hJx hY h0 => by
  have hR := h.mid (Mid.of_below hW hup)
  have hupW : up ≤ W.heap.size := Nat.le_trans hup hW.size
  have HR := Lib.hid hR
  obtain ⟨a, cap, hbr, hra⟩ := hR.row
  have cr := (hbr.alloc (.map #[] 0)).cell
  have HRA := Lib.hid hra
  have hsm := hR.small
  have HD0 : Hid (DsW lo up ss J W 0 (W.alloc (.map #[] 0))) := Lib.hid ⟨hJ _ W _ none h0 (World.grownBy_alloc W _ none) (fun r e => by cases e), (SetT.made W Tryd.prog 9).congr (fun x => by unfold usedTo; rw [decide_eq_false (fun ⟨i, h, _⟩ => absurd h (Nat.not_lt_zero _))]), Mid.alloc lo up W _ hupW, by rw [World.size_alloc]; omega⟩
  obtain ⟨m, hm⟩ : ∃ m, ss.length = m := ⟨_, rfl⟩
  have HMm := Lib.hid hm
  have HDD : Hid (distD ss = distL ss m) := Lib.hid (by unfold distD; rw [hm])
  have hmm := @run_makeMap Tryd.prog
  rw [hm] at cr hsm
  clear h hR hW hbr hra hm h0
  refine callsIn_of_wp Tryd.func27 rfl trivial ?_ rfl
  simp only [Tryd.ntmps27, List.size_toArray, List.length_cons, List.length_nil, Nat.reduceAdd, Nat.reduceSub, Array.replicate_succ, Array.replicate_zero, List.push_toArray, List.append_toArray, List.nil_append, List.cons_append]
  gi_wp2
  clear hmm
  gi_loopw [11] (fun i wr => ∃ j : Nat, i = .int .i64 j ∧ j ≤ m ∧ Hid (DsW lo up ss J W j wr)) (fun i _ => m - (intOf i).toNat)
  case atStart => exact ⟨0, rfl, Nat.zero_le _, HD0⟩
  case round =>
    obtain ⟨j, rfl, hj, HD⟩ := hrel
    clear cr HD0
    by_cases hlt : j < m
    · have hRr := HR.out.mid HD.out.mid
      have cj := hRr.cell (i := j) (by rw [HMm.out]; exact hlt)
      obtain rfl : a = some ⟨rb, 0, none⟩ := HRA.out.resolve_left (by rw [HMm.out]; omega)
      have hxs : (atS ss j).size ≤ maxLen := hRr.fits _ (mem_atS.2 ⟨j, by rw [HMm.out]; exact hlt, rfl⟩)
      have HXs := Lib.hid hxs
      have HU := Lib.hid (usedTo_succ ss j)
      have HS : Hid (distL ss (j + 1) = distL ss j ++ if findI (distL ss j) (atS ss j) < 0 then [atS ss j] else []) := Lib.hid rfl
      have hin : usedTo ss j (atS ss j) = true ↔ atS ss j ∈ distL ss j := by
        rw [mem_distL]; unfold usedTo; rw [decide_eq_true_eq]
      have HIn := Lib.hid hin
      have hji : (j : Int) < (m : Int) := by omega
      clear hRr hxs hin
      generalize atS ss j = x at *
      cases hq : usedTo ss j x with
      | true =>
        have HE : Hid (distL ss (j + 1) = distL ss j) := Lib.hid (by rw [HS.out, if_neg (fun h => find_neg.1 h (HIn.out.1 hq)), List.append_nil])
        have HG := Lib.hid hq
        have HD2 : Hid (DsW lo up ss J W (j + 1) (wr.alloc (.cells #[] 42))) := Lib.hid (by
          have hg := World.grownBy_alloc wr (.cells #[] 42) none
          refine ⟨by rw [HE.out]; exact hJ _ wr _ none HD.out.told hg (fun r e => by cases e), ((HD.out.set.kept hg (by simp)).congr (fun y => ?_)).mono (Nat.le_succ j), HD.out.mid.trans (Mid.alloc lo up wr _ (Nat.le_trans hupW HD.out.size)), by rw [World.size_alloc]; have := HD.out.size; omega⟩
          rw [← HU.out y]
          by_cases e : y = x
          · rw [e, hq]; simp
          · rw [decide_eq_false e, Bool.false_or])
        clear hq HS HIn HU hY
        gi_wp2_with (gi_at_lookup; refine wpListIn_lookup_T rfl _ _ 41 rfl 9 42 Tryd.underlying41 Tryd.underlying9 (zeroUnit _) W.heap.size j _ rfl HD.out.set x rfl HXs.out ?_; rw [HG.out])
        go_roundw
        case rel => exact ⟨j + 1, by go_num, by omega, HD2⟩
        case measure => simp [intOf]; omega
      | false =>
        have hno : x ∉ distL ss j := fun h => by have := HIn.out.2 h; rw [hq] at this; cases this
        have HE : Hid (distL ss (j + 1) = distL ss j ++ [x]) := Lib.hid (by rw [HS.out, if_pos (find_neg.2 hno)])
        have HG := Lib.hid hq
        have hg1 := World.grownBy_alloc wr (.cells #[] 42) none
        have HS1 := Lib.hid (HD.out.set.kept hg1 (by simp))
        have HJ1 := Lib.hid (hJ _ wr _ none HD.out.told hg1 (fun r e => by cases e))
        have HM1 := Lib.hid (HD.out.mid.trans (Mid.alloc lo up wr (.cells #[] 42) (Nat.le_trans hupW HD.out.size)))
        have hsz1 : W.heap.size ≤ (wr.alloc (.cells #[] 42)).heap.size := by rw [World.size_alloc]; have := HD.out.size; omega
        have HZ1 := Lib.hid hsz1
        have hDl : (distL ss j).length < (distD ss).length := by
          rw [HDD.out]
          have h1 := (distL_le ss (show j + 1 ≤ m by omega)).length_le
          rw [HE.out, List.length_append] at h1
          simp at h1; omega
        have HYj := Lib.hid (fun A hA => hY (distL ss j) x A hA hDl)
        clear hq hno HS HIn hg1 hsz1 hDl hY
        gi_wp2_with (first
          | (gi_at_lookup; refine wpListIn_lookup_T rfl _ _ 41 rfl 9 42 Tryd.underlying41 Tryd.underlying9 (zeroUnit _) W.heap.size j _ rfl HD.out.set x rfl HXs.out ?_; rw [HG.out])
          | (gi_at_mapUpdate; refine wpListIn_mapUpdate_T rfl _ _ _ 41 rfl 9 42 Tryd.underlying41 Tryd.underlying9 W.heap.size j _ rfl HS1.out (by unfold maxLen; omega) x rfl rfl HXs.out ?_; intro w8 hM8 hg8; have HM8 := Lib.hid (hM8.congr HU.out); have HJ8 := Lib.hid (hJ _ _ w8 _ HJ1.out hg8 (fun r e => by cases e; obtain ⟨es, cl, ho⟩ := HS1.out.obj; exact ⟨Nat.le_refl _, _, ho, rfl⟩)); have HMi8 := Lib.hid (HM1.out.trans (Mid.grown hg8 (Nat.le_trans hupW HZ1.out) (fun r e => by cases e; exact .inr hupW))); have HZ8 := Lib.hid (Nat.le_trans HZ1.out hg8.size); obtain ⟨fn, tmps, assign, body, hy, hR⟩ := HYj.out w8 HJ8.out; dsimp only [encT] at hy; have HR1 := Lib.hid hR; clear hM8 hg8 hR HYj))
        refine RoundIn.mono HR1.out ?_
        rintro e W3 ⟨⟨hb, hmid, hk⟩, (⟨rfl, hJ3⟩ | ⟨rfl, hJx3⟩)⟩
        · have HD2 : Hid (DsW lo up ss J W (j + 1) W3) := Lib.hid ⟨by rw [HE.out]; exact hJ3, HM8.out.same (fun o ho hne => hk.same _ o (Nat.le_refl _) ho (fun cs fr e => hne cs _ fr e)), HMi8.out.trans hmid, Nat.le_trans HZ8.out hk.size⟩
          clear hb hmid hk hJ3
          gi_wp2
          go_roundw
          case rel => exact ⟨j + 1, by go_num, by omega, HD2⟩
          case measure => simp [intOf]; omega
        · have HJX := Lib.hid hJx3
          clear hb hmid hk hJx3
          gi_wp2
          refine bodyPost_ret (results_none rfl _ _ _) rfl ?_
          exact ⟨⟨_, rfl⟩, .inr ⟨distL ss j ++ [x], by rw [← HE.out, HDD.out]; exact distL_le ss (by omega), HJX.out⟩⟩
    · obtain rfl : j = m := by omega
      gi_wp2
      go_end0
      exact ⟨⟨_, rfl⟩, .inl ⟨_, rfl, by rw [HDD.out]; exact HD.out.told⟩⟩
/-- What the call leaves. -/
def DistPost (ss : List ByteArray) (w : World) (e : Ending) (w' : World) : Prop :=
  ∃ b2 rb, e = .returned (.func (.func 27) #[] #[.pointer (some ⟨b2, 0, none⟩)]) ∧ DsR w.heap.size w'.heap.size b2 rb ss w' ∧ Below w.heap.size w w'
set_option maxRecDepth 100000 in
set_option maxHeartbeats 2000000 in
theorem distinct_any {w : World} {a : Option Addr} {b off len cap : Nat} {ss : List ByteArray} (hm : StrsAt w.heap.size w a b off len ss) (h0 : a = none → len = 0 ∧ cap = 0) (hlen : len ≤ 60000) :
    Calls Tryd.prog 24 #[.slice a len cap] w (DistPost ss w) := by
  have HC := Lib.hid (cloneS_any (cap := cap) hm h0 (by omega))
  have HL := Lib.hid hm.length
  have HFit := Lib.hid hm.fits
  clear hm h0
  go_enter Tryd.func24, Tryd.ntmps24
  go_wp2_with fail
  refine HC.out.mono ?_
  rintro e w1 ⟨a1, b1, cap1, rfl, hc1, hI1, hb1, hB1, hn1, ht1⟩
  have hz := hB1.size
  have HF : Hid (DsR w.heap.size (w1.alloc (.cells #[.slice a1 ss.length cap1] 22)).heap.size w1.heap.size b1 ss (w1.alloc (.cells #[.slice a1 ss.length cap1] 22))) := Lib.hid (by
    refine ⟨⟨a1, cap1, Boxed.new w1 _ _, hI1.addr⟩, ?_, ⟨by omega, by simp⟩, ?_, by rw [HL.out]; omega, HFit.out⟩
    · by_cases e : ss.length = 0
      · exact .inl e
      · obtain ⟨cur, h1⟩ := ht1.resolve_left e
        refine .inr ⟨cur, heap_alloc h1 _, fun i hi => ?_⟩
        have := hI1.cell i hi
        rw [Nat.zero_add] at this
        simpa [World.cell?, h1] using this
    · by_cases e : ss.length = 0
      · exact .inl e
      · have h2 := hb1.resolve_left e
        obtain ⟨cur, h1⟩ := ht1.resolve_left e
        have := heap_lt h1
        exact .inr ⟨by omega, by simp; omega⟩)
  have HBB := Lib.hid (hB1.alloc hB1.size (.cells #[.slice a1 ss.length cap1] 22))
  clear HC hc1 hI1 hb1 hB1 hn1 ht1 hz
  go_wp2
  go_ret
  exact ⟨_, _, rfl, HF.out, HBB.out⟩
end Go.Proofs.YtmilchkemobchaaDoor
