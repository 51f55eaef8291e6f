/- Contracts: section.Tags: its closure, and the iterator over all tags. -/
import Derived.Test.YtnkhpmpoemodiaaSeA
import Derived.Test.YtnkhpmpoemodiaaBg
import Derived.Test.YtnkhpmpoemodiaaVn
import Derived.Test.YtnkhpmpoemodiaaVe
set_option linter.unusedVariables false
set_option linter.unusedSectionVars false
set_option linter.unusedSimpArgs false
namespace Go.Proofs.Ytnkhpmpoemodiaa.Se
open Go.RowKit Go.Shelf

attribute [local go_sem] Oper.semAt_some
def tagsI (L : List SecV) : List Int := L.map (·.m.tag)
/-- The tags lie in new memory, in a box of the closure. -/
def TagsQ (xs : List Int) (w : World) (e : Ending) (w' : World) : Prop :=
  ∃ Bx g, e = .returned (.func (.func 89) #[] #[.pointer (some ⟨Bx, 0, none⟩)]) ∧ Hid (w.heap.size ≤ g ∧ g < w'.heap.size ∧ w.heap.size ≤ Bx ∧ Boxed w' Bx 45 (.slice (some ⟨g, 0, none⟩) xs.length xs.length) ∧ (∀ i y, xs[i]? = some y → w'.cell? ⟨g, i, none⟩ = some (.int .u8 y)) ∧ Below w.heap.size w w')
theorem sec_cells {B : Nat} {w : World} {a : Option Addr} {b off len k : Nat} {L : List SecV} (h : RowsAt encS fitS 2 B w a b off len L) (hk : k < len) : ∃ x, L[k]? = some x ∧ a = some ⟨b, off, none⟩ ∧ b < B ∧ w.cell? ⟨b, off + k * 2, none⟩ = some (.int .u8 x.m.tag) ∧ w.cell? ⟨b, off + k * 2 + 1, none⟩ = some x.bv ∧ fitS x := by
  have hl := h.length
  have hx : L[k]? = some (L[k]'(by omega)) := List.getElem?_eq_getElem _
  have ha := h.addr.resolve_left (by omega)
  have hb := h.below.resolve_left (by omega)
  exact ⟨_, hx, ha, hb, h.cell k _ hx 0 _ rfl, h.cell k _ hx 1 _ rfl, h.fits _ (List.getElem_mem _)⟩
theorem tag_step {k : Nat} {cur : Array Value} {xs : List Int} {v : Int} (hs : cur.size = xs.length) (hval : ∀ j y, j < k → xs[j]? = some y → cur[j]? = some (.int .u8 y)) (hk : k < xs.length) (hv : xs[k]? = some v) :
    (cur.setIfInBounds k (.int .u8 v)).size = xs.length ∧ ∀ j y, j < k + 1 → xs[j]? = some y → (cur.setIfInBounds k (.int .u8 v))[j]? = some (.int .u8 y) := by
  refine ⟨by simpa using hs, fun j y hj hy => ?_⟩
  rw [Array.getElem?_setIfInBounds]
  by_cases h : k = j
  · subst h
    rw [hv] at hy
    cases hy
    rw [if_pos rfl, if_pos (by omega)]
  · rw [if_neg h]; exact hval j y (by omega) hy
set_option maxRecDepth 100000 in
set_option maxHeartbeats 2000000 in
theorem tags_any {w : World} {a : Option Addr} {b off len cap : Nat} {L : List SecV} (h : SecsAt w.heap.size w a b off len cap L) (hl : len ≤ 100000) : Calls Try.prog 67 #[.slice a len cap] w (TagsQ (tagsI L) w) := by
  obtain ⟨i0, hi, hz0, hz1, hz2⟩ := info_parts Try.infoU8
  have HI := Lib.hid hi
  have HZ0 := Lib.hid hz0
  have HZ1 := Lib.hid hz1
  have HZ2 := Lib.hid hz2
  have HR := Lib.hid h.rows
  have HL : Hid ((tagsI L).length = len) := Lib.hid (by unfold tagsI; rw [List.length_map]; exact h.rows.length)
  clear hi hz0 hz1 hz2 h
  go_enter Try.func67, Try.ntmps67
  go_wp2_with (at_make; refine wpList_make_full _ rfl _ _ 45 rfl w.heap.size 5 i0 (.int .u8 0) 1 Try.underlying45 HI.out HZ0.out HZ1.out .i64 .i64 _ _ len rfl rfl rfl rfl (by rw [HZ2.out]; omega) (by unfold maxLen; omega) (Nat.le_refl _) ?_; intro w1 hown hgrow; have hB0 := below_grown hgrow; clear hgrow)
  obtain ⟨-, hown⟩ := hown
  rcases hown with ⟨hbad, _⟩ | ⟨g, cap, cur, hv, hg1, hg, _, _, hcs, _⟩
  · cases hbad
  cases hv
  have HG : Hid ((w1.alloc (.cells #[.slice (some ⟨w.heap.size, 0, none⟩) len len] 45)).heap[w.heap.size]? = some (.cells cur 5 (0, 0)) ∧ (w1.alloc (.cells #[.slice (some ⟨w.heap.size, 0, none⟩) len len] 45)).heap[w1.heap.size]? = some (.cells #[.slice (some ⟨w.heap.size, 0, none⟩) len len] 45 (0, 0)) ∧ cur.size = len ∧ Below w.heap.size w (w1.alloc (.cells #[.slice (some ⟨w.heap.size, 0, none⟩) len len] 45)) ∧ w.heap.size < w1.heap.size) := Lib.hid ⟨heap_alloc hg _, heap_new _ rfl, by simpa using hcs, hB0.alloc hB0.size _, heap_lt hg⟩
  clear hg hcs hg1 hB0
  obtain ⟨Bx, hBx⟩ : ∃ Bx, w1.heap.size = Bx := ⟨_, rfl⟩
  obtain ⟨A, hA⟩ : ∃ A, w.heap.size = A := ⟨_, rfl⟩
  rw [hBx, hA] at HG ⊢
  have hlt0 := HG.out.2.2.2.2
  have HX : Hid (∀ k, k < len → ∃ x, L[k]? = some x ∧ a = some ⟨b, off, none⟩ ∧ b < A ∧ w.cell? ⟨b, off + k * 2, none⟩ = some (.int .u8 x.m.tag) ∧ w.cell? ⟨b, off + k * 2 + 1, none⟩ = some x.bv) := Lib.hid (fun k hk => by
    obtain ⟨x, h1, h2, h3, h4, h5, _⟩ := sec_cells HR.out hk
    exact ⟨x, h1, h2, by omega, h4, h5⟩)
  obtain ⟨xs, hxs⟩ : ∃ xs, tagsI L = xs := ⟨_, rfl⟩
  have HXS : Hid (∀ (k : Nat) (x : SecV), L[k]? = some x → xs[k]? = some x.m.tag) := Lib.hid (fun k x hx => by rw [← hxs]; unfold tagsI; rw [List.getElem?_map, hx]; rfl)
  have HAw := Lib.hid hA
  rw [hxs] at HL
  have HXE := Lib.hid hxs
  clear hxs
  go_loopw [11] (fun i wr => ∃ (k : Nat) (cur : Array Value), k ≤ len ∧ i = .int .i64 k ∧ Hid (wr.heap[A]? = some (.cells cur 5 (0, 0)) ∧ wr.heap[Bx]? = some (.cells #[.slice (some ⟨A, 0, none⟩) len len] 45 (0, 0)) ∧ cur.size = xs.length ∧ (∀ j y, j < k → xs[j]? = some y → cur[j]? = some (.int .u8 y)) ∧ Below A w wr)) (fun i _ => len - (intOf i).toNat)
  case atStart => exact ⟨0, cur, Nat.zero_le _, rfl, Lib.hid ⟨HG.out.1, HG.out.2.1, HG.out.2.2.1.trans HL.out.symm, fun j y hj => absurd hj (Nat.not_lt_zero _), HG.out.2.2.2.1⟩⟩
  case round =>
    obtain ⟨k, cur, hk, rfl, HK⟩ := hrel
    by_cases hlt : k < len
    · obtain ⟨x, hx, ha, hbA, c0, c1⟩ := HX.out k hlt
      subst ha
      have hki : (k : Int) < (len : Int) := by omega
      have hk0 : (0 : Int) ≤ (k : Int) := Int.natCast_nonneg k
      have hb := HK.out.2.2.2.2
      have c0' := (hb.cell (p := ⟨b, off + k * 2, none⟩) hbA).trans c0
      have c1' := (hb.cell (p := ⟨b, off + k * 2 + 1, none⟩) hbA).trans c1
      have hAw := heap_lt HK.out.1
      have hBw := heap_lt HK.out.2.1
      have cB := heap_cell HK.out.2.1 (i := 0) rfl
      have fA := heap_frozen HK.out.1 k
      obtain ⟨z, hz⟩ : ∃ z, cur[k]? = some z := ⟨_, Array.getElem?_eq_getElem (by rw [HK.out.2.2.1, HL.out]; exact hlt)⟩
      have cA := heap_cell HK.out.1 hz
      have hxk := HXS.out k x hx
      have HT := Lib.hid (tag_step (v := x.m.tag) HK.out.2.2.1 HK.out.2.2.2.1 (by rw [HL.out]; exact hlt) hxk)
      obtain ⟨t, ht⟩ : ∃ t, x.m.tag = t := ⟨_, rfl⟩
      rw [ht] at c0 c0' HT
      unfold SecV.bv at c1 c1'
      clear c0 c1 hb hx hxk hz ht
      go_wp2
      go_roundw
      case rel => exact ⟨k + 1, cur.setIfInBounds k (.int .u8 t), by omega, by go_num, Lib.hid ⟨heap_alloc (heap_set HK.out.1 k _) _, heap_alloc (heap_other HK.out.2.1 (by omega) _ _) _, HT.out.1, HT.out.2, (HK.out.2.2.2.2.setCell (p := ⟨A, k, none⟩) (Nat.le_refl _) _).alloc (by rw [size_set]; omega) _⟩⟩
      case measure => simp [intOf]; omega
    · obtain rfl : k = len := by omega
      have HQ : Hid (TagsQ xs w (.returned (.func (.func 89) #[] #[.pointer (some ⟨Bx, 0, none⟩)])) wr) := Lib.hid ⟨Bx, A, rfl, Lib.hid ⟨by rw [HAw.out]; exact Nat.le_refl _, heap_lt HK.out.1, by rw [HAw.out]; omega, by rw [HL.out]; exact HK.out.2.1, fun i y hi => heap_cell HK.out.1 (HK.out.2.2.2.1 i y (by rw [← HL.out]; exact (List.getElem?_eq_some_iff.1 hi).1) hi), by rw [HAw.out]; exact HK.out.2.2.2.2⟩⟩
      go_wp2
      go_ret
      rw [HXE.out]
      exact HQ.out
/-- Between two tags. -/
structure AtT (xs : List Int) (J : List Int → World → Prop) (k : Nat) (W : World) (n₀ lo up : Nat) (wr : World) : Prop where
  j : J (xs.take k) wr
  low : Below n₀ W wr
  mid : Mid lo up W wr
set_option maxRecDepth 100000 in
set_option maxHeartbeats 4000000 in
theorem tags1_seq {xs : List Int} {w : World} {Bx n₀ lo up : Nat} {g : Nat} (hBx : Boxed w Bx 45 (.slice (some ⟨g, 0, none⟩) xs.length xs.length)) (hgb0 : lo ≤ g ∧ g < w.heap.size) (hcell : ∀ i y, xs[i]? = some y → w.cell? ⟨g, i, none⟩ = some (.int .u8 y)) (hl : xs.length ≤ 1000000) (h1 : lo ≤ Bx) (hup : up = w.heap.size) (hnw : n₀ ≤ w.heap.size) (q : Nat) :
    SeqF Fence.wide q Try.prog 89 #[.pointer (some ⟨Bx, 0, none⟩)] (fun y => #[.int .u8 y]) n₀ lo up xs w := by
  intro l J Jx W hW hY h0
  have hbw : Bx < w.heap.size := heap_lt hBx
  have hBxW : W.cell? ⟨Bx, 0, none⟩ = some (.slice (some ⟨g, 0, none⟩) xs.length xs.length) := (hW.cell (p := ⟨Bx, 0, none⟩) hbw).trans hBx.cell
  have hzW := hW.size
  have HK0 : Hid (AtT xs J 0 W n₀ lo up W) := Lib.hid ⟨h0, Below.refl _ _, Mid.refl _ _ _⟩
  have HY := Lib.hid hY
  have HC : Hid (∀ wr : World, Mid lo up W wr → ∀ i y, xs[i]? = some y → wr.cell? ⟨g, i, none⟩ = some (.int .u8 y)) := Lib.hid (fun wr hm i y hi => by
    obtain ⟨g1, g2⟩ := hgb0
    exact (hm.cell (p := ⟨g, i, none⟩) (by show lo ≤ g; omega) (by show g < up; omega)).trans ((hW.cell (p := ⟨g, i, none⟩) g2).trans (hcell i y hi)))
  clear hY h0 hBx hW hcell hgb0
  refine callsIn_of_wp Try.func89 rfl trivial ?_ rfl
  simp only [Try.ntmps89, List.size_toArray, List.length_cons, List.length_nil, Nat.reduceAdd, Nat.reduceSub, Array.replicate_succ, Array.replicate_zero, List.push_toArray, List.append_toArray, List.nil_append, List.cons_append]
  gi_wp2
  gi_loopw [7] (fun i wr => ∃ k : Nat, k ≤ xs.length ∧ i = .int .i64 (k : Int) ∧ Hid (AtT xs J k W n₀ lo up wr))
    (fun i _ => xs.length - (intOf i).toNat)
  case atStart => exact ⟨0, Nat.zero_le _, rfl, HK0⟩
  case round =>
    obtain ⟨k, hk, rfl, HK⟩ := hrel
    by_cases hlt : k < xs.length
    · have hx : xs[k]? = some (xs[k]'hlt) := List.getElem?_eq_getElem _
      obtain ⟨y, hy⟩ : ∃ y, xs[k]'hlt = y := ⟨_, rfl⟩
      rw [hy] at hx
      have c0 := HC.out wr HK.out.mid k y hx
      have hki : (k : Int) < (xs.length : Int) := by omega
      have hk0 : (0 : Int) ≤ (k : Int) := Int.natCast_nonneg k
      have HT : Hid (xs.take (k + 1) = xs.take k ++ [y]) := Lib.hid (by rw [List.take_succ_eq_append_getElem hlt, hy])
      obtain ⟨fn, tmps, assign, body, hyl, hRd⟩ := HY.out (xs.take k) y wr wr HK.out.j (Below.refl _ _) (by rw [← HT.out]; exact List.take_prefix _ _)
      replace hyl : (Instr.yield l #[.int .u8 y]).run Try.prog wr = _ := hyl
      have HRd := Lib.hid hRd
      clear hRd hx hy
      gi_wp2
      refine ⟨fun h => (by cases h), RoundIn.mono HRd.out ?_⟩
      rintro e W9 ⟨⟨hk1, hk2, hk3⟩, ⟨rfl, hj⟩ | ⟨rfl, hj⟩⟩
      · have HN : Hid (AtT xs J (k + 1) W n₀ lo up W9) := Lib.hid ⟨by rw [HT.out]; exact hj, HK.out.low.trans hk1, HK.out.mid.trans hk2⟩
        clear hj hk1 hk2 hk3 HK HRd
        gi_wp2
        refine ⟨⟨k + 1, by omega, by simp, HN⟩, ?_⟩
        unfold intOf
        simp
        omega
      · have HJ9 := Lib.hid hj
        clear hj hk1 hk2 hk3
        gi_wp2
        refine bodyPost_ret (results_none rfl _ _ _) rfl ?_
        exact ⟨⟨_, rfl⟩, W9, Below.refl _ _, .inr ⟨_, by rw [← HT.out]; exact List.take_prefix _ _, HJ9.out⟩⟩
    · obtain rfl : k = xs.length := by omega
      gi_wp2
      refine bodyPost_end (results_none rfl _ _ _) rfl ?_
      exact ⟨⟨_, rfl⟩, wr, Below.refl _ _, .inl (by have := HK.out.j; rwa [List.take_length] at this)⟩
end Go.Proofs.Ytnkhpmpoemodiaa.Se
