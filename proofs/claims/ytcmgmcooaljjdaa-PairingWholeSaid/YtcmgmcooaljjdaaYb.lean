/- Joins as they come in (layer 10); contract: a graph, and the document's, built by a list of joins. -/
import Derived.Test.YtcmgmcooaljjdaaBo
set_option linter.unusedVariables false
set_option linter.unusedSectionVars false
namespace Go.Proofs.Ytcmgmcooaljjdaa.L10
open Go.RowKit Go.ChangeShapes Go.WideShapes Go.Deep

theorem cellsRop : Try.prog.cellsOf 69 = 3 := by kernel_rfl
set_option maxRecDepth 100000 in
theorem rop_of {H : Type} {enc : TypeId × Value → H} {W : World} {fuel : Nat} {cs : List Value} {x : DataW H × List MemPlace} {spare : Nat → Bool} {held : Bool} {base : Nat}
    (h : DataW.trod enc Try.prog W base spare held fuel 69 cs = some x) (hl : cs.length = 3) :
    ∃ o : RopV, cs = [.int .i64 o.kind, .int .i64 o.key, .int .i64 o.n] ∧ o.ok := by
  obtain ⟨xs, n, _, _, _, hxl, hf⟩ := DataW.trod_struct Try.underlying69 h
  match cs, hl with
  | [c0, c1, c2], _ =>
  match xs, hxl with
  | [y0, y1, y2], _ =>
  have h0 := hf 0 _ rfl
  have h1 := hf 1 _ rfl
  have h2 := hf 2 _ rfl
  simp only [List.getElem?_cons_zero, List.getElem?_cons_succ] at h0 h1 h2
  obtain ⟨k, hk, _, hkw⟩ := DataW.trod_int Try.underlying3 h0
  obtain ⟨m, hm, _, hmw⟩ := DataW.trod_int Try.underlying3 h1
  obtain ⟨s, hs, _, hsw⟩ := DataW.trod_int Try.underlying2 h2
  cases hk; cases hm; cases hs
  exact ⟨⟨k, m, s⟩, rfl, bounds_i64 hkw, bounds_i64 hmw, bounds_i64 hsw⟩
set_option maxRecDepth 100000 in
theorem open_rops {H : Type} {enc : TypeId × Value → H} {W : World} {a : Option Addr} {len cap : Nat} {d : DataW H} {p : List MemPlace}
    (h : DataW.Trod enc Try.prog W 0 (fun _ => true) true 23 (.slice a len cap) d p) : ∃ ops, IsRops W a len cap ops := by
  obtain ⟨fuel, hf⟩ := h
  rcases open_slice Try.underlying23 hf with ⟨hcs, _⟩ | ⟨x, l, c, m, n, D, Pl, hcs, hb, hl, hm, hmm, hx, hi⟩
  · simp [Value.cells] at hcs
    obtain ⟨rfl, rfl, rfl⟩ := hcs
    exact ⟨[], Nat.le_refl _, 0, 0, .inl rfl, rfl, Nat.zero_le _, .inl rfl, fun i o hi => by simp at hi, fun o ho => by simp at ho⟩
  · simp [Value.cells] at hcs
    obtain ⟨rfl, rfl, rfl⟩ := hcs
    rw [if_pos rfl] at hmm
    subst hmm
    rw [cellsRop] at hi
    have hall : ∀ i : Fin len, ∃ o : RopV, W.cells? 0 (x.add (i.val * 3)) 3 = some [.int .i64 o.kind, .int .i64 o.key, .int .i64 o.n] ∧ o.ok := by
      intro i
      obtain ⟨cs', hc, ht⟩ := hi i.val (by have := i.isLt; omega)
      obtain ⟨_, hcl, _⟩ := World.cells?_some hc
      obtain ⟨o, rfl, ho⟩ := rop_of ht hcl
      exact ⟨o, hc, ho⟩
    obtain ⟨f, hf'⟩ := Classical.axiomOfChoice hall
    obtain ⟨b, off, spot⟩ := x
    by_cases h0 : len = 0
    · subst h0
      exact ⟨[], hl, b, off, .inl rfl, rfl, Nat.zero_le _, .inl rfl, fun i o hi => by simp at hi, fun o ho => by simp at ho⟩
    · have hc00 := (World.cells?_some (hf' ⟨0, by omega⟩).1).2.2 0 (by decide)
      have hspot : spot = none := by simpa [Addr.add] using World.cell?_spot hc00
      subst hspot
      have hblk : b < W.heap.size := by
        have := World.block_lt_of_cell? _ _ hc00
        simpa [Addr.add] using this
      refine ⟨List.ofFn f, hl, b, off, .inr rfl, List.length_ofFn, by omega, .inr hblk, fun i o hio => ?_, fun o ho => ?_⟩
      · obtain ⟨hil, hio'⟩ := List.getElem?_eq_some_iff.1 hio
        rw [List.length_ofFn] at hil
        rw [List.getElem_ofFn] at hio'
        subst hio'
        have hcs := (World.cells?_some (hf' ⟨i, hil⟩).1).2.2
        have e0 := hcs 0 (by decide)
        have e1 := hcs 1 (by decide)
        have e2 := hcs 2 (by decide)
        simp only [addr_add] at e0 e1 e2
        exact ⟨e0, e1, e2⟩
      · rw [List.mem_ofFn] at ho
        obtain ⟨i, rfl⟩ := ho
        exact (hf' i).2
end Go.Proofs.Ytcmgmcooaljjdaa.L10

namespace Go.Proofs.Ytcmgmcooaljjdaa.L10
open Go.RowKit Rk

/-- What a build leaves. -/
def BuildPost (w : World) (zs : List Int) (ops : List RopV) (e : Ending) (w' : World) : Prop :=
  Below w.heap.size w w' ∧ (((newE zs ≠ 0 ∨ 30 < zs.length ∨ 60 < ops.length) ∧ e = .returned (.tuple #[.pointer none, .agg #[.slice none 0 0, .slice none 0 0], .bool false])) ∨
    ((zs.length ≤ 30 ∧ ops.length ≤ 60) ∧ ∃ g nb lo Bx X, e = .returned (.tuple #[.pointer (some ⟨g, 0, none⟩), X.val zs.length, .bool true]) ∧ BothR w g nb Bx lo X zs (joins zs.length noTab ops) w' ∧ w.heap.size ≤ nb ∧ w.heap.size ≤ lo))
set_option maxRecDepth 100000 in
set_option maxHeartbeats 4000000 in
theorem build_any {w : World} {a0 : Option Addr} {b off len0 cap0 : Nat} {zs : List Int} (hi : IntsAt .i64 w.heap.size w a0 b off len0 zs) (h0 : a0 = none → len0 = 0 ∧ cap0 = 0) {a1 : Option Addr} {b1 off1 len1 cap1 : Nat} {ops : List RopV} (hi1 : RopsAt w.heap.size w a1 b1 off1 len1 ops) :
    Calls Try.prog 12 #[.slice a0 len0 cap0, .slice a1 len1 cap1] w (BuildPost w zs ops) := by
  have hlz := hi.length
  have hl1 := hi1.length
  have hsm := hi.small
  have hsm1 := hi1.small
  unfold maxLen at hsm hsm1
  have HI := Lib.hid hi
  have HN := Lib.hid h0
  have HL := Lib.hid hlz
  have HL1 := Lib.hid hl1
  have H1 := Lib.hid hi1
  have hb0 : Below w.heap.size w (w.alloc (.cells #[.slice none 0 0, .slice none 0 0] 29)) := (Below.refl _ w).alloc (Nat.le_refl _) _
  have HB0 := Lib.hid hb0
  have hr0 : (w.alloc (.cells #[.slice none 0 0, .slice none 0 0] 29)).heap[w.heap.size]? = some (.cells #[.slice none 0 0, .slice none 0 0] 29 (0, 0)) := heap_new (w := w) _ rfl
  have HR0 := Lib.hid hr0
  clear hi h0 hlz hl1 hi1 hb0 hr0
  go_enter Try.func12, Try.ntmps12
  go_upto_region 1 with fail
  obtain ⟨w1, hw1⟩ : ∃ w1, w.alloc (.cells #[.slice none 0 0, .slice none 0 0] 29) = w1 := ⟨_, rfl⟩
  rw [hw1] at HB0 HR0 ⊢
  clear hw1
  have z1 := HB0.out.size
  by_cases hout : 30 < len0 ∨ 60 < len1
  · have HE : Hid (newE zs ≠ 0 ∨ 30 < zs.length ∨ 60 < ops.length) := Lib.hid (.inr (by rw [HL.out, HL1.out]; exact hout))
    have r0 : w1.cell? ⟨w.heap.size, 0, none⟩ = some (.slice none 0 0) := heap_cell HR0.out rfl
    have r1 : w1.cell? ⟨w.heap.size, 1, none⟩ = some (.slice none 0 0) := heap_cell HR0.out rfl
    have q0 := heap_frozen HR0.out 0
    have q1 := heap_frozen HR0.out 1
    have HBe : Hid (Below w.heap.size w ((w1.setCell ⟨w.heap.size, 0, none⟩ (.slice none 0 0)).setCell ⟨w.heap.size, 1, none⟩ (.slice none 0 0))) := Lib.hid ((HB0.out.setCell (p := ⟨w.heap.size, 0, none⟩) (Nat.le_refl _) _).setCell (p := ⟨w.heap.size, 1, none⟩) (Nat.le_refl _) _)
    have HRe : Hid (((w1.setCell ⟨w.heap.size, 0, none⟩ (.slice none 0 0)).setCell ⟨w.heap.size, 1, none⟩ (.slice none 0 0)).heap[w.heap.size]? = some (.cells #[.slice none 0 0, .slice none 0 0] 29 (0, 0))) := Lib.hid (by
      have := heap_set (heap_set HR0.out 0 (.slice none 0 0)) 1 (.slice none 0 0)
      simpa using this)
    cases hx1 : decide (30 < (len0 : Int)) with
    | true =>
      clear hout
      go_wp2
      have e0 := heap_cell HRe.out (i := 0) rfl
      have e1 := heap_cell HRe.out (i := 1) rfl
      refine bodyPost_ret (v := .tuple #[.pointer none, .agg #[.slice none 0 0, .slice none 0 0], .bool false]) (by simp [results, Try.f12, go_sem, e0, e1]) rfl ?_
      exact ⟨HBe.out, .inl ⟨HE.out, rfl⟩⟩
    | false =>
      have hx2 : decide (60 < (len1 : Int)) = true := by simp at hx1 ⊢; omega
      clear hout
      go_wp2
      have e0 := heap_cell HRe.out (i := 0) rfl
      have e1 := heap_cell HRe.out (i := 1) rfl
      refine bodyPost_ret (v := .tuple #[.pointer none, .agg #[.slice none 0 0, .slice none 0 0], .bool false]) (by simp [results, Try.f12, go_sem, e0, e1]) rfl ?_
      exact ⟨HBe.out, .inl ⟨HE.out, rfl⟩⟩
  have hl30 : len0 ≤ 30 := by omega
  have hl60 : len1 ≤ 60 := by omega
  have d1 : decide (30 < (len0 : Int)) = false := by simp; omega
  have d4 : decide (60 < (len1 : Int)) = false := by simp; omega
  clear hout hsm hsm1
  have HNw := Lib.hid (new_any (cap := cap0) ((HI.out.kept HB0.out (Nat.le_refl _)).mono z1) HN.out)
  go_wp2_with fail
  refine HNw.out.mono ?_
  rintro e w3 ⟨hB, hc⟩
  have HB3 := Lib.hid (HB0.out.trans (hB.mono z1))
  have z3 := HB3.out.size
  have HR3 := Lib.hid (heap_below HR0.out hB (heap_lt HR0.out))
  have HNx := Lib.hid (newX_any (cap := cap0) ((HI.out.kept HB3.out (Nat.le_refl _)).mono z3))
  have z13 := hB.size
  clear hB HNw
  rcases hc with ⟨h1, rfl⟩ | ⟨hE0, g, nb, rfl, hG, hg, hn⟩
  · have hne : (newE zs == 0) = false := by simpa using h1
    have hne2 : (newE zs != 0) = true := by simp [bne, hne]
    have HNE := Lib.hid h1
    clear h1
    go_wp2_with fail
    refine HNx.out.mono ?_
    rintro e w4 ⟨hB, hc⟩
    have HB4 := Lib.hid (HB3.out.trans (hB.mono z3))
    have HR4 := Lib.hid (heap_below HR3.out hB (heap_lt HR3.out))
    have z4 := hB.size
    clear hB HNx
    rcases hc with ⟨h1, rfl⟩ | ⟨h1, _⟩
    rotate_left
    · exact absurd h1 HNE.out
    have hr5 := heap_alloc HR4.out (.cells #[.slice none 0 0, .slice none 0 0] 29)
    have HR5 := Lib.hid hr5
    have hx5 : (w4.alloc (.cells #[.slice none 0 0, .slice none 0 0] 29)).heap[w4.heap.size]? = some (.cells #[.slice none 0 0, .slice none 0 0] 29 (0, 0)) := heap_new (w := w4) _ rfl
    have HB5 := Lib.hid (HB4.out.alloc HB4.out.size (.cells #[.slice none 0 0, .slice none 0 0] 29))
    go_upto_region 6 with fail
    generalize hw5 : w4.alloc (.cells #[.slice none 0 0, .slice none 0 0] 29) = w5 at *
    have p0 : w5.cell? ⟨w4.heap.size, 0, none⟩ = some (.slice none 0 0) := heap_cell hx5 rfl
    have p1 : w5.cell? ⟨w4.heap.size, 1, none⟩ = some (.slice none 0 0) := heap_cell hx5 rfl
    have r0 : w5.cell? ⟨w.heap.size, 0, none⟩ = some (.slice none 0 0) := heap_cell hr5 rfl
    have r1 : w5.cell? ⟨w.heap.size, 1, none⟩ = some (.slice none 0 0) := heap_cell hr5 rfl
    have q0 := heap_frozen hr5 0
    have q1 := heap_frozen hr5 1
    have HBe : Hid (Below w.heap.size w ((w5.setCell ⟨w.heap.size, 0, none⟩ (.slice none 0 0)).setCell ⟨w.heap.size, 1, none⟩ (.slice none 0 0))) := Lib.hid ((HB5.out.setCell (p := ⟨w.heap.size, 0, none⟩) (Nat.le_refl _) _).setCell (p := ⟨w.heap.size, 1, none⟩) (Nat.le_refl _) _)
    have HRe : Hid (((w5.setCell ⟨w.heap.size, 0, none⟩ (.slice none 0 0)).setCell ⟨w.heap.size, 1, none⟩ (.slice none 0 0)).heap[w.heap.size]? = some (.cells #[.slice none 0 0, .slice none 0 0] 29 (0, 0))) := Lib.hid (by
      have := heap_set (heap_set hr5 0 (.slice none 0 0)) 1 (.slice none 0 0)
      simpa using this)
    clear hr5 hx5 hw5 h1 hne hne2
    go_region
    all_goals
      obtain ⟨w6, hw6⟩ : ∃ w6, ((w5.setCell ⟨w.heap.size, 0, none⟩ (.slice none 0 0)).setCell ⟨w.heap.size, 1, none⟩ (.slice none 0 0)).drew = w6 := ⟨_, rfl⟩
      have HB6 : Hid (Below w.heap.size w w6) := Lib.hid (by rw [← hw6]; exact HBe.out.drew)
      have hr6 : w6.heap[w.heap.size]? = some (.cells #[.slice none 0 0, .slice none 0 0] 29 (0, 0)) := by rw [← hw6]; exact HRe.out
      rw [hw6]
      clear hw6 p0 p1 r0 r1 q0 q1 HBe HRe
      go_wp2
      have e0 := heap_cell hr6 (i := 0) rfl
      have e1 := heap_cell hr6 (i := 1) rfl
      refine bodyPost_ret (v := .tuple #[.pointer none, .agg #[.slice none 0 0, .slice none 0 0], .bool false]) (by simp [results, Try.f12, go_sem, e0, e1]) rfl ?_
      exact ⟨HB6.out, .inl ⟨.inl HNE.out, rfl⟩⟩
  have HE0 := Lib.hid hE0
  have HG3 := Lib.hid hG
  have hgl := hG.lt
  clear hE0 hG
  go_wp2_with fail
  refine HNx.out.mono ?_
  rintro e w4 ⟨hB, hc⟩
  rcases hc with ⟨h1, _⟩ | ⟨_, X, rfl, hX⟩
  · exact absurd HE0.out h1
  have HB4 := Lib.hid (HB3.out.trans (hB.mono z3))
  have HR4 := Lib.hid (heap_below HR3.out hB (heap_lt HR3.out))
  have HG4 := Lib.hid (HG3.out.below hB)
  have HX4 := Lib.hid hX
  have z4 := HB4.out.size
  have hgw : ∀ wa wc rest ty fr, w4.heap[g]? = some (.cells #[.slice (some wa) zs.length wc, rest] ty fr) → zs.length = 0 ∨ wa.block < w3.heap.size := fun wa wc rest ty fr e => by
    by_cases hz : zs.length = 0
    · exact .inl hz
    obtain ⟨wa', wc', wb', k1, k2⟩ := HG3.out.box
    have k3 := heap_below k1 hB hgl.1
    rw [e] at k3
    cases k3
    have := k2.addr.resolve_left hz
    cases this
    exact .inr (k2.below.resolve_left hz)
  have hbx : (w4.alloc (.cells #[.slice X.wa zs.length X.wc, .slice X.ra zs.length X.rc] 29)).heap[w4.heap.size]? = some (.cells #[.slice X.wa zs.length X.wc, .slice X.ra zs.length X.rc] 29 (0, 0)) := heap_new (w := w4) _ rfl
  have hb5 : Below w4.heap.size w4 (w4.alloc (.cells #[.slice X.wa zs.length X.wc, .slice X.ra zs.length X.rc] 29)) := (Below.refl _ _).alloc (Nat.le_refl _) _
  have hR5 : BothR w g nb w4.heap.size w3.heap.size X zs noTab (w4.alloc (.cells #[.slice X.wa zs.length X.wc, .slice X.ra zs.length X.rc] 29)) :=
    ⟨HG4.out.below hb5, HX4.out.below hb5, fun wa wc rest ty fr e => hgw wa wc rest ty fr (by rw [← hb5.block g HG4.out.lt.1]; exact e), hbx, HB4.out.trans (hb5.mono z4)⟩
  have HR5 := Lib.hid hR5
  have HQ5 := Lib.hid (heap_below HR4.out hb5 (heap_lt HR4.out))
  have hnb : w.heap.size < nb := by have := heap_lt HR0.out; omega
  have hlo : w.heap.size < w3.heap.size := heap_lt HR3.out
  have hBx0 : w.heap.size < w4.heap.size := heap_lt HR4.out
  obtain ⟨lo, hlo'⟩ : ∃ lo, w3.heap.size = lo := ⟨_, rfl⟩
  rw [hlo'] at HR5 hlo
  have hnb4 : nb < w4.heap.size := HG4.out.lt.2
  clear hB hX hgw hbx hb5 hR5 HNx HB0 HB3 HG3 HG4 HX4 HB4 hgl hg hn HE0 hlo' HR0 HR3 HR4
  unfold XD.val
  rw [HL.out]
  rw [HL.out] at HR5 HQ5
  go_wp2
  generalize hbx0 : w4.heap.size = Bx at *
  generalize w4.alloc (.cells #[.slice X.wa len0 X.wc, .slice X.ra len0 X.rc] 29) = w5 at *
  go_loopw [45] (fun i wr => ∃ (k : Nat), i = .int .i64 k ∧ k ≤ len1 ∧ Hid (BothR w g nb Bx lo X zs (joins len0 noTab (ops.take k)) wr) ∧ Hid (wr.heap[w.heap.size]? = some (.cells #[.slice none 0 0, .slice none 0 0] 29 (0, 0)))) (fun i _ => len1 - (intOf i).toNat)
  case atStart => exact ⟨0, rfl, Nat.zero_le _, HR5, HQ5⟩
  case round =>
    clear HR5 HQ5
    obtain ⟨k, rfl, hk, HR, HQ⟩ := hrel
    have zr := HR.out.below.size
    by_cases hlt : k < len1
    · as_aux_lemma =>
      have hI := H1.out.kept HR.out.below (Nat.le_refl _)
      obtain rfl : a1 = some ⟨b1, off1, none⟩ := hI.addr.resolve_left (by omega)
      obtain ⟨o, ho⟩ : ∃ o, ops[k]? = some o := ⟨ops[k]'(by rw [hI.length]; exact hlt), List.getElem?_eq_getElem _⟩
      obtain ⟨c0, c1, c2⟩ := hI.cell k o ho
      have HJ := Lib.hid (joins_take (n := len0) (F := noTab) ho)
      obtain ⟨oa, ob, ow⟩ := o
      simp only at c0 c1 c2 HJ
      have hal := (Below.refl wr.heap.size wr).alloc (Nat.le_refl _) (.cells #[.int .i64 oa, .int .i64 ob, .int .i64 ow] 69)
      have HRc := Lib.hid (HR.out.on hal)
      have HQc := Lib.hid (heap_below HQ.out hal (heap_lt HQ.out))
      have hop : (wr.alloc (.cells #[.int .i64 oa, .int .i64 ob, .int .i64 ow] 69)).heap[wr.heap.size]? = some (.cells #[.int .i64 oa, .int .i64 ob, .int .i64 ow] 69 (0, 0)) := heap_new (w := wr) _ rfl
      have HOP := Lib.hid hop
      have hnl := HR.out.one.lt
      have hrl : ∀ a, a < zs.length → X.rows a < wr.heap.size ∧ lo ≤ X.rows a := fun a ha => ⟨heap_lt (HR.out.two.row a ha).2.2, (HR.out.two.row a ha).1⟩
      have HRL := Lib.hid hrl
      have hbxr := heap_lt HR.out.box
      clear hI ho hal hop hrl HR HQ
      go_upto_region 10 with fail
      clear c0 c1 c2
      generalize wr.alloc (.cells #[.int .i64 oa, .int .i64 ob, .int .i64 ow] 69) = wc at *
      generalize hob : wr.heap.size = ob5 at *
      generalize joins len0 noTab (ops.take k) = F at *
      obtain ⟨F1, hF1⟩ : ∃ F1, joinF len0 F oa ob ow = F1 := ⟨_, rfl⟩
      rw [hF1] at HJ
      obtain ⟨v1, hv1⟩ : ∃ v1, joinE len0 F oa ob ow = v1 := ⟨_, rfl⟩
      have s0 : wc.cell? ⟨ob5, 0, none⟩ = some (.int .i64 oa) := heap_cell HOP.out rfl
      have s1 : wc.cell? ⟨ob5, 1, none⟩ = some (.int .i64 ob) := heap_cell HOP.out rfl
      have s2 : wc.cell? ⟨ob5, 2, none⟩ = some (.int .i64 ow) := heap_cell HOP.out rfl
      have HJ1 := Lib.hid (join_lit HRc.out.one HL.out oa ob ow hv1 hF1)
      go_wp2_with fail
      refine HJ1.out.mono ?_
      rintro e w6 ⟨rfl, h1, h2⟩
      obtain ⟨k1, k2, k3, k4⟩ := HRc.out.joinG h1 h2 (by omega)
      have hopw := h2.old HOP.out (by omega)
      have HQ6 := Lib.hid (h2.old HQc.out (by omega))
      clear s0 s1 s2 h2 HJ1
      have s0 : w6.cell? ⟨ob5, 0, none⟩ = some (.int .i64 oa) := heap_cell hopw rfl
      have s1 : w6.cell? ⟨ob5, 1, none⟩ = some (.int .i64 ob) := heap_cell hopw rfl
      have s2 : w6.cell? ⟨ob5, 2, none⟩ = some (.int .i64 ow) := heap_cell hopw rfl
      have s3 : w6.cell? ⟨Bx, 0, none⟩ = some (.slice X.wa len0 X.wc) := by rw [← HL.out]; exact heap_cell k2 rfl
      have s4 : w6.cell? ⟨Bx, 1, none⟩ = some (.slice X.ra len0 X.rc) := by rw [← HL.out]; exact heap_cell k2 rfl
      have HJ2 : Hid (Calls Try.prog 38 #[.agg #[.slice X.wa len0 X.wc, .slice X.ra len0 X.rc], .int .i64 oa, .int .i64 ob, .int .i64 ow] w6 (fun e w' => e = .returned (.int .i64 v1) ∧ Hid (BothR w g nb Bx lo X zs F1 w') ∧ Hid (w'.heap[w.heap.size]? = some (.cells #[.slice none 0 0, .slice none 0 0] 29 (0, 0))))) := Lib.hid (by
        have := xjoin_any k1 oa ob ow
        unfold XD.val at this
        rw [HL.out] at this
        refine this.mono ?_
        rintro e w' ⟨rfl, q1, q2⟩
        rw [HL.out] at q1 q2 ⊢
        rw [hF1] at q1
        refine ⟨by rw [hv1], Lib.hid (BothR.joinX h1 k1 k3 k2 k4 (by omega) q1 (by rw [HL.out]; exact q2)), Lib.hid (q2.old HQ6.out ?_)⟩
        rintro ⟨a, ha, e⟩
        have := HRL.out a (by rw [HL.out]; exact ha)
        omega)
      clear h1 k1 k2 k3 k4 hopw hv1 hF1
      go_wp2_with fail
      refine HJ2.out.mono ?_
      rintro e w7 ⟨rfl, HR7, HQ7⟩
      clear s0 s1 s2 s3 s4
      go_wp2
      go_roundw
      case rel => exact ⟨k + 1, by go_num, by omega, by rw [HJ.out]; exact HR7, HQ7⟩
      case measure => simp [intOf]; omega
    · obtain rfl : k = len1 := by omega
      have hR := HR.out
      rw [List.take_of_length_le (by rw [HL1.out]; exact Nat.le_refl _)] at hR
      have HRf := Lib.hid hR
      have p0 : wr.cell? ⟨Bx, 0, none⟩ = some (.slice X.wa len0 X.wc) := by rw [← HL.out]; exact heap_cell hR.box rfl
      have p1 : wr.cell? ⟨Bx, 1, none⟩ = some (.slice X.ra len0 X.rc) := by rw [← HL.out]; exact heap_cell hR.box rfl
      have r0 : wr.cell? ⟨w.heap.size, 0, none⟩ = some (.slice none 0 0) := heap_cell HQ.out rfl
      have r1 : wr.cell? ⟨w.heap.size, 1, none⟩ = some (.slice none 0 0) := heap_cell HQ.out rfl
      have q0 := heap_frozen HQ.out 0
      have q1 := heap_frozen HQ.out 1
      clear hR HR
      go_wp2
      go_region
      all_goals
        obtain ⟨w6, hw6⟩ : ∃ w6, ((wr.setCell ⟨w.heap.size, 0, none⟩ (.slice X.wa len0 X.wc)).setCell ⟨w.heap.size, 1, none⟩ (.slice X.ra len0 X.rc)).drew = w6 := ⟨_, rfl⟩
        have hr6 : w6.heap[w.heap.size]? = some (.cells #[.slice X.wa len0 X.wc, .slice X.ra len0 X.rc] 29 (0, 0)) := by
          rw [← hw6]
          have h8 := heap_set (heap_set HQ.out 0 (.slice X.wa len0 X.wc)) 1 (.slice X.ra len0 X.rc)
          have h9 : ((wr.setCell ⟨w.heap.size, 0, none⟩ (.slice X.wa len0 X.wc)).setCell ⟨w.heap.size, 1, none⟩ (.slice X.ra len0 X.rc)).heap[w.heap.size]? = some (.cells #[.slice X.wa len0 X.wc, .slice X.ra len0 X.rc] 29 (0, 0)) := by simpa using h8
          exact h9
        have HR6 : Hid (BothR w g nb Bx lo X zs (joins len0 noTab ops) w6) := Lib.hid (by
          rw [← hw6]
          have t1 : Turned (fun c => c = w.heap.size) wr (wr.setCell ⟨w.heap.size, 0, none⟩ (.slice X.wa len0 X.wc)) := (Turned.set _ _ _ _).weak (fun c _ e => e)
          have t2 : Turned (fun c => c = w.heap.size) (wr.setCell ⟨w.heap.size, 0, none⟩ (.slice X.wa len0 X.wc)) ((wr.setCell ⟨w.heap.size, 0, none⟩ (.slice X.wa len0 X.wc)).setCell ⟨w.heap.size, 1, none⟩ (.slice X.ra len0 X.rc)) := (Turned.set _ _ _ _).weak (fun c _ e => e)
          refine (HRf.out.boxOff HQ.out (t1.trans t2) (by omega) (by omega) (by omega) (Nat.le_refl _)).on (Below.refl _ _).drew)
        rw [hw6]
        clear hw6 p0 p1 r0 r1 q0 q1 HRf HQ
        go_wp2
        have e0 := heap_cell hr6 (i := 0) rfl
        have e1 := heap_cell hr6 (i := 1) rfl
        refine bodyPost_ret (v := .tuple #[.pointer (some ⟨g, 0, none⟩), .agg #[.slice X.wa len0 X.wc, .slice X.ra len0 X.rc], .bool true]) (by simp [results, Try.f12, go_sem, e0, e1]) rfl ?_
        refine ⟨HR6.out.below, .inr ⟨⟨by rw [HL.out]; exact hl30, by rw [HL1.out]; exact hl60⟩, g, nb, lo, Bx, X, by unfold XD.val; rw [HL.out], by rw [HL.out]; exact HR6.out, by omega, by omega⟩⟩
end Go.Proofs.Ytcmgmcooaljjdaa.L10
