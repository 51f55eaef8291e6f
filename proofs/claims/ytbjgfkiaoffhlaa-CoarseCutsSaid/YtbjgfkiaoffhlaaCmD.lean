/- Contracts: a graph built by joins, which vertices are alive, equal lists. -/
import Derived.Test.YtbjgfkiaoffhlaaBo
import Derived.Test.YtbjgfkiaoffhlaaCmB
import Derived.Test.YtbjgfkiaoffhlaaYa
set_option linter.unusedVariables false
set_option linter.unusedSectionVars false
namespace Go.Proofs.Ytbjgfkiaoffhlaa.L11
open Go.RowKit Go.ChangeShapes Go.WideShapes Go.Deep

theorem cellsRop : Try.prog.cellsOf 89 = 3 := by kernel_rfl
set_option maxRecDepth 100000 in
theorem rop_of {H : Type} {enc : TypeId × Value → H} {W : World} {fuel : Nat} {cs : List Value} {x : DataW H × List MemPlace} {spare : Nat → Bool} {held : Bool} {base : Nat}
    (h : DataW.trod enc Try.prog W base spare held fuel 89 cs = some x) (hl : cs.length = 3) :
    ∃ o : RopV, cs = [.int .i64 o.kind, .int .i64 o.key, .int .i64 o.n] ∧ o.ok := by
  obtain ⟨xs, n, _, _, _, hxl, hf⟩ := DataW.trod_struct Try.underlying89 h
  match cs, hl with
  | [c0, c1, c2], _ =>
  match xs, hxl with
  | [y0, y1, y2], _ =>
  have h0 := hf 0 _ rfl
  have h1 := hf 1 _ rfl
  have h2 := hf 2 _ rfl
  simp only [List.getElem?_cons_zero, List.getElem?_cons_succ] at h0 h1 h2
  obtain ⟨k, hk, _, hkw⟩ := DataW.trod_int Try.underlying3 h0
  obtain ⟨m, hm, _, hmw⟩ := DataW.trod_int Try.underlying3 h1
  obtain ⟨s, hs, _, hsw⟩ := DataW.trod_int Try.underlying2 h2
  cases hk; cases hm; cases hs
  exact ⟨⟨k, m, s⟩, rfl, bounds_i64 hkw, bounds_i64 hmw, bounds_i64 hsw⟩
set_option maxRecDepth 100000 in
theorem open_rops {H : Type} {enc : TypeId × Value → H} {W : World} {a : Option Addr} {len cap : Nat} {d : DataW H} {p : List MemPlace}
    (h : DataW.Trod enc Try.prog W 0 (fun _ => true) true 43 (.slice a len cap) d p) : ∃ ops, IsRops W a len cap ops := by
  obtain ⟨fuel, hf⟩ := h
  rcases open_slice Try.underlying43 hf with ⟨hcs, _⟩ | ⟨x, l, c, m, n, D, Pl, hcs, hb, hl, hm, hmm, hx, hi⟩
  · simp [Value.cells] at hcs
    obtain ⟨rfl, rfl, rfl⟩ := hcs
    exact ⟨[], Nat.le_refl _, 0, 0, .inl rfl, rfl, Nat.zero_le _, .inl rfl, fun i o hi => by simp at hi, fun o ho => by simp at ho⟩
  · simp [Value.cells] at hcs
    obtain ⟨rfl, rfl, rfl⟩ := hcs
    rw [if_pos rfl] at hmm
    subst hmm
    rw [cellsRop] at hi
    have hall : ∀ i : Fin len, ∃ o : RopV, W.cells? 0 (x.add (i.val * 3)) 3 = some [.int .i64 o.kind, .int .i64 o.key, .int .i64 o.n] ∧ o.ok := by
      intro i
      obtain ⟨cs', hc, ht⟩ := hi i.val (by have := i.isLt; omega)
      obtain ⟨_, hcl, _⟩ := World.cells?_some hc
      obtain ⟨o, rfl, ho⟩ := rop_of ht hcl
      exact ⟨o, hc, ho⟩
    obtain ⟨f, hf'⟩ := Classical.axiomOfChoice hall
    obtain ⟨b, off, spot⟩ := x
    by_cases h0 : len = 0
    · subst h0
      exact ⟨[], hl, b, off, .inl rfl, rfl, Nat.zero_le _, .inl rfl, fun i o hi => by simp at hi, fun o ho => by simp at ho⟩
    · have hc00 := (World.cells?_some (hf' ⟨0, by omega⟩).1).2.2 0 (by decide)
      have hspot : spot = none := by simpa [Addr.add] using World.cell?_spot hc00
      subst hspot
      have hblk : b < W.heap.size := by
        have := World.block_lt_of_cell? _ _ hc00
        simpa [Addr.add] using this
      refine ⟨List.ofFn f, hl, b, off, .inr rfl, List.length_ofFn, by omega, .inr hblk, fun i o hio => ?_, fun o ho => ?_⟩
      · obtain ⟨hil, hio'⟩ := List.getElem?_eq_some_iff.1 hio
        rw [List.length_ofFn] at hil
        rw [List.getElem_ofFn] at hio'
        subst hio'
        have hcs := (World.cells?_some (hf' ⟨i, hil⟩).1).2.2
        have e0 := hcs 0 (by decide)
        have e1 := hcs 1 (by decide)
        have e2 := hcs 2 (by decide)
        simp only [addr_add] at e0 e1 e2
        exact ⟨e0, e1, e2⟩
      · rw [List.mem_ofFn] at ho
        obtain ⟨i, rfl⟩ := ho
        exact (hf' i).2
end Go.Proofs.Ytbjgfkiaoffhlaa.L11

namespace Go.Proofs.Ytbjgfkiaoffhlaa.L11
open Go.RowKit Rk

/-- What a build leaves. -/
def BuildPost (w : World) (zs : List Int) (ops : List RopV) (e : Ending) (w' : World) : Prop :=
  Below w.heap.size w w' ∧ (((newE zs ≠ 0 ∨ 30 < zs.length ∨ 60 < ops.length) ∧ e = .returned (.tuple #[.pointer none, .agg #[.slice none 0 0, .slice none 0 0], .bool false])) ∨
    ((zs.length ≤ 30 ∧ ops.length ≤ 60) ∧ ∃ g nb lo Bx X, e = .returned (.tuple #[.pointer (some ⟨g, 0, none⟩), X.val zs.length, .bool true]) ∧ BothR w g nb Bx lo X zs (joins zs.length noTab ops) w' ∧ w.heap.size ≤ nb ∧ w.heap.size ≤ lo))
set_option maxRecDepth 100000 in
set_option maxHeartbeats 4000000 in
theorem build_any {w : World} {a0 : Option Addr} {b off len0 cap0 : Nat} {zs : List Int} (hi : IntsAt .i64 w.heap.size w a0 b off len0 zs) (h0 : a0 = none → len0 = 0 ∧ cap0 = 0) {a1 : Option Addr} {b1 off1 len1 cap1 : Nat} {ops : List RopV} (hi1 : RopsAt w.heap.size w a1 b1 off1 len1 ops) :
    Calls Try.prog 23 #[.slice a0 len0 cap0, .slice a1 len1 cap1] w (BuildPost w zs ops) := by
  have hlz := hi.length
  have hl1 := hi1.length
  have hsm := hi.small
  have hsm1 := hi1.small
  unfold maxLen at hsm hsm1
  have HI := Lib.hid hi
  have HN := Lib.hid h0
  have HL := Lib.hid hlz
  have HL1 := Lib.hid hl1
  have H1 := Lib.hid hi1
  have hb0 : Below w.heap.size w (w.alloc (.cells #[.slice none 0 0, .slice none 0 0] 29)) := (Below.refl _ w).alloc (Nat.le_refl _) _
  have HB0 := Lib.hid hb0
  have hr0 : (w.alloc (.cells #[.slice none 0 0, .slice none 0 0] 29)).heap[w.heap.size]? = some (.cells #[.slice none 0 0, .slice none 0 0] 29 (0, 0)) := heap_new (w := w) _ rfl
  have HR0 := Lib.hid hr0
  clear hi h0 hlz hl1 hi1 hb0 hr0
  go_enter Try.func23, Try.ntmps23
  go_upto_region 1 with fail
  obtain ⟨w1, hw1⟩ : ∃ w1, w.alloc (.cells #[.slice none 0 0, .slice none 0 0] 29) = w1 := ⟨_, rfl⟩
  rw [hw1] at HB0 HR0 ⊢
  clear hw1
  have z1 := HB0.out.size
  by_cases hout : 30 < len0 ∨ 60 < len1
  · have HE : Hid (newE zs ≠ 0 ∨ 30 < zs.length ∨ 60 < ops.length) := Lib.hid (.inr (by rw [HL.out, HL1.out]; exact hout))
    have r0 : w1.cell? ⟨w.heap.size, 0, none⟩ = some (.slice none 0 0) := heap_cell HR0.out rfl
    have r1 : w1.cell? ⟨w.heap.size, 1, none⟩ = some (.slice none 0 0) := heap_cell HR0.out rfl
    have q0 := heap_frozen HR0.out 0
    have q1 := heap_frozen HR0.out 1
    have HBe : Hid (Below w.heap.size w ((w1.setCell ⟨w.heap.size, 0, none⟩ (.slice none 0 0)).setCell ⟨w.heap.size, 1, none⟩ (.slice none 0 0))) := Lib.hid ((HB0.out.setCell (p := ⟨w.heap.size, 0, none⟩) (Nat.le_refl _) _).setCell (p := ⟨w.heap.size, 1, none⟩) (Nat.le_refl _) _)
    have HRe : Hid (((w1.setCell ⟨w.heap.size, 0, none⟩ (.slice none 0 0)).setCell ⟨w.heap.size, 1, none⟩ (.slice none 0 0)).heap[w.heap.size]? = some (.cells #[.slice none 0 0, .slice none 0 0] 29 (0, 0))) := Lib.hid (by
      have := heap_set (heap_set HR0.out 0 (.slice none 0 0)) 1 (.slice none 0 0)
      simpa using this)
    cases hx1 : decide (30 < (len0 : Int)) with
    | true =>
      clear hout
      go_wp2
      have e0 := heap_cell HRe.out (i := 0) rfl
      have e1 := heap_cell HRe.out (i := 1) rfl
      refine bodyPost_ret (v := .tuple #[.pointer none, .agg #[.slice none 0 0, .slice none 0 0], .bool false]) (by simp [results, Try.f23, go_sem, e0, e1]) rfl ?_
      exact ⟨HBe.out, .inl ⟨HE.out, rfl⟩⟩
    | false =>
      have hx2 : decide (60 < (len1 : Int)) = true := by simp at hx1 ⊢; omega
      clear hout
      go_wp2
      have e0 := heap_cell HRe.out (i := 0) rfl
      have e1 := heap_cell HRe.out (i := 1) rfl
      refine bodyPost_ret (v := .tuple #[.pointer none, .agg #[.slice none 0 0, .slice none 0 0], .bool false]) (by simp [results, Try.f23, go_sem, e0, e1]) rfl ?_
      exact ⟨HBe.out, .inl ⟨HE.out, rfl⟩⟩
  have hl30 : len0 ≤ 30 := by omega
  have hl60 : len1 ≤ 60 := by omega
  have d1 : decide (30 < (len0 : Int)) = false := by simp; omega
  have d4 : decide (60 < (len1 : Int)) = false := by simp; omega
  clear hout hsm hsm1
  have HNw := Lib.hid (new_any (cap := cap0) ((HI.out.kept HB0.out (Nat.le_refl _)).mono z1) HN.out)
  go_wp2_with fail
  refine HNw.out.mono ?_
  rintro e w3 ⟨hB, hc⟩
  have HB3 := Lib.hid (HB0.out.trans (hB.mono z1))
  have z3 := HB3.out.size
  have HR3 := Lib.hid (heap_below HR0.out hB (heap_lt HR0.out))
  have HNx := Lib.hid (newX_any (cap := cap0) ((HI.out.kept HB3.out (Nat.le_refl _)).mono z3))
  have z13 := hB.size
  clear hB HNw
  rcases hc with ⟨h1, rfl⟩ | ⟨hE0, g, nb, rfl, hG, hg, hn⟩
  · have hne : (newE zs == 0) = false := by simpa using h1
    have hne2 : (newE zs != 0) = true := by simp [bne, hne]
    have HNE := Lib.hid h1
    clear h1
    go_wp2_with fail
    refine HNx.out.mono ?_
    rintro e w4 ⟨hB, hc⟩
    have HB4 := Lib.hid (HB3.out.trans (hB.mono z3))
    have HR4 := Lib.hid (heap_below HR3.out hB (heap_lt HR3.out))
    have z4 := hB.size
    clear hB HNx
    rcases hc with ⟨h1, rfl⟩ | ⟨h1, _⟩
    rotate_left
    · exact absurd h1 HNE.out
    have hr5 := heap_alloc HR4.out (.cells #[.slice none 0 0, .slice none 0 0] 29)
    have HR5 := Lib.hid hr5
    have hx5 : (w4.alloc (.cells #[.slice none 0 0, .slice none 0 0] 29)).heap[w4.heap.size]? = some (.cells #[.slice none 0 0, .slice none 0 0] 29 (0, 0)) := heap_new (w := w4) _ rfl
    have HB5 := Lib.hid (HB4.out.alloc HB4.out.size (.cells #[.slice none 0 0, .slice none 0 0] 29))
    go_upto_region 6 with fail
    generalize hw5 : w4.alloc (.cells #[.slice none 0 0, .slice none 0 0] 29) = w5 at *
    have p0 : w5.cell? ⟨w4.heap.size, 0, none⟩ = some (.slice none 0 0) := heap_cell hx5 rfl
    have p1 : w5.cell? ⟨w4.heap.size, 1, none⟩ = some (.slice none 0 0) := heap_cell hx5 rfl
    have r0 : w5.cell? ⟨w.heap.size, 0, none⟩ = some (.slice none 0 0) := heap_cell hr5 rfl
    have r1 : w5.cell? ⟨w.heap.size, 1, none⟩ = some (.slice none 0 0) := heap_cell hr5 rfl
    have q0 := heap_frozen hr5 0
    have q1 := heap_frozen hr5 1
    have HBe : Hid (Below w.heap.size w ((w5.setCell ⟨w.heap.size, 0, none⟩ (.slice none 0 0)).setCell ⟨w.heap.size, 1, none⟩ (.slice none 0 0))) := Lib.hid ((HB5.out.setCell (p := ⟨w.heap.size, 0, none⟩) (Nat.le_refl _) _).setCell (p := ⟨w.heap.size, 1, none⟩) (Nat.le_refl _) _)
    have HRe : Hid (((w5.setCell ⟨w.heap.size, 0, none⟩ (.slice none 0 0)).setCell ⟨w.heap.size, 1, none⟩ (.slice none 0 0)).heap[w.heap.size]? = some (.cells #[.slice none 0 0, .slice none 0 0] 29 (0, 0))) := Lib.hid (by
      have := heap_set (heap_set hr5 0 (.slice none 0 0)) 1 (.slice none 0 0)
      simpa using this)
    clear hr5 hx5 hw5 h1 hne hne2
    go_region
    all_goals
      obtain ⟨w6, hw6⟩ : ∃ w6, ((w5.setCell ⟨w.heap.size, 0, none⟩ (.slice none 0 0)).setCell ⟨w.heap.size, 1, none⟩ (.slice none 0 0)).drew = w6 := ⟨_, rfl⟩
      have HB6 : Hid (Below w.heap.size w w6) := Lib.hid (by rw [← hw6]; exact HBe.out.drew)
      have hr6 : w6.heap[w.heap.size]? = some (.cells #[.slice none 0 0, .slice none 0 0] 29 (0, 0)) := by rw [← hw6]; exact HRe.out
      rw [hw6]
      clear hw6 p0 p1 r0 r1 q0 q1 HBe HRe
      go_wp2
      have e0 := heap_cell hr6 (i := 0) rfl
      have e1 := heap_cell hr6 (i := 1) rfl
      refine bodyPost_ret (v := .tuple #[.pointer none, .agg #[.slice none 0 0, .slice none 0 0], .bool false]) (by simp [results, Try.f23, go_sem, e0, e1]) rfl ?_
      exact ⟨HB6.out, .inl ⟨.inl HNE.out, rfl⟩⟩
  have HE0 := Lib.hid hE0
  have HG3 := Lib.hid hG
  have hgl := hG.lt
  clear hE0 hG
  go_wp2_with fail
  refine HNx.out.mono ?_
  rintro e w4 ⟨hB, hc⟩
  rcases hc with ⟨h1, _⟩ | ⟨_, X, rfl, hX⟩
  · exact absurd HE0.out h1
  have HB4 := Lib.hid (HB3.out.trans (hB.mono z3))
  have HR4 := Lib.hid (heap_below HR3.out hB (heap_lt HR3.out))
  have HG4 := Lib.hid (HG3.out.below hB)
  have HX4 := Lib.hid hX
  have z4 := HB4.out.size
  have hgw : ∀ wa wc rest ty fr, w4.heap[g]? = some (.cells #[.slice (some wa) zs.length wc, rest] ty fr) → zs.length = 0 ∨ wa.block < w3.heap.size := fun wa wc rest ty fr e => by
    by_cases hz : zs.length = 0
    · exact .inl hz
    obtain ⟨wa', wc', wb', k1, k2⟩ := HG3.out.box
    have k3 := heap_below k1 hB hgl.1
    rw [e] at k3
    cases k3
    have := k2.addr.resolve_left hz
    cases this
    exact .inr (k2.below.resolve_left hz)
  have hbx : (w4.alloc (.cells #[.slice X.wa zs.length X.wc, .slice X.ra zs.length X.rc] 29)).heap[w4.heap.size]? = some (.cells #[.slice X.wa zs.length X.wc, .slice X.ra zs.length X.rc] 29 (0, 0)) := heap_new (w := w4) _ rfl
  have hb5 : Below w4.heap.size w4 (w4.alloc (.cells #[.slice X.wa zs.length X.wc, .slice X.ra zs.length X.rc] 29)) := (Below.refl _ _).alloc (Nat.le_refl _) _
  have hR5 : BothR w g nb w4.heap.size w3.heap.size X zs noTab (w4.alloc (.cells #[.slice X.wa zs.length X.wc, .slice X.ra zs.length X.rc] 29)) :=
    ⟨HG4.out.below hb5, HX4.out.below hb5, fun wa wc rest ty fr e => hgw wa wc rest ty fr (by rw [← hb5.block g HG4.out.lt.1]; exact e), hbx, HB4.out.trans (hb5.mono z4)⟩
  have HR5 := Lib.hid hR5
  have HQ5 := Lib.hid (heap_below HR4.out hb5 (heap_lt HR4.out))
  have hnb : w.heap.size < nb := by have := heap_lt HR0.out; omega
  have hlo : w.heap.size < w3.heap.size := heap_lt HR3.out
  have hBx0 : w.heap.size < w4.heap.size := heap_lt HR4.out
  obtain ⟨lo, hlo'⟩ : ∃ lo, w3.heap.size = lo := ⟨_, rfl⟩
  rw [hlo'] at HR5 hlo
  have hnb4 : nb < w4.heap.size := HG4.out.lt.2
  clear hB hX hgw hbx hb5 hR5 HNx HB0 HB3 HG3 HG4 HX4 HB4 hgl hg hn HE0 hlo' HR0 HR3 HR4
  unfold XD.val
  rw [HL.out]
  rw [HL.out] at HR5 HQ5
  go_wp2
  generalize hbx0 : w4.heap.size = Bx at *
  generalize w4.alloc (.cells #[.slice X.wa len0 X.wc, .slice X.ra len0 X.rc] 29) = w5 at *
  go_loopw [45] (fun i wr => ∃ (k : Nat), i = .int .i64 k ∧ k ≤ len1 ∧ Hid (BothR w g nb Bx lo X zs (joins len0 noTab (ops.take k)) wr) ∧ Hid (wr.heap[w.heap.size]? = some (.cells #[.slice none 0 0, .slice none 0 0] 29 (0, 0)))) (fun i _ => len1 - (intOf i).toNat)
  case atStart => exact ⟨0, rfl, Nat.zero_le _, HR5, HQ5⟩
  case round =>
    clear HR5 HQ5
    obtain ⟨k, rfl, hk, HR, HQ⟩ := hrel
    have zr := HR.out.below.size
    by_cases hlt : k < len1
    · as_aux_lemma =>
      have hI := H1.out.kept HR.out.below (Nat.le_refl _)
      obtain rfl : a1 = some ⟨b1, off1, none⟩ := hI.addr.resolve_left (by omega)
      obtain ⟨o, ho⟩ : ∃ o, ops[k]? = some o := ⟨ops[k]'(by rw [hI.length]; exact hlt), List.getElem?_eq_getElem _⟩
      obtain ⟨c0, c1, c2⟩ := hI.cell k o ho
      have HJ := Lib.hid (joins_take (n := len0) (F := noTab) ho)
      obtain ⟨oa, ob, ow⟩ := o
      simp only at c0 c1 c2 HJ
      have hal := (Below.refl wr.heap.size wr).alloc (Nat.le_refl _) (.cells #[.int .i64 oa, .int .i64 ob, .int .i64 ow] 89)
      have HRc := Lib.hid (HR.out.on hal)
      have HQc := Lib.hid (heap_below HQ.out hal (heap_lt HQ.out))
      have hop : (wr.alloc (.cells #[.int .i64 oa, .int .i64 ob, .int .i64 ow] 89)).heap[wr.heap.size]? = some (.cells #[.int .i64 oa, .int .i64 ob, .int .i64 ow] 89 (0, 0)) := heap_new (w := wr) _ rfl
      have HOP := Lib.hid hop
      have hnl := HR.out.one.lt
      have hrl : ∀ a, a < zs.length → X.rows a < wr.heap.size ∧ lo ≤ X.rows a := fun a ha => ⟨heap_lt (HR.out.two.row a ha).2.2, (HR.out.two.row a ha).1⟩
      have HRL := Lib.hid hrl
      have hbxr := heap_lt HR.out.box
      clear hI ho hal hop hrl HR HQ
      go_upto_region 10 with fail
      clear c0 c1 c2
      generalize wr.alloc (.cells #[.int .i64 oa, .int .i64 ob, .int .i64 ow] 89) = wc at *
      generalize hob : wr.heap.size = ob5 at *
      generalize joins len0 noTab (ops.take k) = F at *
      obtain ⟨F1, hF1⟩ : ∃ F1, joinF len0 F oa ob ow = F1 := ⟨_, rfl⟩
      rw [hF1] at HJ
      obtain ⟨v1, hv1⟩ : ∃ v1, joinE len0 F oa ob ow = v1 := ⟨_, rfl⟩
      have s0 : wc.cell? ⟨ob5, 0, none⟩ = some (.int .i64 oa) := heap_cell HOP.out rfl
      have s1 : wc.cell? ⟨ob5, 1, none⟩ = some (.int .i64 ob) := heap_cell HOP.out rfl
      have s2 : wc.cell? ⟨ob5, 2, none⟩ = some (.int .i64 ow) := heap_cell HOP.out rfl
      have HJ1 := Lib.hid (join_lit HRc.out.one HL.out oa ob ow hv1 hF1)
      go_wp2_with fail
      refine HJ1.out.mono ?_
      rintro e w6 ⟨rfl, h1, h2⟩
      obtain ⟨k1, k2, k3, k4⟩ := HRc.out.joinG h1 h2 (by omega)
      have hopw := h2.old HOP.out (by omega)
      have HQ6 := Lib.hid (h2.old HQc.out (by omega))
      clear s0 s1 s2 h2 HJ1
      have s0 : w6.cell? ⟨ob5, 0, none⟩ = some (.int .i64 oa) := heap_cell hopw rfl
      have s1 : w6.cell? ⟨ob5, 1, none⟩ = some (.int .i64 ob) := heap_cell hopw rfl
      have s2 : w6.cell? ⟨ob5, 2, none⟩ = some (.int .i64 ow) := heap_cell hopw rfl
      have s3 : w6.cell? ⟨Bx, 0, none⟩ = some (.slice X.wa len0 X.wc) := by rw [← HL.out]; exact heap_cell k2 rfl
      have s4 : w6.cell? ⟨Bx, 1, none⟩ = some (.slice X.ra len0 X.rc) := by rw [← HL.out]; exact heap_cell k2 rfl
      have HJ2 : Hid (Calls Try.prog 38 #[.agg #[.slice X.wa len0 X.wc, .slice X.ra len0 X.rc], .int .i64 oa, .int .i64 ob, .int .i64 ow] w6 (fun e w' => e = .returned (.int .i64 v1) ∧ Hid (BothR w g nb Bx lo X zs F1 w') ∧ Hid (w'.heap[w.heap.size]? = some (.cells #[.slice none 0 0, .slice none 0 0] 29 (0, 0))))) := Lib.hid (by
        have := xjoin_any k1 oa ob ow
        unfold XD.val at this
        rw [HL.out] at this
        refine this.mono ?_
        rintro e w' ⟨rfl, q1, q2⟩
        rw [HL.out] at q1 q2 ⊢
        rw [hF1] at q1
        refine ⟨by rw [hv1], Lib.hid (BothR.joinX h1 k1 k3 k2 k4 (by omega) q1 (by rw [HL.out]; exact q2)), Lib.hid (q2.old HQ6.out ?_)⟩
        rintro ⟨a, ha, e⟩
        have := HRL.out a (by rw [HL.out]; exact ha)
        omega)
      clear h1 k1 k2 k3 k4 hopw hv1 hF1
      go_wp2_with fail
      refine HJ2.out.mono ?_
      rintro e w7 ⟨rfl, HR7, HQ7⟩
      clear s0 s1 s2 s3 s4
      go_wp2
      go_roundw
      case rel => exact ⟨k + 1, by go_num, by omega, by rw [HJ.out]; exact HR7, HQ7⟩
      case measure => simp [intOf]; omega
    · obtain rfl : k = len1 := by omega
      have hR := HR.out
      rw [List.take_of_length_le (by rw [HL1.out]; exact Nat.le_refl _)] at hR
      have HRf := Lib.hid hR
      have p0 : wr.cell? ⟨Bx, 0, none⟩ = some (.slice X.wa len0 X.wc) := by rw [← HL.out]; exact heap_cell hR.box rfl
      have p1 : wr.cell? ⟨Bx, 1, none⟩ = some (.slice X.ra len0 X.rc) := by rw [← HL.out]; exact heap_cell hR.box rfl
      have r0 : wr.cell? ⟨w.heap.size, 0, none⟩ = some (.slice none 0 0) := heap_cell HQ.out rfl
      have r1 : wr.cell? ⟨w.heap.size, 1, none⟩ = some (.slice none 0 0) := heap_cell HQ.out rfl
      have q0 := heap_frozen HQ.out 0
      have q1 := heap_frozen HQ.out 1
      clear hR HR
      go_wp2
      go_region
      all_goals
        obtain ⟨w6, hw6⟩ : ∃ w6, ((wr.setCell ⟨w.heap.size, 0, none⟩ (.slice X.wa len0 X.wc)).setCell ⟨w.heap.size, 1, none⟩ (.slice X.ra len0 X.rc)).drew = w6 := ⟨_, rfl⟩
        have hr6 : w6.heap[w.heap.size]? = some (.cells #[.slice X.wa len0 X.wc, .slice X.ra len0 X.rc] 29 (0, 0)) := by
          rw [← hw6]
          have h8 := heap_set (heap_set HQ.out 0 (.slice X.wa len0 X.wc)) 1 (.slice X.ra len0 X.rc)
          have h9 : ((wr.setCell ⟨w.heap.size, 0, none⟩ (.slice X.wa len0 X.wc)).setCell ⟨w.heap.size, 1, none⟩ (.slice X.ra len0 X.rc)).heap[w.heap.size]? = some (.cells #[.slice X.wa len0 X.wc, .slice X.ra len0 X.rc] 29 (0, 0)) := by simpa using h8
          exact h9
        have HR6 : Hid (BothR w g nb Bx lo X zs (joins len0 noTab ops) w6) := Lib.hid (by
          rw [← hw6]
          have t1 : Turned (fun c => c = w.heap.size) wr (wr.setCell ⟨w.heap.size, 0, none⟩ (.slice X.wa len0 X.wc)) := (Turned.set _ _ _ _).weak (fun c _ e => e)
          have t2 : Turned (fun c => c = w.heap.size) (wr.setCell ⟨w.heap.size, 0, none⟩ (.slice X.wa len0 X.wc)) ((wr.setCell ⟨w.heap.size, 0, none⟩ (.slice X.wa len0 X.wc)).setCell ⟨w.heap.size, 1, none⟩ (.slice X.ra len0 X.rc)) := (Turned.set _ _ _ _).weak (fun c _ e => e)
          refine (HRf.out.boxOff HQ.out (t1.trans t2) (by omega) (by omega) (by omega) (Nat.le_refl _)).on (Below.refl _ _).drew)
        rw [hw6]
        clear hw6 p0 p1 r0 r1 q0 q1 HRf HQ
        go_wp2
        have e0 := heap_cell hr6 (i := 0) rfl
        have e1 := heap_cell hr6 (i := 1) rfl
        refine bodyPost_ret (v := .tuple #[.pointer (some ⟨g, 0, none⟩), .agg #[.slice X.wa len0 X.wc, .slice X.ra len0 X.rc], .bool true]) (by simp [results, Try.f23, go_sem, e0, e1]) rfl ?_
        refine ⟨HR6.out.below, .inr ⟨⟨by rw [HL.out]; exact hl30, by rw [HL1.out]; exact hl60⟩, g, nb, lo, Bx, X, by unfold XD.val; rw [HL.out], by rw [HL.out]; exact HR6.out, by omega, by omega⟩⟩
end Go.Proofs.Ytbjgfkiaoffhlaa.L11

namespace Go.Proofs.Ytbjgfkiaoffhlaa
open Go.RowKit Go.Shelf Rk

namespace L11
def aF : Nat → Nat → Int := joins 3 noTab [⟨0, 1, 3⟩, ⟨1, 2, 5⟩]
theorem ex1 : shrE [1, 1, 1] aF [1, 0, 2] = 0 := by decide
theorem ex2 : shrE [1, 1, 1] aF [1, 0] = 1 := by decide
theorem ex3 : wsS [1, 1, 1] [1, 0, 2] = [2, 1] := by decide
theorem ex4 : btw 2 (shrF [1, 1, 1] aF [1, 0, 2]) 0 1 = 5 := by decide
theorem ex5 : inL [1, 0, 2] = [0, 0, 1] := by decide
theorem ex6 : liftR [4, 7] [0, 0, 1] = true := by decide
theorem ex7 : liftL [4, 7] [0, 0, 1] = [4, 4, 7] := by decide
theorem ex8 : liftR [] [0, 0, 1] = false := by decide
set_option maxRecDepth 100000 in
theorem ex9 : ((levelsD 1 [1, 1, 1] aF).take (9 : Int).toNat).length = 2 := by decide
def bF : Nat → Nat → Int := shrF [1, 1, 1] aF [1, 0, 2]
/-- What lies in the example. -/
structure AlC (w : World) (g nb : Nat) (W : World) : Prop where
  one : IsG W g nb [1, 1, 1] aF
  below : Below w.heap.size w W
theorem AlC.on {w W W' : World} {g nb : Nat} (h : AlC w g nb W) (hb : Below W.heap.size W W') : AlC w g nb W' := ⟨h.one.below hb, h.below.trans (hb.mono h.below.size)⟩
structure AlS (g nb ib : Nat) (W : World) : Prop where
  two : IsG W g nb [2, 1] bF
  ins : IntsAt .i64 W.heap.size W (some ⟨ib, 0, none⟩) ib 0 3 [0, 0, 1]
theorem AlS.on {W W' : World} {g nb ib : Nat} (h : AlS g nb ib W) (hb : Below W.heap.size W W') : AlS g nb ib W' := ⟨h.two.below hb, (h.ins.kept hb (Nat.le_refl _)).mono hb.size⟩
theorem shr1 {W : World} {g nb : Nat} (h : IsG W g nb [1, 1, 1] aF) :
    Calls Try.prog 24 #[.pointer (some ⟨g, 0, none⟩), .slice (some ⟨W.heap.size, 0, none⟩) 3 3] (W.alloc (.cells #[.int .i64 1, .int .i64 0, .int .i64 2] 3)) fun e w' => ∃ g' nb' ib, e = .returned (.tuple #[.pointer (some ⟨g', 0, none⟩), .slice (some ⟨ib, 0, none⟩) 3 3, .int .i64 0]) ∧ AlS g' nb' ib w' ∧ Below W.heap.size W w' := by
  have hb := (Below.refl W.heap.size W).alloc (Nat.le_refl _) (.cells #[.int .i64 1, .int .i64 0, .int .i64 2] 3)
  refine (shrink_any (cap := 3) (h.below hb) (ints_three W 1 0 2 (by decide) (by decide) (by decide) 3) (fun e => by cases e)).mono ?_
  rintro e w' ⟨hb2, ⟨h1, _⟩ | ⟨_, g', nb', ib, rfl, k1, k2, _⟩⟩
  · exact absurd ex1 h1
  · rw [ex3] at k1
    rw [ex5] at k2
    exact ⟨g', nb', ib, rfl, ⟨k1, k2⟩, hb.trans (hb2.mono hb.size)⟩
theorem shr2 {W : World} {g nb : Nat} (h : IsG W g nb [1, 1, 1] aF) :
    Calls Try.prog 24 #[.pointer (some ⟨g, 0, none⟩), .slice (some ⟨W.heap.size, 0, none⟩) 2 2] (W.alloc (.cells #[.int .i64 1, .int .i64 0] 3)) fun e w' => e = .returned (.tuple #[.pointer none, .slice none 0 0, .int .i64 1]) ∧ Below W.heap.size W w' := by
  have hb := (Below.refl W.heap.size W).alloc (Nat.le_refl _) (.cells #[.int .i64 1, .int .i64 0] 3)
  refine (shrink_any (cap := 2) (h.below hb) (ints_two W 1 0 (by decide) (by decide) 3) (fun e => by cases e)).mono ?_
  rintro e w' ⟨hb2, ⟨_, rfl⟩ | ⟨h1, _⟩⟩
  · rw [ex2]; exact ⟨rfl, hb.trans (hb2.mono hb.size)⟩
  · rw [ex2] at h1; exact absurd h1 (by decide)
theorem lift1 {W : World} {g nb ib : Nat} (h : AlS g nb ib W) :
    Calls Try.prog 27 #[.slice (some ⟨W.heap.size, 0, none⟩) 2 2, .slice (some ⟨ib, 0, none⟩) 3 3] (W.alloc (.cells #[.int .i64 4, .int .i64 7] 3)) fun e w' => ∃ lb, e = .returned (.tuple #[.slice (some ⟨lb, 0, none⟩) 3 3, .int .i64 0]) ∧ IntsAt .i64 w'.heap.size w' (some ⟨lb, 0, none⟩) lb 0 3 [4, 4, 7] ∧ Below W.heap.size W w' := by
  have hb := (Below.refl W.heap.size W).alloc (Nat.le_refl _) (.cells #[.int .i64 4, .int .i64 7] 3)
  refine (lift_any (cap1 := 2) (cap2 := 3) (ints_two W 4 7 (by decide) (by decide) 3) ((h.on hb).ins) (by decide)).mono ?_
  rintro e w' ⟨hb2, ⟨h1, _⟩ | ⟨_, lb, rfl, k1, _⟩⟩
  · rw [ex6] at h1; cases h1
  · rw [ex7] at k1
    exact ⟨lb, rfl, k1, hb.trans (hb2.mono hb.size)⟩
theorem lift2 {W : World} {g nb ib : Nat} (h : AlS g nb ib W) :
    Calls Try.prog 27 #[.slice none 0 0, .slice (some ⟨ib, 0, none⟩) 3 3] W fun e w' => e = .returned (.tuple #[.slice none 0 0, .int .i64 4]) ∧ Below W.heap.size W w' := by
  refine (lift_any (cap1 := 0) (cap2 := 3) (a1 := none) (b1 := 0) (off1 := 0) (len1 := 0) (ps := []) ⟨.inl rfl, rfl, Nat.zero_le _, .inl rfl, fun i hi => absurd hi (Nat.not_lt_zero _), fun n hn => by simp at hn⟩ h.ins (by decide)).mono ?_
  rintro e w' ⟨hb2, ⟨_, rfl⟩ | ⟨h1, _⟩⟩
  · exact ⟨rfl, hb2⟩
  · rw [ex8] at h1; cases h1
theorem lvl1 {W : World} {g nb : Nat} (h : IsG W g nb [1, 1, 1] aF) :
    Calls Try.prog 29 #[.pointer (some ⟨g, 0, none⟩), .int .i64 1, .int .i64 9] W fun e w' => ∃ a c, e = .returned (.slice a 2 c) ∧ Below W.heap.size W w' := by
  refine (levels_any h 1 9 (by decide)).mono ?_
  rintro e w' ⟨v, xs, rfl, hg, hl, _, hb⟩
  obtain ⟨a, c, rfl⟩ := hg.slice
  rw [ex9] at hl
  exact ⟨a, c, by rw [hl], hb⟩
set_option maxRecDepth 100000 in
set_option maxHeartbeats 4000000 in
theorem alive_any (w : World) : Calls Try.prog 22 #[] w fun e w' => e = .returned (.bool true) ∧ Below w.heap.size w w' := by
  have hI := ints_three w 1 1 1 (by decide) (by decide) (by decide) 2
  have ha1 : Below w.heap.size w (w.alloc (.cells #[.int .i64 1, .int .i64 1, .int .i64 1] 2)) := (Below.refl _ w).alloc (Nat.le_refl _) _
  have ha2 := (Below.refl (w.alloc (.cells #[.int .i64 1, .int .i64 1, .int .i64 1] 2)).heap.size (w.alloc (.cells #[.int .i64 1, .int .i64 1, .int .i64 1] 2))).alloc (Nat.le_refl _) (.cells #[.int .i64 0, .int .i64 1, .int .i64 3, .int .i64 1, .int .i64 2, .int .i64 5] 89)
  have hBd := build_any (cap0 := 3) (cap1 := 2) ((hI.kept ha2 (Nat.le_refl _)).mono ha2.size) (fun e => by cases e) (rops_two (w.alloc (.cells #[.int .i64 1, .int .i64 1, .int .i64 1] 2)) ⟨0, 1, 3⟩ ⟨1, 2, 5⟩ (by unfold RopV.ok; decide) (by unfold RopV.ok; decide) 89)
  simp only [World.size_alloc] at hBd
  have HBd := Lib.hid hBd
  clear hBd
  have HB1 := Lib.hid (ha1.trans (ha2.mono ha1.size))
  clear hI ha1 ha2
  go_enter Try.func22, Try.ntmps22
  go_wp2_with fail
  refine HBd.out.mono ?_
  rintro e w3 ⟨hB, hc⟩
  rcases hc with ⟨h1, _⟩ | ⟨_, g, nb, lo, Bx, X, rfl, hR, _, _⟩
  · exact absurd h1 (by decide)
  have hR' := hR.base HB1.out
  have hal := (Below.refl w3.heap.size w3).alloc (Nat.le_refl _) (.cells #[.slice X.wa 3 X.wc, .slice X.ra 3 X.rc] 29)
  have HR := Lib.hid (hR'.on hal)
  clear hR hR' hB HBd HB1 hal
  unfold XD.val
  have HA : Hid (AlC w g nb (w3.alloc (.cells #[.slice X.wa 3 X.wc, .slice X.ra 3 X.rc] 29))) := Lib.hid ⟨HR.out.one, HR.out.below⟩
  clear HR
  go_upto_region 2 with fail
  obtain ⟨w4, hw4⟩ : ∃ w4, (w3.alloc (.cells #[.slice X.wa 3 X.wc, .slice X.ra 3 X.rc] 29)) = w4 := ⟨_, rfl⟩
  rw [hw4] at HA ⊢
  clear hw4
  have S1 := Lib.hid (shr1 HA.out.one)
  go_wp2_with fail
  refine S1.out.mono ?_
  rintro e w5 ⟨g', nb', ib, rfl, hS, hb⟩
  have HA5 := Lib.hid (HA.out.on hb)
  have HS5 := Lib.hid hS
  clear hb hS S1 HA
  have S2 := Lib.hid (shr2 HA5.out.one)
  go_wp2_with fail
  refine S2.out.mono ?_
  rintro e w6 ⟨rfl, hb⟩
  have HA6 := Lib.hid (HA5.out.on hb)
  have HS6 := Lib.hid (HS5.out.on hb)
  clear hb S2 HA5 HS5
  have L1 := Lib.hid (lift1 HS6.out)
  go_wp2_with fail
  refine L1.out.mono ?_
  rintro e w7 ⟨lb, rfl, hL, hb⟩
  have HA7 := Lib.hid (HA6.out.on hb)
  have HS7 := Lib.hid (HS6.out.on hb)
  have HL7 := Lib.hid hL
  clear hb L1 HA6 HS6 hL
  have L2 := Lib.hid (lift2 HS7.out)
  go_wp2_with fail
  refine L2.out.mono ?_
  rintro e w8 ⟨rfl, hb⟩
  have HA8 := Lib.hid (HA7.out.on hb)
  have HS8 := Lib.hid (HS7.out.on hb)
  have HL8 := Lib.hid ((HL7.out.kept hb (Nat.le_refl _)).mono hb.size)
  clear hb L2 HA7 HS7 HL7
  have CLen : Hid (Calls Try.prog 31 #[.pointer (some ⟨g', 0, none⟩)] w8 fun e w' => e = .returned (.int .i64 2) ∧ w8 = w') := Lib.hid (glen_any HS8.out.two)
  have CBt : Hid (Calls Try.prog 21 #[.pointer (some ⟨g', 0, none⟩), .int .i64 0, .int .i64 1] w8 fun e w' => e = .returned (.int .i64 5) ∧ Below w8.heap.size w8 w') := Lib.hid ((between_any HS8.out.two 0 1).mono (by
    rintro e w' ⟨rfl, ht⟩
    exact ⟨ret1 ex4, below_of_turned ht⟩))
  go_wp2_with (first
    | (go_at_call 31; refine CLen.out.mono ?_; clear CLen; rintro e w' ⟨rfl, rfl⟩)
    | (go_at_call 21; refine CBt.out.mono ?_; clear CBt; rintro e w9 ⟨rfl, hb⟩; have HA9 := Lib.hid (HA8.out.on hb); have HS9 := Lib.hid (HS8.out.on hb); have HL9 := Lib.hid ((HL8.out.kept hb (Nat.le_refl _)).mono hb.size); clear hb HA8 HS8 HL8; have CW := Lib.hid (weight_lit HS9.out.two 0 (show wtOf [2, 1] 0 = 2 by decide)); have h3 := (Below.refl w9.heap.size w9).alloc (Nat.le_refl _) (.cells #[.int .i64 0, .int .i64 0, .int .i64 1] 3); have HAx := Lib.hid (HA9.out.on h3); have HLx := Lib.hid ((HL9.out.kept h3 (Nat.le_refl _)).mono h3.size); have CS := Lib.hid (sameints_any (cap := 3) (cap' := 3) (HS9.out.on h3).ins (ints_three w9 0 0 1 (by decide) (by decide) (by decide) 3)); rw [show decide ([(0 : Int), 0, 1] = [0, 0, 1]) = true by decide] at CS; clear h3)
    | (go_at_call 43; refine CW.out.mono ?_; clear CW; rintro e w' ⟨rfl, rfl⟩)
    | (go_at_call 13; refine CS.out.mono ?_; clear CS; rintro e wa ⟨rfl, hb⟩; have HAa := Lib.hid (HAx.out.on hb); have HLa := Lib.hid ((HLx.out.kept hb (Nat.le_refl _)).mono hb.size); clear hb; have h3 := (Below.refl wa.heap.size wa).alloc (Nat.le_refl _) (.cells #[.int .i64 4, .int .i64 4, .int .i64 7] 3); have HAy := Lib.hid (HAa.out.on h3); have CT := Lib.hid (sameints_any (cap := 3) (cap' := 3) ((HLa.out.kept h3 (Nat.le_refl _)).mono h3.size) (ints_three wa 4 4 7 (by decide) (by decide) (by decide) 3)); rw [show decide ([(4 : Int), 4, 7] = [4, 4, 7]) = true by decide] at CT; clear h3)
    | (go_at_call 13; refine CT.out.mono ?_; clear CT; rintro e wb ⟨rfl, hb⟩; have HAb := Lib.hid (HAy.out.on hb); clear hb; have CLv := Lib.hid (lvl1 HAb.out.one))
    | (go_at_call 29; refine CLv.out.mono ?_; clear CLv; rintro e wc ⟨al, cl, rfl, hb⟩; have HBc := Lib.hid (HAb.out.on hb).below; clear hb))
  go_ret
  exact ⟨rfl, HBc.out⟩
end L11
end Go.Proofs.Ytbjgfkiaoffhlaa

namespace Go.Proofs.Ytbjgfkiaoffhlaa.L11
open Go.RowKit Go.Shelf Rk

set_option maxRecDepth 100000 in
set_option maxHeartbeats 4000000 in
theorem equal_any {w : World} {g nb : Nat} {ws : List Int} {F : Nat → Nat → Int} {X : XD} {lo : Nat} (hG : IsG w g nb ws F) (hX : IsX w X lo ws F) :
    Calls Try.prog 26 #[.pointer (some ⟨g, 0, none⟩), X.val ws.length] w fun e w' => e = .returned (.bool true) ∧ Below w.heap.size w w' := by
  have hal : Below w.heap.size w (w.alloc (.cells #[.slice X.wa ws.length X.wc, .slice X.ra ws.length X.rc] 29)) := (Below.refl _ _).alloc (Nat.le_refl _) _
  have hXd : (w.alloc (.cells #[.slice X.wa ws.length X.wc, .slice X.ra ws.length X.rc] 29)).heap[w.heap.size]? = some (.cells #[.slice X.wa ws.length X.wc, .slice X.ra ws.length X.rc] 29 (0, 0)) := heap_new (w := w) _ rfl
  have hsm := hG.small
  unfold XD.val
  obtain ⟨w1, hw1⟩ : ∃ w1, (w.alloc (.cells #[.slice X.wa ws.length X.wc, .slice X.ra ws.length X.rc] 29)) = w1 := ⟨_, rfl⟩
  have hG1 := hG.below hal
  have hX1 := hX.below hal
  have HW := Lib.hid hw1
  rw [hw1] at hal hXd hG1 hX1
  have HA := Lib.hid hal
  -- what is read, in each world behind
  have HX0 : Hid (∀ W, Below w1.heap.size w1 W → W.cell? ⟨w.heap.size, 0, none⟩ = some (.slice X.wa ws.length X.wc) ∧ W.cell? ⟨w.heap.size, 1, none⟩ = some (.slice X.ra ws.length X.rc)) := Lib.hid (fun W hW => by
    have := heap_below hXd hW (heap_lt hXd)
    exact ⟨heap_cell this rfl, heap_cell this rfl⟩)
  have HXw : Hid (∀ W a, Below w1.heap.size w1 W → a < ws.length → X.wa = some ⟨X.wb, 0, none⟩ ∧ W.cell? ⟨X.wb, a, none⟩ = some (.int .i64 (ws.getD a 0))) := Lib.hid (fun W a hW ha => by
    have h := (hX1.below hW).ints
    refine ⟨h.addr.resolve_left (by omega), ?_⟩
    have := h.cell a ha
    rwa [Nat.zero_add] at this)
  have HXr : Hid (∀ W a b, Below w1.heap.size w1 W → a < ws.length → b < ws.length → X.ra = some ⟨X.rb, 0, none⟩ ∧ W.cell? ⟨X.rb, a, none⟩ = some (.slice (some ⟨X.rows a, 0, none⟩) ws.length ws.length) ∧ W.cell? ⟨X.rows a, b, none⟩ = some (.int .i64 (F a b))) := Lib.hid (fun W a b hW ha hb => by
    have h := hX1.below hW
    obtain ⟨k1, k2, cs, k3, k4⟩ := h.rbl.resolve_left (by omega)
    exact ⟨k1, heap_cell k3 (k4 a ha), heap_cell (h.row a ha).2.2 (rowC_at (F a) hb)⟩)
  have HLe := Lib.hid (fun W (hW : Below w1.heap.size w1 W) => glen_any (hG1.below hW))
  have HWt : Hid (∀ W (a : Nat), Below w1.heap.size w1 W → a < ws.length → Calls Try.prog 43 #[.pointer (some ⟨g, 0, none⟩), .int .i64 (a : Int)] W fun e w' => e = .returned (.int .i64 (ws.getD a 0)) ∧ W = w') := Lib.hid (fun W a hW ha => weight_lit (hG1.below hW) a (by unfold wtOf; rw [if_pos ⟨by omega, by omega⟩, Int.toNat_natCast]))
  have HBt : Hid (∀ W (a b : Nat), Below w1.heap.size w1 W → a < ws.length → b < ws.length → Calls Try.prog 21 #[.pointer (some ⟨g, 0, none⟩), .int .i64 (a : Int), .int .i64 (b : Int)] W fun e w' => e = .returned (.int .i64 (F a b)) ∧ Below W.heap.size W w') := Lib.hid (fun W a b hW ha hb => (between_any (hG1.below hW) a b).mono (by
    rintro e w' ⟨rfl, ht⟩
    exact ⟨ret1 (btw_nat _ F ha hb), below_of_turned ht⟩))
  have HDr : Hid (∀ W, Below w1.heap.size w1 W → Below w1.heap.size w1 W.drew) := Lib.hid (fun W hW => hW.drew)
  clear hG hX hal hXd hG1 hX1 hw1
  generalize ws.length = n at *
  have HZ := Lib.hid (HA.out.size)
  have hne : ((n : Int) != (n : Int)) = false := by simp
  by_cases hn0 : n = 0
  · subst hn0
    have hS0 : ∀ W, Below w1.heap.size w1 W → W.cell? ⟨w.heap.size, 0, none⟩ = some (.slice X.wa 0 X.wc) := fun W hW => (HX0.out W hW).1
    have HX0b := HX0
    clear HX0 HXw HXr HWt HBt
    go_enter Try.func26, Try.ntmps26
    go_upto_region 1 with fail
    rw [HW.out]
    clear HW
    go_region_held3 (fun W => Below w1.heap.size w1 W) (first | assumption | exact Below.refl _ _ | exact (Below.refl _ _).drew) (first
      | (go_at_call 31; refine (HLe.out _ (by assumption)).mono ?_; rintro e w' ⟨rfl, rfl⟩))
    have HB2 : Hid (Below w1.heap.size w1 w1.drew) := Lib.hid (Below.refl _ _).drew
    clear HLe
    generalize w1.drew = w2 at *
    have d0 := (HX0b.out _ HB2.out).1
    clear hS0
    go_wp2
    go_loopw [20] (fun i wr => i = .int .i64 0 ∧ Hid (Below w1.heap.size w1 wr)) (fun i _ => 0)
    case atStart => exact ⟨rfl, HB2⟩
    case round =>
      obtain ⟨rfl, HB⟩ := hrel
      clear d0
      go_wp2
      go_ret
      exact ⟨rfl, HA.out.trans (HB.out.mono HZ.out)⟩
  obtain ⟨hwa, _⟩ := HXw.out w1 0 (Below.refl _ _) (by omega)
  obtain ⟨hra, _⟩ := HXr.out w1 0 0 (Below.refl _ _) (by omega) (by omega)
  rw [hwa, hra] at HX0 HW ⊢
  have HS0 : Hid (∀ W, Below w1.heap.size w1 W → W.cell? ⟨w.heap.size, 0, none⟩ = some (.slice (some ⟨X.wb, 0, none⟩) n X.wc)) := Lib.hid (fun W hW => (HX0.out W hW).1)
  have HS1 : Hid (∀ W, Below w1.heap.size w1 W → W.cell? ⟨w.heap.size, 1, none⟩ = some (.slice (some ⟨X.rb, 0, none⟩) n X.rc)) := Lib.hid (fun W hW => (HX0.out W hW).2)
  clear HX0 hwa hra
  have hS0 := HS0.out
  go_enter Try.func26, Try.ntmps26
  go_upto_region 1 with fail
  rw [HW.out]
  clear HW
  go_region_held3 (fun W => Below w1.heap.size w1 W) (first | assumption | exact Below.refl _ _ | exact (Below.refl _ _).drew) (first
    | (go_at_call 31; refine (HLe.out _ (by assumption)).mono ?_; rintro e w' ⟨rfl, rfl⟩))
  have HB2 : Hid (Below w1.heap.size w1 w1.drew) := Lib.hid (Below.refl _ _).drew
  clear HLe
  generalize w1.drew = w2 at *
  have d0 := HS0.out _ HB2.out
  clear hS0
  go_wp2
  go_loopw [20] (fun i wr => ∃ j : Nat, i = .int .i64 j ∧ j ≤ n ∧ Hid (Below w1.heap.size w1 wr)) (fun i _ => n - (intOf i).toNat)
  case atStart => exact ⟨0, rfl, Nat.zero_le _, HB2⟩
  case round =>
    clear HB2 d0
    obtain ⟨j, rfl, hj, HB⟩ := hrel
    by_cases hlt : j < n
    · have hS0 := HS0.out
      have hSw : ∀ W, Below w1.heap.size w1 W → W.cell? ⟨X.wb, j, none⟩ = some (.int .i64 (ws.getD j 0)) := fun W hW => (HXw.out W j hW hlt).2
      have HWj := Lib.hid (fun W hW => HWt.out W j hW hlt)
      have HBj := Lib.hid (fun W b hW hb => HBt.out W j b hW hlt hb)
      have HXj := Lib.hid (fun W b hW hb => HXr.out W j b hW hlt hb)
      have hji : (j : Int) < (n : Int) := by omega
      have hj0 : (0 : Int) ≤ (j : Int) := by omega
      clear HXw HWt HXr HBt
      generalize ws.getD j 0 = x at *
      have hnx : (x != x) = false := by simp
      have hB := HB.out
      go_wp2_with fail
      go_region_held3 (fun W => Below w1.heap.size w1 W) (first | assumption | exact HB.out | exact HB.out.drew) (first
        | (go_at_call 43; refine (HWj.out _ (by assumption)).mono ?_; rintro e w' ⟨rfl, rfl⟩))
      have HB3 : Hid (Below w1.heap.size w1 wr.drew) := Lib.hid HB.out.drew
      clear HB hB
      generalize wr.drew = w3 at *
      have d0 := HS0.out _ HB3.out
      clear hS0 hSw HWj hnx
      go_wp2
      go_loopw [35] (fun i wr => ∃ k : Nat, i = .int .i64 k ∧ k ≤ n ∧ Hid (Below w1.heap.size w1 wr)) (fun i _ => n - (intOf i).toNat)
      case atStart => exact ⟨0, rfl, Nat.zero_le _, HB3⟩
      case round =>
        clear HB3 d0
        obtain ⟨k, rfl, hk, HB⟩ := hrel
        by_cases hlk : k < n
        · have hS1 := HS1.out
          have hSr : ∀ W, Below w1.heap.size w1 W → W.cell? ⟨X.rb, j, none⟩ = some (.slice (some ⟨X.rows j, 0, none⟩) n n) := fun W hW => (HXj.out W k hW hlk).2.1
          have hSc : ∀ W, Below w1.heap.size w1 W → W.cell? ⟨X.rows j, k, none⟩ = some (.int .i64 (F j k)) := fun W hW => (HXj.out W k hW hlk).2.2
          have HBk := Lib.hid (fun W hW => HBj.out W k hW hlk)
          have hki : (k : Int) < (n : Int) := by omega
          have hk0 : (0 : Int) ≤ (k : Int) := by omega
          generalize F j k = y at *
          have hny : (y != y) = false := by simp
          have hB := HB.out
          go_wp2_with fail
          go_region_held3 (fun W => Below w1.heap.size w1 W) (first | assumption | exact HB.out | exact HB.out.drew) (first
            | (go_at_call 21; refine (HBk.out _ (by assumption)).mono ?_; rintro e w5 ⟨rfl, hb⟩; have hS5 : Below w1.heap.size w1 w5 := Below.trans (show Below w1.heap.size w1 _ by assumption) (hb.mono (show Below w1.heap.size w1 _ by assumption).size); clear hb))
          have HB5 := Lib.hid hS5
          clear HB hB hS5 hS1 hSr hSc HBk
          go_wp2
          go_roundw
          case rel => exact ⟨k + 1, by go_num, by omega, HB5⟩
          case measure => simp [intOf]; omega
        · obtain rfl : k = n := by omega
          go_wp2
          go_roundw
          case rel => exact ⟨j + 1, by go_num, by omega, HB⟩
          case measure => simp [intOf]; omega
    · obtain rfl : j = n := by omega
      go_wp2
      go_ret
      exact ⟨rfl, HA.out.trans (HB.out.mono HZ.out)⟩
end Go.Proofs.Ytbjgfkiaoffhlaa.L11
