/- Contract: the reference's New: the walk. -/
import Derived.Test.YtjpgkocffceeoaaQc
import Derived.Deep.CutBlock
set_option linter.unusedVariables false
set_option linter.unusedSectionVars false
namespace Go.Proofs.Ytjpgkocffceeoaa
open Go.RowKit Rk

def NewXPost (zs : List Int) (w : World) (e : Ending) (w' : World) : Prop :=
  Below w.heap.size w w' ∧ ((newE zs ≠ 0 ∧ e = .returned (.tuple #[.agg #[.slice none 0 0, .slice none 0 0], .int .i64 (newE zs)])) ∨
    (newE zs = 0 ∧ ∃ X : XD, e = .returned (.tuple #[X.val zs.length, .int .i64 0]) ∧ IsX w' X w.heap.size zs noTab))
theorem madeRow (w : World) (n : Nat) (hn : n ≤ 4096) :
    (Instr.makeSlice 22 (.int .i64 (n : Int)) (.int .i64 (n : Int))).run Try.prog w = .ok (.slice (some ⟨w.heap.size, 0, none⟩) n n) (w.alloc (.cells (rowC n (noTab 0)) 2)) := by
  obtain ⟨i0, hi, hz0, hz1, hz2⟩ := info_parts Try.infoI64
  have h := run_make (P := Try.prog) w 22 2 i0 _ Try.underlying22 hi hz0 .i64 .i64 n n (by omega) (Int.le_refl _) (by rw [hz2]; omega) (by omega)
  rw [hz1, show (Value.int IntKind.i64 0).cells = #[Value.int IntKind.i64 0] from rfl] at h
  have e : madeCells #[Value.int IntKind.i64 0] n = rowC n (noTab 0) := by
    apply Array.ext
    · simp [size_madeCells, rowC]
    · intro i h1 h2
      simp [madeCells, rowC, noTab, Nat.mod_one]
  simp only [Int.toNat_natCast, Nat.mul_one] at h
  rw [h, e]
theorem Try.infoRow : (Try.prog.info? 22).map (fun i => (i.zero, i.size, i.bytes)) = some (some (.slice none 0 0), 1, 24) := by kernel_rfl
set_option maxHeartbeats 4000000 in
theorem newX_any {w : World} {a : Option Addr} {b off len cap : Nat} {zs : List Int} (h : IntsAt .i64 w.heap.size w a b off len zs) :
    Calls Try.prog 34 #[.slice a len cap] w (NewXPost zs w) := by
  have hlz := h.length
  have hsm := h.small
  unfold maxLen at hsm
  have HI := Lib.hid h
  have HL := Lib.hid hlz
  have hb0 : Below w.heap.size w ((w.alloc (.cells #[.slice none 0 0, .slice none 0 0] 29)).alloc (.cells #[.slice none 0 0, .slice none 0 0] 29)) := ((Below.refl _ w).alloc (Nat.le_refl _) _).alloc (by simp) _
  have HB0 := Lib.hid hb0
  have hr0 : ((w.alloc (.cells #[.slice none 0 0, .slice none 0 0] 29)).alloc (.cells #[.slice none 0 0, .slice none 0 0] 29)).heap[w.heap.size]? = some (.cells #[.slice none 0 0, .slice none 0 0] 29 (0, 0)) := heap_alloc (heap_new (w := w) _ rfl) _
  have hg0 : ((w.alloc (.cells #[.slice none 0 0, .slice none 0 0] 29)).alloc (.cells #[.slice none 0 0, .slice none 0 0] 29)).heap[w.heap.size + 1]? = some (.cells #[.slice none 0 0, .slice none 0 0] 29 (0, 0)) := heap_new (w := w.alloc _) _ (by simp)
  have HR0 := Lib.hid hr0
  have HG0 := Lib.hid hg0
  clear h hlz hb0 hr0 hg0
  go_enter Try.func34, Try.ntmps34
  go_upto_region 2 with fail
  obtain ⟨w1, hw1⟩ : ∃ w1, (w.alloc (.cells #[.slice none 0 0, .slice none 0 0] 29)).alloc (.cells #[.slice none 0 0, .slice none 0 0] 29) = w1 := ⟨_, rfl⟩
  rw [hw1] at HB0 HR0 HG0 ⊢
  clear hw1
  have r0 : w1.cell? ⟨w.heap.size, 0, none⟩ = some (.slice none 0 0) := heap_cell HR0.out rfl
  have r1 : w1.cell? ⟨w.heap.size, 1, none⟩ = some (.slice none 0 0) := heap_cell HR0.out rfl
  have q0 := heap_frozen HR0.out 0
  have q1 := heap_frozen HR0.out 1
  have g0 : w1.cell? ⟨w.heap.size + 1, 0, none⟩ = some (.slice none 0 0) := heap_cell HG0.out rfl
  have g1 : w1.cell? ⟨w.heap.size + 1, 1, none⟩ = some (.slice none 0 0) := heap_cell HG0.out rfl
  have HBe : Hid (Below w.heap.size w ((w1.setCell ⟨w.heap.size, 0, none⟩ (.slice none 0 0)).setCell ⟨w.heap.size, 1, none⟩ (.slice none 0 0))) := Lib.hid ((HB0.out.setCell (p := ⟨w.heap.size, 0, none⟩) (Nat.le_refl _) _).setCell (p := ⟨w.heap.size, 1, none⟩) (Nat.le_refl _) _)
  have HRe : Hid (((w1.setCell ⟨w.heap.size, 0, none⟩ (.slice none 0 0)).setCell ⟨w.heap.size, 1, none⟩ (.slice none 0 0)).heap[w.heap.size]? = some (.cells #[.slice none 0 0, .slice none 0 0] 29 (0, 0))) := Lib.hid (by
    have := heap_set (heap_set HR0.out 0 (.slice none 0 0)) 1 (.slice none 0 0)
    simpa using this)
  by_cases hbig : 4096 < len
  · have HE : Hid (newE zs = 3) := Lib.hid (by unfold newE; rw [if_pos (by have := HL.out; omega)])
    go_wp2
    have e0 := heap_cell HRe.out (i := 0) rfl
    have e1 := heap_cell HRe.out (i := 1) rfl
    refine bodyPost_ret (v := .tuple #[.agg #[.slice none 0 0, .slice none 0 0], .int .i64 3]) (by simp [results, Try.f34, go_sem, e0, e1]) rfl ?_
    exact ⟨HBe.out, .inl ⟨by rw [HE.out]; decide, by rw [HE.out]⟩⟩
  · have hl2 : len ≤ 4096 := by omega
    have hmk := fun W => madeRow W len hl2
    go_wp2
    go_loop [5] (fun i => ∃ (k : Nat), k ≤ len ∧ i = .int .i64 k ∧ Hid ((zs.take k).all may = true)) (fun i => len - (intOf i).toNat)
    case atStart => exact ⟨0, Nat.zero_le _, rfl, Lib.hid rfl⟩
    case round =>
      obtain ⟨k, hk, rfl, hs⟩ := hrel
      by_cases hlt : k < len
      · have hI := HI.out.kept HB0.out (Nat.le_refl _)
        have hcell := hI.cell k hlt
        have hkz : k < zs.length := by rw [HL.out]; exact hlt
        obtain rfl : a = some ⟨b, off, none⟩ := HI.out.addr.resolve_left (by omega)
        have HT : Hid (zs.take (k + 1) = zs.take k ++ [zs.getD k 0]) := Lib.hid (by rw [List.take_succ_eq_append_getElem hkz, List.getD_eq_getElem?_getD, List.getElem?_eq_getElem hkz]; rfl)
        have HM : Hid (zs.getD k 0 ∈ zs) := Lib.hid (by rw [List.getD_eq_getElem?_getD, List.getElem?_eq_getElem hkz]; exact List.getElem_mem hkz)
        generalize zs.getD k 0 = x at *
        cases hx : may x with
        | true =>
          have HX := Lib.hid hx
          have HR := Lib.hid (xmay_any x)
          rw [hx] at HR
          clear hx hkz hI
          go_wp2_with (go_at_call 60; refine (HR.out _).mono ?_; rintro e w' ⟨rfl, rfl⟩)
          go_round
          case rel => exact ⟨k + 1, by omega, by go_num, Lib.hid (by rw [HT.out, List.all_append, hs.out]; simp [HX.out])⟩
          case measure => simp [intOf]; omega
        | false =>
          have HR := Lib.hid (xmay_any x)
          rw [hx] at HR
          have HE : Hid (newE zs = 23) := Lib.hid (by
            unfold newE
            rw [if_neg (by have := HL.out; omega), if_neg]
            intro hall
            have := List.all_eq_true.1 hall x HM.out
            rw [hx] at this; cases this)
          clear hx hkz hI
          go_wp2_with (go_at_call 60; refine (HR.out _).mono ?_; rintro e w' ⟨rfl, rfl⟩)
          have e0 := heap_cell HRe.out (i := 0) rfl
          have e1 := heap_cell HRe.out (i := 1) rfl
          refine bodyPost_ret (v := .tuple #[.agg #[.slice none 0 0, .slice none 0 0], .int .i64 23]) (by simp [results, Try.f34, go_sem, e0, e1]) rfl ?_
          exact ⟨HBe.out, .inl ⟨by rw [HE.out]; decide, by rw [HE.out]⟩⟩
      · have HE : Hid (newE zs = 0) := Lib.hid (by unfold newE; rw [if_neg (by have := HL.out; omega), if_pos (by rw [← hs.out, List.take_of_length_le (by have := HL.out; omega)])])
        have HN0 : Hid (NxR w (w.heap.size + 1) w.heap.size len 0 0 zs (.slice none 0 0) (.slice none 0 0) (fun _ => 0) w1) := Lib.hid ⟨HG0.out, ⟨_, _, HR0.out⟩, World.ownsRow_nil _ _ _ _, World.ownsRow_nil _ _ _ _, fun a ha => by omega, fun a b ha => by omega, HB0.out⟩
        clear hs r0 r1 q0 q1 g0 g1 HBe HRe HG0 HR0
        go_wp2
        go_loopw [6] (fun i wr => ∃ (k2 : Nat) (wv rv : Value) (rows : Nat → Nat), i = .int .i64 k2 ∧ k2 ≤ len ∧ Hid (NxR w (w.heap.size + 1) w.heap.size len k2 k2 zs wv rv rows wr)) (fun i _ => len - (intOf i).toNat)
        case atStart => exact ⟨0, _, _, _, rfl, Nat.zero_le _, HN0⟩
        case round =>
          clear HN0
          obtain ⟨k2, wv, rv, rows, rfl, hk2, HN⟩ := hrel
          have zr := HN.out.below.size
          obtain ⟨aw, cw, rfl, hcw, haw⟩ := xown_slice HN.out.wown
          obtain ⟨ar, cr, rfl, hcr, har⟩ := xown_slice HN.out.rown
          by_cases hlt2 : k2 < len
          · have hI := HI.out.kept HN.out.below (Nat.le_refl _)
            have hcell := hI.cell k2 hlt2
            have hkz : k2 < zs.length := by rw [HL.out]; exact hlt2
            obtain rfl : a = some ⟨b, off, none⟩ := HI.out.addr.resolve_left (by omega)
            have HT : Hid (zs.take (k2 + 1) = zs.take k2 ++ [zs.getD k2 0]) := Lib.hid (by rw [List.take_succ_eq_append_getElem hkz, List.getD_eq_getElem?_getD, List.getElem?_eq_getElem hkz]; rfl)
            generalize zs.getD k2 0 = x at *
            have g0 : wr.cell? ⟨w.heap.size + 1, 0, none⟩ = some (.slice aw k2 cw) := heap_cell HN.out.gbox rfl
            have g1 : wr.cell? ⟨w.heap.size + 1, 1, none⟩ = some (.slice ar k2 cr) := heap_cell HN.out.gbox rfl
            have q0 := heap_frozen HN.out.gbox 0
            have q1 := heap_frozen HN.out.gbox 1
            clear hI hkz
            go_upto_region 12 with fail
            obtain ⟨i0, hi, hz0, hz1, hz2⟩ := info_parts Try.infoI64
            have HJ := Lib.hid hi
            have HZ0 := Lib.hid hz0
            have HZ1 := Lib.hid hz1
            have HZ2 := Lib.hid hz2
            obtain ⟨i1, hi, hz0, hz1, hz2⟩ := info_parts Try.infoRow
            have HK := Lib.hid hi
            have HY0 := Lib.hid hz0
            have HY1 := Lib.hid hz1
            have HY2 := Lib.hid hz2
            clear hi hz0 hz1 hz2
            have HN1 := Lib.hid (HN.out.on (((Below.refl _ wr).drew).alloc (Nat.le_refl _) (.cells #[.int .i64 x] 2)))
            have HOWN := Lib.hid HN1.out.wown
            have HNEW : Hid (∀ j u, [Value.int .i64 x][j]? = some u → (wr.drew.alloc (.cells #[.int .i64 x] 2)).cell? ((⟨wr.heap.size, 0, none⟩ : Addr).add j) = some u) := Lib.hid (cell_one wr.drew _ _)
            have ga : (wr.alloc (.cells #[.int .i64 x] 2)).cell? ⟨w.heap.size + 1, 0, none⟩ = some (.slice aw k2 cw) := heap_cell (heap_alloc HN.out.gbox _) rfl
            have HBR : Hid (w.heap.size + 1 ≠ w.heap.size) := Lib.hid (by omega)
            go_cut [6] from 31 to 39 (fun s6 wx => ∃ aw' cw', s6 = .int .i64 k2 ∧ Hid (NxR w (w.heap.size + 1) w.heap.size len (k2 + 1) k2 zs (.slice aw' (k2 + 1) cw') (.slice ar k2 cr) rows wx))
            case first =>
              go_region_law (refine step_append_where rfl (.tmp 32) (.tmp 37) 22 rfl w.heap.size 2 i0 (.int .i64 0) 1 8 Try.underlying22 HJ.out HZ0.out HZ1.out HZ2.out rfl (by decide) (.slice aw k2 cw) k2 (ivals .i64 (zs.take k2)) (by simp [Act.eval]) HOWN.out ⟨wr.heap.size, 0, none⟩ 1 1 [.int .i64 x] (by simp [Act.eval]) rfl HNEW.out (one_val rfl) (by decide) (by unfold maxLen; omega) (by omega) (by simp; omega) ?_; intro g5 cap5 w5 hown5 hg5 hc5 hw5; have hb5 := HN1.out.box5 (.inl hg5); have p0 : w5.cell? ⟨w.heap.size + 1, 0, none⟩ = some (.slice aw k2 cw) := heap_cell hb5 rfl; have p1 := heap_frozen hb5 0; have HE := Lib.hid (HN1.out.weights HBR.out (Nat.le_succ _) HT.out hown5 hg5 hw5); clear hown5 hg5 hc5 hw5 hb5)
              all_goals
                go_wp2_with fail
                go_meet
                exact ⟨_, _, rfl, HE⟩
            case rest =>
              obtain ⟨aw', cw', rfl, HN2⟩ := hcut
              clear HN HN1 HOWN HNEW ga g0 g1 q0 q1 hcell HT
              have g1 : wc.cell? ⟨w.heap.size + 1, 1, none⟩ = some (.slice ar k2 cr) := heap_cell HN2.out.gbox rfl
              have q1 := heap_frozen HN2.out.gbox 1
              have zc := HN2.out.below.size
              have hbW : Below wc.heap.size wc ((wc.drew.alloc (.cells (rowC len (noTab 0)) 2)).alloc (.cells #[.slice (some ⟨wc.heap.size, 0, none⟩) len len] 22)) := (((Below.refl _ wc).drew).alloc (Nat.le_refl _) _).alloc (by simp) _
              have HN3 := Lib.hid (HN2.out.on hbW)
              have HOWN := Lib.hid HN3.out.rown
              have HNEW : Hid (∀ j u, [Value.slice (some ⟨wc.heap.size, 0, none⟩) len len][j]? = some u → ((wc.drew.alloc (.cells (rowC len (noTab 0)) 2)).alloc (.cells #[.slice (some ⟨wc.heap.size, 0, none⟩) len len] 22)).cell? ((⟨wc.heap.size + 1, 0, none⟩ : Addr).add j) = some u) := Lib.hid (by
                have := cell_one (wc.drew.alloc (.cells (rowC len (noTab 0)) 2)) (Value.slice (some ⟨wc.heap.size, 0, none⟩) len len) 22
                simpa using this)
              have hrb : ((wc.drew.alloc (.cells (rowC len (noTab 0)) 2)).alloc (.cells #[.slice (some ⟨wc.heap.size, 0, none⟩) len len] 22)).heap[wc.heap.size]? = some (.cells (rowC len (noTab k2)) 2 (0, 0)) := heap_alloc (heap_new (w := wc.drew) _ rfl) _
              have HRB := Lib.hid hrb
              have ga : (wc.alloc (.cells (rowC len (noTab 0)) 2)).cell? ⟨w.heap.size + 1, 1, none⟩ = some (.slice ar k2 cr) := heap_cell (heap_alloc HN2.out.gbox _) rfl
              have gb : ((wc.alloc (.cells (rowC len (noTab 0)) 2)).alloc (.cells #[.slice (some ⟨wc.heap.size, 0, none⟩) len len] 22)).cell? ⟨w.heap.size + 1, 1, none⟩ = some (.slice ar k2 cr) := heap_cell (heap_alloc (heap_alloc HN2.out.gbox _) _) rfl
              have HRW : Hid (some wc.heap.size ≠ (Value.slice aw' (k2 + 1) cw').ownBlock) := Lib.hid (fun e => by
                obtain ⟨_, cur, hc⟩ := xown_block HN2.out.wown e.symm
                have := heap_lt hc; omega)
              have HRI : Hid (∀ a, a < k2 → rows a ≠ wc.heap.size) := Lib.hid (fun a ha e => by
                have := heap_lt (HN2.out.row a ha).2.2; omega)
              clear hbW hrb
              go_upto_region 13 with fail
              go_region_law (refine step_append_where rfl (.tmp 41) (.tmp 45) 27 rfl w.heap.size 22 i1 (.slice none 0 0) 1 24 Try.underlying27 HK.out HY0.out HY1.out HY2.out rfl (by decide) (.slice ar k2 cr) k2 (rowVals len rows k2) (by simp [Act.eval]) HOWN.out ⟨wc.heap.size + 1, 0, none⟩ 1 1 [.slice (some ⟨wc.heap.size, 0, none⟩) len len] (by simp [Act.eval]) rfl HNEW.out (one_val rfl) (by decide) (by unfold maxLen; omega) (by omega) (by simp; omega) ?_; intro g5 cap5 w5 hown5 hg5 hc5 hw5; have hb5 := HN3.out.box5 (.inr hg5); have p0 : w5.cell? ⟨w.heap.size + 1, 1, none⟩ = some (.slice ar k2 cr) := heap_cell hb5 rfl; have p1 := heap_frozen hb5 1; have HE := Lib.hid (HN3.out.rowed HBR.out (Nat.le_succ _) HRB.out zc HRW.out HRI.out hown5 hg5 hw5); clear hown5 hg5 hc5 hw5 hb5)
              all_goals
                clear HN2 HN3 HOWN HNEW HRB ga gb g1 q1 HRW HRI p0 p1
                go_wp2
                go_roundw
                case rel => exact ⟨k2 + 1, _, _, _, by go_num, by omega, HE⟩
                case measure => simp [intOf]; omega
          · obtain rfl : k2 = len := by omega
            have g0 : wr.cell? ⟨w.heap.size + 1, 0, none⟩ = some (.slice aw k2 cw) := heap_cell HN.out.gbox rfl
            have g1 : wr.cell? ⟨w.heap.size + 1, 1, none⟩ = some (.slice ar k2 cr) := heap_cell HN.out.gbox rfl
            obtain ⟨rx, ry, hrs⟩ := HN.out.res
            have r0 : wr.cell? ⟨w.heap.size, 0, none⟩ = some rx := heap_cell hrs rfl
            have r1 : wr.cell? ⟨w.heap.size, 1, none⟩ = some ry := heap_cell hrs rfl
            have q0 := heap_frozen hrs 0
            have q1 := heap_frozen hrs 1
            have hres := heap_set (heap_set hrs 0 (.slice aw k2 cw)) 1 (.slice ar k2 cr)
            have HRS : Hid (((wr.setCell ⟨w.heap.size, 0, none⟩ (.slice aw k2 cw)).setCell ⟨w.heap.size, 1, none⟩ (.slice ar k2 cr)).heap[w.heap.size]? = some (.cells #[.slice aw k2 cw, .slice ar k2 cr] 29 (0, 0))) := Lib.hid (by simpa using hres)
            have HNB := Lib.hid (HN.out.below)
            have hna := HN.out.answer (by omega) (Nat.le_refl _) (.slice aw k2 cw) (.slice ar k2 cr)
            obtain ⟨X, hX1, hX2⟩ := hna.done HL.out hl2 HI.out.fits
            have HX1 := Lib.hid hX1
            have HXF := Lib.hid hX2
            have HBX := Lib.hid hna.below
            clear hres hrs HN hX1 hX2 hna HNB
            go_wp2
            have e0 := heap_cell HRS.out (i := 0) rfl
            have e1 := heap_cell HRS.out (i := 1) rfl
            refine bodyPost_ret (v := .tuple #[.agg #[.slice aw k2 cw, .slice ar k2 cr], .int .i64 0]) (by simp [results, Try.f34, go_sem, e0, e1]) rfl ?_
            exact ⟨HBX.out, .inr ⟨HE.out, X, by rw [HL.out, HX1.out], HXF.out⟩⟩
end Go.Proofs.Ytjpgkocffceeoaa
