/- Contract: all that was written, as new bytes. -/
import Derived.Test.YtnkhpmpoemodiaaWc
set_option linter.unusedVariables false
namespace Go.Proofs.Ytnkhpmpoemodiaa
open Go.RowKit

/-- The new bytes lie whole in the first new block. -/
def DonePost (w : World) (zs : List Int) (e : Ending) (w' : World) : Prop :=
  e = .returned (.slice (some ⟨w.heap.size, 0, none⟩) zs.length zs.length) ∧ w'.heap[w.heap.size]? = some (.cells (ivals .u8 zs).toArray 5 (0, 0)) ∧ (∀ x ∈ zs, (Lit.int .u8 x).wf = true) ∧ Below w.heap.size w w'
theorem whole_ints {w : World} {g : Nat} {zs : List Int} (h : w.heap[g]? = some (.cells (ivals .u8 zs).toArray 5 (0, 0))) (hw : ∀ x ∈ zs, (Lit.int .u8 x).wf = true) (hs : zs.length ≤ maxLen) : IntsAt .u8 w.heap.size w (some ⟨g, 0, none⟩) g 0 zs.length zs :=
  ⟨.inr rfl, rfl, hs, .inr (heap_lt h), fun i hi => heap_cell h (by
    unfold ivals
    rw [Nat.zero_add, List.getElem?_toArray, List.getElem?_map, List.getElem?_eq_getElem hi]
    simp [List.getD, hi]), hw⟩
theorem Chain.wf {S : Nat → Prop} {w : World} : ∀ n p zs, Chain S w n p zs → ∀ x ∈ zs, (Lit.int .u8 x).wf = true := by
  intro n
  induction n with
  | zero => intro p zs h x hx; rw [h.2] at hx; simp at hx
  | succ n ih =>
    intro p zs h x hx
    obtain ⟨g, q, a, cap, b, off, front, bs, h1, h2, h3, h4, h5, h6, ⟨rfl, -⟩, h8⟩ := h
    rcases List.mem_append.1 hx with h | h
    · exact ih _ _ h8 x h
    · exact h5.fits x h
theorem splice_step {zl : List Value} {back bs : List Int} {F : Nat} (h : zl.length = F + bs.length) : splice (zl ++ ivals .u8 back) F (ivals .u8 bs) = zl.take F ++ ivals .u8 (bs ++ back) := by
  unfold splice
  rw [List.take_append_of_le_length (by omega), ivals_length, List.drop_append, List.drop_of_length_le (by omega), h, Nat.sub_self, List.drop_zero, List.nil_append, ivals_append]
theorem piece_cells {w W : World} {a : Option Addr} {b off len B' : Nat} {bs : List Int} (h : IntsAt .u8 w.heap.size w a b off len bs) (hB : Below B' w W) (hBB : w.heap.size ≤ B') (hpos : 0 < (ivals .u8 bs).length) :
    ∃ ad, a = some ad ∧ ∀ j v, (ivals .u8 bs)[j]? = some v → W.cell? (ad.add j) = some v := by
  rw [ivals_length, h.length] at hpos
  obtain rfl := h.addr.resolve_left (by omega)
  exact ⟨_, rfl, ints_cells h hB hBB⟩
theorem Try.sizeU8 : (Try.prog.info? 5).map (·.size) = some 1 := by kernel_rfl

theorem wdone_any (S : Nat → Prop) (w : World) (W : Nat) (zs : List Int) (h : WIs S w W zs) (hsz : zs.length ≤ 1000000) :
    Calls Try.prog 25 #[.pointer (some ⟨W, 0, none⟩)] w (DonePost w zs) := by
  obtain ⟨p, ⟨n, hc⟩, hbox, ho⟩ := h
  obtain ⟨ao, rfl⟩ := hc.ptr
  obtain ⟨c0, c1, -, -⟩ := two_cells hbox
  have hlt := heap_lt hbox
  have HC := Lib.hid hc
  have HWF := Lib.hid (hc.wf)
  clear hc hbox ho
  obtain ⟨i0, hi, hz0, hz1, hz2⟩ := info_parts Try.infoU8
  have HI := Lib.hid hi
  have HZ0 := Lib.hid hz0
  have HZ1 := Lib.hid hz1
  have HZ2 := Lib.hid hz2
  clear hi hz0 hz1 hz2
  obtain ⟨tot, htot⟩ : ∃ tot, zs.length = tot := ⟨_, rfl⟩
  rw [htot] at c1 hsz
  have HT := Lib.hid htot
  clear htot
  go_enter Try.func25, Try.ntmps25
  go_wp2_with (at_make; refine wpList_make_full _ rfl _ _ 45 rfl w.heap.size 5 i0 (.int .u8 0) 1 Try.underlying45 HI.out HZ0.out HZ1.out .i64 .i64 _ _ tot rfl rfl rfl rfl (by rw [HZ2.out]; omega) (by unfold maxLen; omega) (Nat.le_refl _) ?_; intro w1 hown hgrow; have hB0 := below_grown hgrow; have c0' := (hB0.cell (p := ⟨W, 0, none⟩) hlt).trans c0; have c1' := (hB0.cell (p := ⟨W, 1, none⟩) hlt).trans c1; clear hgrow)
  obtain ⟨-, hown⟩ := hown
  rcases hown with ⟨hbad, _⟩ | ⟨g, cap, cur, hv, hg1, hg, _, _, hcs, _⟩
  · cases hbad
  cases hv
  have HG := Lib.hid hg
  have HCS := Lib.hid hcs
  clear hg hcs hg1 c0 c1 c0' c1'
  go_loopw [5, 4] (fun p at0 wr => ∃ (n : Nat) (front back : List Int) (zl : List Value) (fl : Nat), at0 = .int .i64 fl ∧ fl ≤ tot ∧ (∃ ao, p = .pointer ao) ∧ Hid (Chain S w n p front ∧ zs = front ++ back ∧ front.length = fl ∧ zl.length = fl ∧ wr.heap[w.heap.size]? = some (.cells (zl ++ ivals .u8 back).toArray 5 (0, 0))) ∧ Below w.heap.size w wr) (fun p _ _ => ptrNo p)
  case atStart =>
    refine ⟨n, zs, [], cur.toList, tot, rfl, Nat.le_refl _, ⟨ao, rfl⟩, ⟨HC.out, (List.append_nil _).symm, HT.out, by simpa using HCS.out, ?_⟩, hB0⟩
    rw [show cur.toList ++ ivals .u8 [] = cur.toList from List.append_nil _, Array.toArray_toList]; exact HG.out
  case round =>
    obtain ⟨n, front, back, zl, fl, rfl, hfl, ⟨ao, rfl⟩, hh, hB⟩ := hrel
    have hT := HT.out
    cases n with
    | zero =>
      obtain ⟨⟨hp, rfl⟩, hzs, rfl, hz, hg⟩ := hh.out
      cases hp
      obtain rfl := List.eq_nil_of_length_eq_zero hz
      rw [List.nil_append] at hzs
      subst hzs
      have HD : Hid (DonePost w zs (.returned (.slice (some ⟨w.heap.size, 0, none⟩) tot tot)) wr) := ⟨by rw [hT], hg, HWF.out, hB⟩
      clear hz hg hh hB hT
      go_wp2
      go_ret
      exact HD.out
    | succ n =>
      obtain ⟨⟨g, q, a, cap, b, off, fr, bs, hp, h2, h3, h4, h5, h6, ⟨rfl, hno⟩, h8⟩, hzs, hfr, hz, hg⟩ := hh.out
      cases hp
      obtain ⟨ao2, rfl⟩ := h8.ptr
      have hglt := heap_lt h3
      obtain ⟨e0, e1, -, -⟩ := two_cells (heap_below h3 hB hglt)
      obtain ⟨d0, d1, -, -⟩ := two_cells h3
      have H := Lib.hid (And.intro h5 (And.intro hz (And.intro hg (And.intro h8 hno))))
      have HZ := Lib.hid hzs
      rw [hzs, List.length_append] at hT
      rw [List.length_append] at hfr hT
      obtain ⟨bl, hbl⟩ : ∃ bl, bs.length = bl := ⟨_, rfl⟩
      obtain ⟨F, hF⟩ : ∃ F, fr.length = F := ⟨_, rfl⟩
      rw [hbl] at e1 d1 h4 hfr hT
      rw [hF] at hfr hT
      have hfr2 : fl = F + bl := by omega
      have hle : F + bl ≤ tot := by omega
      have HL := Lib.hid (And.intro hbl hF)
      have HN : Hid ((ivals .u8 bs).length = bl) := by rw [ivals_length]; exact hbl
      have HA := Lib.hid (fun hpos => piece_cells h5 hB (Nat.le_refl _) hpos)
      have HFIT : Hid (F + (ivals .u8 bs).length ≤ (zl ++ ivals .u8 back).length) := Lib.hid (by rw [List.length_append, ivals_length]; omega)
      have HSPL : Hid (splice (zl ++ ivals .u8 back) F (ivals .u8 bs) = zl.take F ++ ivals .u8 (bs ++ back)) := splice_step (by omega)
      have HTK : Hid ((zl.take F).length = F) := Lib.hid (by rw [List.length_take]; omega)
      have HM := Lib.hid hno
      have HC2 := Lib.hid h8
      clear hbl hF hT hfr hz hg h8 hno h5 h6 h3 hh h2 hzs
      subst hfr2
      by_cases hft : F < tot
      · have hle2 : F ≤ tot := by omega
        have hne : ¬ tot = F := by omega
        go_wp2
        go_region_law (refine step_copy_splice rfl (.tmp 34) (.tmp 38) 45 45 rfl 5 Try.underlying45 Try.sizeU8 _ _ _ _ _ _ rfl rfl w.heap.size F (zl ++ ivals .u8 back) 5 H.out.2.2.1 (ivals .u8 bs) (by rw [HN.out]; exact (Nat.min_eq_left (by omega)).symm) (fun hpos => ⟨rfl, HA.out hpos⟩) HFIT.out (ivals_one _ _) w.heap.size w hB.drew (Nat.le_refl _) ?_; intro w4 hg4 hb4)
        have HG4 := Lib.hid (hg4.out.trans (by rw [HSPL.out]))
        clear hg4
        have f0 := (hb4.cell (p := ⟨g, 0, none⟩) hglt).trans d0
        have f1 := (hb4.cell (p := ⟨g, 1, none⟩) hglt).trans d1
        go_wp2
        go_roundw
        case rel => exact ⟨n, fr, bs ++ back, zl.take F, F, rfl, hle2, ⟨ao2, rfl⟩, ⟨HC2.out, by rw [HZ.out, List.append_assoc], HL.out.2, HTK.out, HG4.out⟩, hb4⟩
        case measure => exact Nat.lt_of_le_of_lt HM.out (Nat.lt_succ_self _)
      · obtain rfl : F = tot := by omega
        obtain rfl : bl = 0 := by omega
        go_wp2
        go_region_law (refine step_copy_splice rfl (.tmp 34) (.tmp 38) 45 45 rfl 5 Try.underlying45 Try.sizeU8 _ _ _ _ _ _ rfl rfl w.heap.size F (zl ++ ivals .u8 back) 5 H.out.2.2.1 (ivals .u8 bs) (by rw [HN.out]; simp) (fun hpos => absurd HN.out (Nat.ne_of_gt hpos)) HFIT.out (ivals_one _ _) w.heap.size w hB.drew (Nat.le_refl _) ?_; intro w4 hg4 hb4)
        have HG4 := Lib.hid (hg4.out.trans (by rw [HSPL.out]))
        clear hg4
        have f0 := (hb4.cell (p := ⟨g, 0, none⟩) hglt).trans d0
        have f1 := (hb4.cell (p := ⟨g, 1, none⟩) hglt).trans d1
        go_wp2
        go_roundw
        case rel => exact ⟨n, fr, bs ++ back, zl.take F, F, rfl, Nat.le_refl _, ⟨ao2, rfl⟩, ⟨HC2.out, by rw [HZ.out, List.append_assoc], HL.out.2, HTK.out, HG4.out⟩, hb4⟩
        case measure => exact Nat.lt_of_le_of_lt HM.out (Nat.lt_succ_self _)
end Go.Proofs.Ytnkhpmpoemodiaa
