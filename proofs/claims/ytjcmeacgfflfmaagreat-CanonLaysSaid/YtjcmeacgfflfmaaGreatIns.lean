/- Contracts: the reference's rows in order, put in one by one. -/
import Derived.Test.YtjcmeacgfflfmaaGreatIng
import Derived.Deep.QuietTactic
import Derived.Deep.RegionHeld3
set_option linter.unusedVariables false
set_option linter.unusedSectionVars false
set_option linter.unusedSimpArgs false
namespace Go.Proofs.YtjcmeacgfflfmaaGreat.Md
theorem RowsAt.takeR {α : Type} {enc : α → List Value} {fit : α → Prop} {sz B : Nat} {w : World} {a : Option Addr} {b off n : Nat} {L : List α} (h : RowsAt enc fit sz B w a b off n L) {t : Nat} (ht : t ≤ n) : RowsAt enc fit sz B w a b off t (L.take t) := by
  have hl := h.length
  refine ⟨?_, by rw [List.length_take]; omega, Nat.le_trans ht h.small, ?_, fun i x hi => ?_, fun x hx => h.fits x (List.mem_of_mem_take hx)⟩
  · rcases h.addr with e | e
    · exact .inl (by omega)
    · exact .inr e
  · rcases h.below with e | e
    · exact .inl (by omega)
    · exact .inr e
  · have h1 : i < t := by have := (List.getElem?_eq_some_iff.1 hi).1; rw [List.length_take] at this; omega
    rw [List.getElem?_take_of_lt h1] at hi
    exact h.cell i x hi
theorem RowsAt.dropR {α : Type} {enc : α → List Value} {fit : α → Prop} {sz B : Nat} {w : World} {a : Option Addr} {b off n : Nat} {L : List α} (h : RowsAt enc fit sz B w a b off n L) {t : Nat} (ht : t ≤ n) {a' : Option Addr} (ha : n = t ∨ a' = some ⟨b, off + t * sz, none⟩) : RowsAt enc fit sz B w a' b (off + t * sz) (n - t) (L.drop t) := by
  have hl := h.length
  refine ⟨?_, by rw [List.length_drop]; omega, by have := h.small; omega, ?_, fun i x hi => ?_, fun x hx => h.fits x (List.mem_of_mem_drop hx)⟩
  · rcases ha with e | e
    · exact .inl (by omega)
    · exact .inr e
  · rcases h.below with e | e
    · exact .inl (by omega)
    · exact .inr e
  · rw [List.getElem?_drop] at hi
    intro j u hu
    have := h.cell (t + i) x hi j u hu
    rwa [show off + (t + i) * sz + j = off + t * sz + i * sz + j by rw [Nat.add_mul]; omega] at this
end Go.Proofs.YtjcmeacgfflfmaaGreat.Md
namespace Go.Proofs.YtjcmeacgfflfmaaGreat.Hk
open Go.RowKit Go.Shelf Go.Proofs.YtjcmeacgfflfmaaGreat.Md

set_option maxRecDepth 100000 in
set_option maxHeartbeats 8000000 in
theorem rins_V {w : World} {a : Option Addr} {b off n cap : Nat} {X : List VarM} (h : RowsAt encV fitV 2 w.heap.size w a b off n X) (hs : n ≤ 20000) : Calls Tryz.prog 42 #[.slice a n cap] w fun e w' => ∃ v, e = .returned v ∧ Hid (Gath w' w.heap.size 40 2 v (Hg.srt HeV.ord X).length ((Hg.srt HeV.ord X).flatMap encV)) ∧ Hid (Below w.heap.size w w') := by
  obtain ⟨i0, hi, hz0, hz1, hz2⟩ := info_parts Tryz.infoV
  have HI := Lib.hid hi
  have HZ0 := Lib.hid hz0
  have HZ1 := Lib.hid hz1
  have HZ2 := Lib.hid hz2
  have HX := Lib.hid h
  have HXl := Lib.hid h.length
  have HAd := h.addr
  clear h hi hz0 hz1 hz2
  have H0 : Hid (Gath (w.alloc (.cells #[] 40)) w.heap.size 40 2 (.slice (some ⟨w.heap.size, 0, none⟩) 0 0) (Hg.srt HeV.ord (X.take 0)).length ((Hg.srt HeV.ord (X.take 0)).flatMap encV)) := Lib.hid (.inl ⟨rfl, rfl, _, rfl⟩)
  have HB1 : Hid (Below w.heap.size w (w.alloc (.cells #[] 40))) := Lib.hid (below_one w _)
  go_enter Tryz.func42, Tryz.ntmps42
  go_upto_region 2 with fail
  generalize w.alloc (.cells #[] 40) = w1 at *
  go_wp2_with fail
  go_loopw [3, 4] (fun v i wr => ∃ j : Nat, i = .int .i64 (j : Int) ∧ j ≤ n ∧ Hid (Gath wr w.heap.size 40 2 v (Hg.srt HeV.ord (X.take j)).length ((Hg.srt HeV.ord (X.take j)).flatMap encV)) ∧ Hid (Below w.heap.size w wr)) (fun _ i _ => n - (intOf i).toNat)
  case atStart => exact ⟨0, rfl, Nat.zero_le _, H0, HB1⟩
  case round =>
    clear H0 HB1
    obtain ⟨j, rfl, hj, HG, HB⟩ := hrel
    by_cases hlt : j < n
    · generalize wr = w2 at *
      have hji : (j : Int) < (n : Int) := by omega
      have hj0 : (0 : Int) ≤ (j : Int) := Int.natCast_nonneg j
      obtain ⟨O, hO⟩ : ∃ O, Hg.srt HeV.ord (X.take j) = O := ⟨_, rfl⟩
      have hOl : O.length = j := by rw [← hO, Hg.srt_length, List.length_take]; have := HXl.out; omega
      obtain ⟨q, hq⟩ : ∃ q, X[j]? = some q := ⟨_, List.getElem?_eq_getElem (by have := HXl.out; omega)⟩
      have HNext : Hid (Hg.srt HeV.ord (X.take (j + 1)) = Hg.insG HeV.ord q O) := Lib.hid (by
        rw [List.take_add_one, hq, ← hO]
        exact Hg.srt_snoc _ _ _ rfl)
      have HAsc : Hid (Hg.Asc HeV.ord O) := Lib.hid (by rw [← hO]; exact Hg.srt_asc _ _ rfl)
      rw [hO] at HG
      have hFO : ∀ y ∈ O, fitV y := fun y hy => HX.out.fits y (List.mem_of_mem_take (Hg.srt_mem (by rw [hO]; exact hy)))
      obtain ⟨va, vc, g, hv, hro⟩ := rows_gath (enc := encV) (fit := fitV) (fun _ => rfl) HG.out (by unfold maxLen; omega) hFO
      obtain ⟨va', vc', hv', hcap⟩ := gath_room HG.out
      rw [hv] at hv'
      cases hv'
      rw [hOl] at hv hcap
      subst hv
      have HIq := HX
      have hI := (HX.out.kept HB.out (Nat.le_refl _))
      have HQ := Lib.hid hq
      have HRo := Lib.hid hro
      have HOl := Lib.hid hOl
      have hva : j = 0 ∨ va = some ⟨g, 0, none⟩ := by have := hro.addr; rwa [hOl] at this
      obtain rfl := HAd.resolve_left (by omega)
      clear hO hFO hI hq hOl
      go_wp2_with fail
      go_loopw [5] (fun i wr => ∃ t : Nat, i = .int .i64 (t : Int) ∧ t ≤ j ∧ Hid (∀ k y, t ≤ k → O[k]? = some y → HeV.ord.lt q y = true) ∧ Hid (Below w2.heap.size w2 wr)) (fun i _ => (intOf i).toNat)
      case atStart => exact ⟨j, rfl, Nat.le_refl _, Lib.hid (fun k y h1 h2 => by have := (List.getElem?_eq_some_iff.1 h2).1; have := HOl.out; omega), Lib.hid (Below.refl _ _)⟩
      case round =>
        obtain ⟨t, rfl, ht, HAb, HB2⟩ := hrel
        have ht0 : (0 : Int) ≤ (t : Int) := Int.natCast_nonneg t
        by_cases h0 : t = 0
        · subst h0
          have HIn : Hid (Hg.insG HeV.ord q O = O.take 0 ++ q :: O.drop 0) := Lib.hid (Hg.insG_at O q 0 HAsc.out (Nat.zero_le _) HAb.out (fun k y e => by omega))
          go_wp2
          go_quiet (fail)
          go_upto_region 8 with fail
          have HB3 : Hid (Below w2.heap.size w2 (wr.drewN nq)) := Lib.hid (HB2.out.trans ⟨rfl, rfl, rfl, Nat.le_refl _, fun _ _ => rfl⟩)
          generalize wr.drewN nq = w3 at *
          have HBw := Lib.hid (HB.out.trans (HB3.out.mono HB.out.size))
          have HO3 : Hid (RowsAt encV fitV 2 w3.heap.size w3 (va) g 0 j O) := Lib.hid (by have := HRo.out.on HB3.out; rwa [HOl.out] at this)
          have hr1 : Hid (RowsAt encV fitV 2 (w3.alloc (.cells #[] 40)).heap.size (w3.alloc (.cells #[] 40)) (va) g 0 (0) (O.take (0))) := Lib.hid ((HO3.out.takeR ht).on (below_one w3 _))
          go_upto_region 9 with (at_builtin; refine wpList_append_rows (enc := encV) (fit := fitV) (fun _ => rfl) oneVU rfl _ _ 31 rfl w3.heap.size 40 i0 (.agg zV) 24 Tryz.underlying31 HI.out HZ0.out HZ1.out HZ2.out rfl (by decide) (.slice (some ⟨w3.heap.size, 0, none⟩) 0 0) [] rfl (.inl ⟨rfl, rfl, _, rfl⟩) rfl hr1.out (by simp <;> omega) (by unfold maxLen; simp <;> omega) (by simp) ?_; intro v1 w4 hg1 hb1; have HG1 := Lib.hid hg1; have HB4 := Lib.hid ((below_one w3 _).trans hb1); clear hg1 hb1)
          simp only [List.nil_append] at HG1
          clear hr1
          have HX4 := Lib.hid (HIq.out.kept (HBw.out.trans (HB4.out.mono HBw.out.size)) (Nat.le_refl _))
          have dq0 : w4.cell? ⟨b, off + j * 2, none⟩ = some (.string q.name) := HX4.out.cell j q HQ.out 0 _ rfl
          have dq1 : w4.cell? ⟨b, off + j * 2 + 1, none⟩ = some (.int .i64 q.init) := HX4.out.cell j q HQ.out 1 _ rfl
          have hr2 : Hid (RowsAt encV fitV 2 (w4.alloc (.cells #[.string q.name, .int .i64 q.init] 40)).heap.size (w4.alloc (.cells #[.string q.name, .int .i64 q.init] 40)) (some ⟨w4.heap.size, 0, none⟩) w4.heap.size 0 1 [q]) := Lib.hid (rows_block (enc := encV) (fun _ => rfl) (heap_new (w := w4) (.cells #[.string q.name, .int .i64 q.init] 40) rfl) (by simp; rfl) (by show 1 ≤ maxLen; unfold maxLen; omega) (fun x hx => by rw [List.mem_singleton.1 hx]; exact HX.out.fits q (List.mem_of_getElem? HQ.out)) rfl)
          have hzt : (O.take (0)).length = 0 := by rw [List.length_take]; have := HOl.out; omega
          have HG1a := Lib.hid (HG1.out.alloc (.cells #[.string q.name, .int .i64 q.init] 40))
          have HB4a := Lib.hid (HB4.out.alloc HB4.out.size (.cells #[.string q.name, .int .i64 q.init] 40))
          have HZt := Lib.hid hzt
          clear hzt
          go_upto_region 10 with (at_builtin; refine wpList_append_rows (enc := encV) (fit := fitV) (fun _ => rfl) oneVU rfl _ _ 31 rfl w3.heap.size 40 i0 (.agg zV) 24 Tryz.underlying31 HI.out HZ0.out HZ1.out HZ2.out rfl (by decide) v1 (O.take (0)) rfl HG1a.out rfl hr2.out (by have := HZt.out; omega) (by have := HZt.out; unfold maxLen; omega) HB4a.out.size ?_; intro v2 w5 hg2 hb2; have HG2 := Lib.hid hg2; have HB5 := Lib.hid (HB4a.out.trans hb2); clear hg2 hb2)
          clear dq0 dq1 hr2 HG1 HG1a HB4 HB4a HX4
          have hr3 : Hid (RowsAt encV fitV 2 w5.heap.size w5 (va) g (0 + (0) * 2) (j - (0)) (O.drop (0))) := Lib.hid ((HO3.out.dropR ht (by first | exact .inl rfl | simpa using hva)).on HB5.out)
          go_wp2_with (at_builtin; refine wpList_append_rows (enc := encV) (fit := fitV) (fun _ => rfl) oneVU rfl _ _ 31 rfl w3.heap.size 40 i0 (.agg zV) 24 Tryz.underlying31 HI.out HZ0.out HZ1.out HZ2.out rfl (by decide) v2 (O.take (0) ++ [q]) rfl HG2.out rfl hr3.out (by rw [List.length_append, HZt.out]; simp <;> omega) (by rw [List.length_append, HZt.out]; unfold maxLen; simp <;> omega) HB5.out.size ?_; intro v3 w6 hg3 hb3; have HG3 := Lib.hid hg3; have HB6 := Lib.hid (HB5.out.trans hb3); clear hg3 hb3)
          clear hr3
          go_roundw
          case rel =>
            refine ⟨j + 1, by go_num, by omega, ?_, Lib.hid (HBw.out.trans (HB6.out.mono HBw.out.size))⟩
            have h1 : Hg.srt HeV.ord (X.take (j + 1)) = O.take (0) ++ [q] ++ O.drop (0) := by rw [HNext.out, HIn.out]; simp
            rw [h1]
            exact Lib.hid (gath_base HG3.out HBw.out.size)
          case measure => simp [intOf]; omega
        · obtain ⟨k, rfl⟩ : ∃ k, t = k + 1 := ⟨t - 1, by omega⟩
          obtain ⟨y, hy⟩ : ∃ y, O[k]? = some y := ⟨_, List.getElem?_eq_getElem (by have := HOl.out; omega)⟩
          have d0r : wr.cell? ⟨b, off + j * 2, none⟩ = some (.string q.name) := (HX.out.kept (HB.out.trans (HB2.out.mono HB.out.size)) (Nat.le_refl _)).cell j q HQ.out 0 _ rfl
          have e0 : wr.cell? ⟨g, k * 2, none⟩ = some (.string y.name) := by
            have := (hro.on HB2.out).cell k y hy 0 _ rfl
            simpa using this
          obtain ⟨ly, hly⟩ : ∃ l, HeV.ord.lt q y = l := ⟨_, rfl⟩
          have g1 : Op.bytesLess q.name.toList y.name.toList = ly := hly
          obtain rfl := hva.resolve_left (by omega)
          have hw : IntKind.i64.wrap (((k + 1 : Nat) : Int) - 1) = (k : Int) := by rw [show ((k + 1 : Nat) : Int) - 1 = (k : Int) by omega]; exact IntWalk.i64_in _ (by omega)
          have hkj : (k : Int) < (j : Int) := by omega
          have hk0 : (0 : Int) ≤ (k : Int) := Int.natCast_nonneg k
          have hkp : (0 : Int) < ((k + 1 : Nat) : Int) := by omega
          cases ly with
          | true =>
            go_wp2
            go_quiet (fail)
            go_wp2
            go_roundw
            case rel => exact ⟨k, by go_num, by omega, Lib.hid (fun k' y' h1 h2 => by
              by_cases e : k' = k
              · subst e; rw [hy] at h2; cases h2; exact hly
              · exact HAb.out k' y' (by omega) h2), Lib.hid (HB2.out.trans ⟨rfl, rfl, rfl, Nat.le_refl _, fun _ _ => rfl⟩)⟩
            case measure => simp [intOf] <;> omega
          | false =>
            have HIn : Hid (Hg.insG HeV.ord q O = O.take (k + 1) ++ q :: O.drop (k + 1)) := Lib.hid (Hg.insG_at O q (k + 1) HAsc.out (by have := HOl.out; omega) HAb.out (fun k' y' e h2 => by
              obtain rfl : k' = k := by omega
              rw [hy] at h2; cases h2; exact hly))
            clear hy
            go_wp2
            go_quiet (fail)
            go_upto_region 8 with fail
            have HB3 : Hid (Below w2.heap.size w2 (wr.drewN nq)) := Lib.hid (HB2.out.trans ⟨rfl, rfl, rfl, Nat.le_refl _, fun _ _ => rfl⟩)
            generalize wr.drewN nq = w3 at *
            have HBw := Lib.hid (HB.out.trans (HB3.out.mono HB.out.size))
            have HO3 : Hid (RowsAt encV fitV 2 w3.heap.size w3 (some ⟨g, 0, none⟩) g 0 j O) := Lib.hid (by have := HRo.out.on HB3.out; rwa [HOl.out] at this)
            have hr1 : Hid (RowsAt encV fitV 2 (w3.alloc (.cells #[] 40)).heap.size (w3.alloc (.cells #[] 40)) (some ⟨g, 0, none⟩) g 0 (k + 1) (O.take (k + 1))) := Lib.hid ((HO3.out.takeR ht).on (below_one w3 _))
            go_upto_region 9 with (at_builtin; refine wpList_append_rows (enc := encV) (fit := fitV) (fun _ => rfl) oneVU rfl _ _ 31 rfl w3.heap.size 40 i0 (.agg zV) 24 Tryz.underlying31 HI.out HZ0.out HZ1.out HZ2.out rfl (by decide) (.slice (some ⟨w3.heap.size, 0, none⟩) 0 0) [] rfl (.inl ⟨rfl, rfl, _, rfl⟩) rfl hr1.out (by simp <;> omega) (by unfold maxLen; simp <;> omega) (by simp) ?_; intro v1 w4 hg1 hb1; have HG1 := Lib.hid hg1; have HB4 := Lib.hid ((below_one w3 _).trans hb1); clear hg1 hb1)
            simp only [List.nil_append] at HG1
            clear hr1
            have HX4 := Lib.hid (HIq.out.kept (HBw.out.trans (HB4.out.mono HBw.out.size)) (Nat.le_refl _))
            have dq0 : w4.cell? ⟨b, off + j * 2, none⟩ = some (.string q.name) := HX4.out.cell j q HQ.out 0 _ rfl
            have dq1 : w4.cell? ⟨b, off + j * 2 + 1, none⟩ = some (.int .i64 q.init) := HX4.out.cell j q HQ.out 1 _ rfl
            have hr2 : Hid (RowsAt encV fitV 2 (w4.alloc (.cells #[.string q.name, .int .i64 q.init] 40)).heap.size (w4.alloc (.cells #[.string q.name, .int .i64 q.init] 40)) (some ⟨w4.heap.size, 0, none⟩) w4.heap.size 0 1 [q]) := Lib.hid (rows_block (enc := encV) (fun _ => rfl) (heap_new (w := w4) (.cells #[.string q.name, .int .i64 q.init] 40) rfl) (by simp; rfl) (by show 1 ≤ maxLen; unfold maxLen; omega) (fun x hx => by rw [List.mem_singleton.1 hx]; exact HX.out.fits q (List.mem_of_getElem? HQ.out)) rfl)
            have hzt : (O.take (k + 1)).length = k + 1 := by rw [List.length_take]; have := HOl.out; omega
            have HG1a := Lib.hid (HG1.out.alloc (.cells #[.string q.name, .int .i64 q.init] 40))
            have HB4a := Lib.hid (HB4.out.alloc HB4.out.size (.cells #[.string q.name, .int .i64 q.init] 40))
            have HZt := Lib.hid hzt
            clear hzt
            go_upto_region 10 with (at_builtin; refine wpList_append_rows (enc := encV) (fit := fitV) (fun _ => rfl) oneVU rfl _ _ 31 rfl w3.heap.size 40 i0 (.agg zV) 24 Tryz.underlying31 HI.out HZ0.out HZ1.out HZ2.out rfl (by decide) v1 (O.take (k + 1)) rfl HG1a.out rfl hr2.out (by have := HZt.out; omega) (by have := HZt.out; unfold maxLen; omega) HB4a.out.size ?_; intro v2 w5 hg2 hb2; have HG2 := Lib.hid hg2; have HB5 := Lib.hid (HB4a.out.trans hb2); clear hg2 hb2)
            clear dq0 dq1 hr2 HG1 HG1a HB4 HB4a HX4
            have hr3 : Hid (RowsAt encV fitV 2 w5.heap.size w5 (if vc = k + 1 then some ⟨g, 0, none⟩ else some ⟨g, (k + 1) * 2, none⟩) g (0 + (k + 1) * 2) (j - (k + 1)) (O.drop (k + 1))) := Lib.hid ((HO3.out.dropR ht (if e : vc = k + 1 then .inl (by omega) else .inr (by rw [if_neg e]; simp))).on HB5.out)
            go_wp2_with (at_builtin; refine wpList_append_rows (enc := encV) (fit := fitV) (fun _ => rfl) oneVU rfl _ _ 31 rfl w3.heap.size 40 i0 (.agg zV) 24 Tryz.underlying31 HI.out HZ0.out HZ1.out HZ2.out rfl (by decide) v2 (O.take (k + 1) ++ [q]) rfl HG2.out rfl hr3.out (by rw [List.length_append, HZt.out]; simp <;> omega) (by rw [List.length_append, HZt.out]; unfold maxLen; simp <;> omega) HB5.out.size ?_; intro v3 w6 hg3 hb3; have HG3 := Lib.hid hg3; have HB6 := Lib.hid (HB5.out.trans hb3); clear hg3 hb3)
            clear hr3
            go_roundw
            case rel =>
              refine ⟨j + 1, by go_num, by omega, ?_, Lib.hid (HBw.out.trans (HB6.out.mono HBw.out.size))⟩
              have h1 : Hg.srt HeV.ord (X.take (j + 1)) = O.take (k + 1) ++ [q] ++ O.drop (k + 1) := by rw [HNext.out, HIn.out]; simp
              rw [h1]
              exact Lib.hid (gath_base HG3.out HBw.out.size)
            case measure => simp [intOf]; omega
    · obtain rfl : j = n := by omega
      have hjn : ¬ ((j : Int) < (j : Int)) := by omega
      have HGe : Hid (Gath wr w.heap.size 40 2 _ (Hg.srt HeV.ord X).length ((Hg.srt HeV.ord X).flatMap encV)) := Lib.hid (by have := HG.out; rwa [← HXl.out, List.take_length] at this)
      go_wp2
      go_ret
      exact ⟨_, rfl, HGe, HB⟩

set_option maxRecDepth 100000 in
set_option maxHeartbeats 8000000 in
theorem rins_L {w : World} {a : Option Addr} {b off n cap : Nat} {X : List LinkM} (h : RowsAt encL fitL 5 w.heap.size w a b off n X) (hs : n ≤ 20000) : Calls Tryz.prog 40 #[.slice a n cap] w fun e w' => ∃ v, e = .returned v ∧ Hid (Gath w' w.heap.size 42 5 v (Hg.srt HeL.ord X).length ((Hg.srt HeL.ord X).flatMap encL)) ∧ Hid (Below w.heap.size w w') := by
  obtain ⟨i0, hi, hz0, hz1, hz2⟩ := info_parts Tryz.infoL
  have HI := Lib.hid hi
  have HZ0 := Lib.hid hz0
  have HZ1 := Lib.hid hz1
  have HZ2 := Lib.hid hz2
  have HX := Lib.hid h
  have HXl := Lib.hid h.length
  have HAd := h.addr
  clear h hi hz0 hz1 hz2
  have H0 : Hid (Gath (w.alloc (.cells #[] 42)) w.heap.size 42 5 (.slice (some ⟨w.heap.size, 0, none⟩) 0 0) (Hg.srt HeL.ord (X.take 0)).length ((Hg.srt HeL.ord (X.take 0)).flatMap encL)) := Lib.hid (.inl ⟨rfl, rfl, _, rfl⟩)
  have HB1 : Hid (Below w.heap.size w (w.alloc (.cells #[] 42))) := Lib.hid (below_one w _)
  go_enter Tryz.func40, Tryz.ntmps40
  go_upto_region 2 with fail
  generalize w.alloc (.cells #[] 42) = w1 at *
  go_wp2_with fail
  go_loopw [3, 4] (fun v i wr => ∃ j : Nat, i = .int .i64 (j : Int) ∧ j ≤ n ∧ Hid (Gath wr w.heap.size 42 5 v (Hg.srt HeL.ord (X.take j)).length ((Hg.srt HeL.ord (X.take j)).flatMap encL)) ∧ Hid (Below w.heap.size w wr)) (fun _ i _ => n - (intOf i).toNat)
  case atStart => exact ⟨0, rfl, Nat.zero_le _, H0, HB1⟩
  case round =>
    clear H0 HB1
    obtain ⟨j, rfl, hj, HG, HB⟩ := hrel
    by_cases hlt : j < n
    · generalize wr = w2 at *
      have hji : (j : Int) < (n : Int) := by omega
      have hj0 : (0 : Int) ≤ (j : Int) := Int.natCast_nonneg j
      obtain ⟨O, hO⟩ : ∃ O, Hg.srt HeL.ord (X.take j) = O := ⟨_, rfl⟩
      have hOl : O.length = j := by rw [← hO, Hg.srt_length, List.length_take]; have := HXl.out; omega
      obtain ⟨q, hq⟩ : ∃ q, X[j]? = some q := ⟨_, List.getElem?_eq_getElem (by have := HXl.out; omega)⟩
      have HNext : Hid (Hg.srt HeL.ord (X.take (j + 1)) = Hg.insG HeL.ord q O) := Lib.hid (by
        rw [List.take_add_one, hq, ← hO]
        exact Hg.srt_snoc _ _ _ rfl)
      have HAsc : Hid (Hg.Asc HeL.ord O) := Lib.hid (by rw [← hO]; exact Hg.srt_asc _ _ rfl)
      rw [hO] at HG
      have hFO : ∀ y ∈ O, fitL y := fun y hy => HX.out.fits y (List.mem_of_mem_take (Hg.srt_mem (by rw [hO]; exact hy)))
      obtain ⟨va, vc, g, hv, hro⟩ := rows_gath (enc := encL) (fit := fitL) (fun _ => rfl) HG.out (by unfold maxLen; omega) hFO
      obtain ⟨va', vc', hv', hcap⟩ := gath_room HG.out
      rw [hv] at hv'
      cases hv'
      rw [hOl] at hv hcap
      subst hv
      have HIq := HX
      have hI := (HX.out.kept HB.out (Nat.le_refl _))
      have HQ := Lib.hid hq
      have HRo := Lib.hid hro
      have HOl := Lib.hid hOl
      have hva : j = 0 ∨ va = some ⟨g, 0, none⟩ := by have := hro.addr; rwa [hOl] at this
      obtain rfl := HAd.resolve_left (by omega)
      clear hO hFO hI hq hOl
      go_wp2_with fail
      go_loopw [5] (fun i wr => ∃ t : Nat, i = .int .i64 (t : Int) ∧ t ≤ j ∧ Hid (∀ k y, t ≤ k → O[k]? = some y → HeL.ord.lt q y = true) ∧ Hid (Below w2.heap.size w2 wr)) (fun i _ => (intOf i).toNat)
      case atStart => exact ⟨j, rfl, Nat.le_refl _, Lib.hid (fun k y h1 h2 => by have := (List.getElem?_eq_some_iff.1 h2).1; have := HOl.out; omega), Lib.hid (Below.refl _ _)⟩
      case round =>
        obtain ⟨t, rfl, ht, HAb, HB2⟩ := hrel
        have ht0 : (0 : Int) ≤ (t : Int) := Int.natCast_nonneg t
        by_cases h0 : t = 0
        · subst h0
          have HIn : Hid (Hg.insG HeL.ord q O = O.take 0 ++ q :: O.drop 0) := Lib.hid (Hg.insG_at O q 0 HAsc.out (Nat.zero_le _) HAb.out (fun k y e => by omega))
          go_wp2
          go_quiet (fail)
          go_upto_region 8 with fail
          have HB3 : Hid (Below w2.heap.size w2 (wr.drewN nq)) := Lib.hid (HB2.out.trans ⟨rfl, rfl, rfl, Nat.le_refl _, fun _ _ => rfl⟩)
          generalize wr.drewN nq = w3 at *
          have HBw := Lib.hid (HB.out.trans (HB3.out.mono HB.out.size))
          have HO3 : Hid (RowsAt encL fitL 5 w3.heap.size w3 (va) g 0 j O) := Lib.hid (by have := HRo.out.on HB3.out; rwa [HOl.out] at this)
          have hr1 : Hid (RowsAt encL fitL 5 (w3.alloc (.cells #[] 42)).heap.size (w3.alloc (.cells #[] 42)) (va) g 0 (0) (O.take (0))) := Lib.hid ((HO3.out.takeR ht).on (below_one w3 _))
          go_upto_region 9 with (at_builtin; refine wpList_append_rows (enc := encL) (fit := fitL) (fun _ => rfl) oneLU rfl _ _ 23 rfl w3.heap.size 42 i0 (.agg zL) 64 Tryz.underlying23 HI.out HZ0.out HZ1.out HZ2.out rfl (by decide) (.slice (some ⟨w3.heap.size, 0, none⟩) 0 0) [] rfl (.inl ⟨rfl, rfl, _, rfl⟩) rfl hr1.out (by simp <;> omega) (by unfold maxLen; simp <;> omega) (by simp) ?_; intro v1 w4 hg1 hb1; have HG1 := Lib.hid hg1; have HB4 := Lib.hid ((below_one w3 _).trans hb1); clear hg1 hb1)
          simp only [List.nil_append] at HG1
          clear hr1
          have HX4 := Lib.hid (HIq.out.kept (HBw.out.trans (HB4.out.mono HBw.out.size)) (Nat.le_refl _))
          have dq0 : w4.cell? ⟨b, off + j * 5, none⟩ = some (.string q.name) := HX4.out.cell j q HQ.out 0 _ rfl
          have dq1 : w4.cell? ⟨b, off + j * 5 + 1, none⟩ = some (.string q.frm) := HX4.out.cell j q HQ.out 1 _ rfl
          have dq2 : w4.cell? ⟨b, off + j * 5 + 2, none⟩ = some (.string q.to_) := HX4.out.cell j q HQ.out 2 _ rfl
          have dq3 : w4.cell? ⟨b, off + j * 5 + 3, none⟩ = some (.int .i64 q.delay) := HX4.out.cell j q HQ.out 3 _ rfl
          have dq4 : w4.cell? ⟨b, off + j * 5 + 4, none⟩ = some (.int .i64 q.weight) := HX4.out.cell j q HQ.out 4 _ rfl
          have hr2 : Hid (RowsAt encL fitL 5 (w4.alloc (.cells #[.string q.name, .string q.frm, .string q.to_, .int .i64 q.delay, .int .i64 q.weight] 42)).heap.size (w4.alloc (.cells #[.string q.name, .string q.frm, .string q.to_, .int .i64 q.delay, .int .i64 q.weight] 42)) (some ⟨w4.heap.size, 0, none⟩) w4.heap.size 0 1 [q]) := Lib.hid (rows_block (enc := encL) (fun _ => rfl) (heap_new (w := w4) (.cells #[.string q.name, .string q.frm, .string q.to_, .int .i64 q.delay, .int .i64 q.weight] 42) rfl) (by simp; rfl) (by show 1 ≤ maxLen; unfold maxLen; omega) (fun x hx => by rw [List.mem_singleton.1 hx]; exact HX.out.fits q (List.mem_of_getElem? HQ.out)) rfl)
          have hzt : (O.take (0)).length = 0 := by rw [List.length_take]; have := HOl.out; omega
          have HG1a := Lib.hid (HG1.out.alloc (.cells #[.string q.name, .string q.frm, .string q.to_, .int .i64 q.delay, .int .i64 q.weight] 42))
          have HB4a := Lib.hid (HB4.out.alloc HB4.out.size (.cells #[.string q.name, .string q.frm, .string q.to_, .int .i64 q.delay, .int .i64 q.weight] 42))
          have HZt := Lib.hid hzt
          clear hzt
          go_upto_region 10 with (at_builtin; refine wpList_append_rows (enc := encL) (fit := fitL) (fun _ => rfl) oneLU rfl _ _ 23 rfl w3.heap.size 42 i0 (.agg zL) 64 Tryz.underlying23 HI.out HZ0.out HZ1.out HZ2.out rfl (by decide) v1 (O.take (0)) rfl HG1a.out rfl hr2.out (by have := HZt.out; omega) (by have := HZt.out; unfold maxLen; omega) HB4a.out.size ?_; intro v2 w5 hg2 hb2; have HG2 := Lib.hid hg2; have HB5 := Lib.hid (HB4a.out.trans hb2); clear hg2 hb2)
          clear dq0 dq1 dq2 dq3 dq4 hr2 HG1 HG1a HB4 HB4a HX4
          have hr3 : Hid (RowsAt encL fitL 5 w5.heap.size w5 (va) g (0 + (0) * 5) (j - (0)) (O.drop (0))) := Lib.hid ((HO3.out.dropR ht (by first | exact .inl rfl | simpa using hva)).on HB5.out)
          go_wp2_with (at_builtin; refine wpList_append_rows (enc := encL) (fit := fitL) (fun _ => rfl) oneLU rfl _ _ 23 rfl w3.heap.size 42 i0 (.agg zL) 64 Tryz.underlying23 HI.out HZ0.out HZ1.out HZ2.out rfl (by decide) v2 (O.take (0) ++ [q]) rfl HG2.out rfl hr3.out (by rw [List.length_append, HZt.out]; simp <;> omega) (by rw [List.length_append, HZt.out]; unfold maxLen; simp <;> omega) HB5.out.size ?_; intro v3 w6 hg3 hb3; have HG3 := Lib.hid hg3; have HB6 := Lib.hid (HB5.out.trans hb3); clear hg3 hb3)
          clear hr3
          go_roundw
          case rel =>
            refine ⟨j + 1, by go_num, by omega, ?_, Lib.hid (HBw.out.trans (HB6.out.mono HBw.out.size))⟩
            have h1 : Hg.srt HeL.ord (X.take (j + 1)) = O.take (0) ++ [q] ++ O.drop (0) := by rw [HNext.out, HIn.out]; simp
            rw [h1]
            exact Lib.hid (gath_base HG3.out HBw.out.size)
          case measure => simp [intOf]; omega
        · obtain ⟨k, rfl⟩ : ∃ k, t = k + 1 := ⟨t - 1, by omega⟩
          obtain ⟨y, hy⟩ : ∃ y, O[k]? = some y := ⟨_, List.getElem?_eq_getElem (by have := HOl.out; omega)⟩
          have d0r : wr.cell? ⟨b, off + j * 5, none⟩ = some (.string q.name) := (HX.out.kept (HB.out.trans (HB2.out.mono HB.out.size)) (Nat.le_refl _)).cell j q HQ.out 0 _ rfl
          have e0 : wr.cell? ⟨g, k * 5, none⟩ = some (.string y.name) := by
            have := (hro.on HB2.out).cell k y hy 0 _ rfl
            simpa using this
          obtain ⟨ly, hly⟩ : ∃ l, HeL.ord.lt q y = l := ⟨_, rfl⟩
          have g1 : Op.bytesLess q.name.toList y.name.toList = ly := hly
          obtain rfl := hva.resolve_left (by omega)
          have hw : IntKind.i64.wrap (((k + 1 : Nat) : Int) - 1) = (k : Int) := by rw [show ((k + 1 : Nat) : Int) - 1 = (k : Int) by omega]; exact IntWalk.i64_in _ (by omega)
          have hkj : (k : Int) < (j : Int) := by omega
          have hk0 : (0 : Int) ≤ (k : Int) := Int.natCast_nonneg k
          have hkp : (0 : Int) < ((k + 1 : Nat) : Int) := by omega
          cases ly with
          | true =>
            go_wp2
            go_quiet (fail)
            go_wp2
            go_roundw
            case rel => exact ⟨k, by go_num, by omega, Lib.hid (fun k' y' h1 h2 => by
              by_cases e : k' = k
              · subst e; rw [hy] at h2; cases h2; exact hly
              · exact HAb.out k' y' (by omega) h2), Lib.hid (HB2.out.trans ⟨rfl, rfl, rfl, Nat.le_refl _, fun _ _ => rfl⟩)⟩
            case measure => simp [intOf] <;> omega
          | false =>
            have HIn : Hid (Hg.insG HeL.ord q O = O.take (k + 1) ++ q :: O.drop (k + 1)) := Lib.hid (Hg.insG_at O q (k + 1) HAsc.out (by have := HOl.out; omega) HAb.out (fun k' y' e h2 => by
              obtain rfl : k' = k := by omega
              rw [hy] at h2; cases h2; exact hly))
            clear hy
            go_wp2
            go_quiet (fail)
            go_upto_region 8 with fail
            have HB3 : Hid (Below w2.heap.size w2 (wr.drewN nq)) := Lib.hid (HB2.out.trans ⟨rfl, rfl, rfl, Nat.le_refl _, fun _ _ => rfl⟩)
            generalize wr.drewN nq = w3 at *
            have HBw := Lib.hid (HB.out.trans (HB3.out.mono HB.out.size))
            have HO3 : Hid (RowsAt encL fitL 5 w3.heap.size w3 (some ⟨g, 0, none⟩) g 0 j O) := Lib.hid (by have := HRo.out.on HB3.out; rwa [HOl.out] at this)
            have hr1 : Hid (RowsAt encL fitL 5 (w3.alloc (.cells #[] 42)).heap.size (w3.alloc (.cells #[] 42)) (some ⟨g, 0, none⟩) g 0 (k + 1) (O.take (k + 1))) := Lib.hid ((HO3.out.takeR ht).on (below_one w3 _))
            go_upto_region 9 with (at_builtin; refine wpList_append_rows (enc := encL) (fit := fitL) (fun _ => rfl) oneLU rfl _ _ 23 rfl w3.heap.size 42 i0 (.agg zL) 64 Tryz.underlying23 HI.out HZ0.out HZ1.out HZ2.out rfl (by decide) (.slice (some ⟨w3.heap.size, 0, none⟩) 0 0) [] rfl (.inl ⟨rfl, rfl, _, rfl⟩) rfl hr1.out (by simp <;> omega) (by unfold maxLen; simp <;> omega) (by simp) ?_; intro v1 w4 hg1 hb1; have HG1 := Lib.hid hg1; have HB4 := Lib.hid ((below_one w3 _).trans hb1); clear hg1 hb1)
            simp only [List.nil_append] at HG1
            clear hr1
            have HX4 := Lib.hid (HIq.out.kept (HBw.out.trans (HB4.out.mono HBw.out.size)) (Nat.le_refl _))
            have dq0 : w4.cell? ⟨b, off + j * 5, none⟩ = some (.string q.name) := HX4.out.cell j q HQ.out 0 _ rfl
            have dq1 : w4.cell? ⟨b, off + j * 5 + 1, none⟩ = some (.string q.frm) := HX4.out.cell j q HQ.out 1 _ rfl
            have dq2 : w4.cell? ⟨b, off + j * 5 + 2, none⟩ = some (.string q.to_) := HX4.out.cell j q HQ.out 2 _ rfl
            have dq3 : w4.cell? ⟨b, off + j * 5 + 3, none⟩ = some (.int .i64 q.delay) := HX4.out.cell j q HQ.out 3 _ rfl
            have dq4 : w4.cell? ⟨b, off + j * 5 + 4, none⟩ = some (.int .i64 q.weight) := HX4.out.cell j q HQ.out 4 _ rfl
            have hr2 : Hid (RowsAt encL fitL 5 (w4.alloc (.cells #[.string q.name, .string q.frm, .string q.to_, .int .i64 q.delay, .int .i64 q.weight] 42)).heap.size (w4.alloc (.cells #[.string q.name, .string q.frm, .string q.to_, .int .i64 q.delay, .int .i64 q.weight] 42)) (some ⟨w4.heap.size, 0, none⟩) w4.heap.size 0 1 [q]) := Lib.hid (rows_block (enc := encL) (fun _ => rfl) (heap_new (w := w4) (.cells #[.string q.name, .string q.frm, .string q.to_, .int .i64 q.delay, .int .i64 q.weight] 42) rfl) (by simp; rfl) (by show 1 ≤ maxLen; unfold maxLen; omega) (fun x hx => by rw [List.mem_singleton.1 hx]; exact HX.out.fits q (List.mem_of_getElem? HQ.out)) rfl)
            have hzt : (O.take (k + 1)).length = k + 1 := by rw [List.length_take]; have := HOl.out; omega
            have HG1a := Lib.hid (HG1.out.alloc (.cells #[.string q.name, .string q.frm, .string q.to_, .int .i64 q.delay, .int .i64 q.weight] 42))
            have HB4a := Lib.hid (HB4.out.alloc HB4.out.size (.cells #[.string q.name, .string q.frm, .string q.to_, .int .i64 q.delay, .int .i64 q.weight] 42))
            have HZt := Lib.hid hzt
            clear hzt
            go_upto_region 10 with (at_builtin; refine wpList_append_rows (enc := encL) (fit := fitL) (fun _ => rfl) oneLU rfl _ _ 23 rfl w3.heap.size 42 i0 (.agg zL) 64 Tryz.underlying23 HI.out HZ0.out HZ1.out HZ2.out rfl (by decide) v1 (O.take (k + 1)) rfl HG1a.out rfl hr2.out (by have := HZt.out; omega) (by have := HZt.out; unfold maxLen; omega) HB4a.out.size ?_; intro v2 w5 hg2 hb2; have HG2 := Lib.hid hg2; have HB5 := Lib.hid (HB4a.out.trans hb2); clear hg2 hb2)
            clear dq0 dq1 dq2 dq3 dq4 hr2 HG1 HG1a HB4 HB4a HX4
            have hr3 : Hid (RowsAt encL fitL 5 w5.heap.size w5 (if vc = k + 1 then some ⟨g, 0, none⟩ else some ⟨g, (k + 1) * 5, none⟩) g (0 + (k + 1) * 5) (j - (k + 1)) (O.drop (k + 1))) := Lib.hid ((HO3.out.dropR ht (if e : vc = k + 1 then .inl (by omega) else .inr (by rw [if_neg e]; simp))).on HB5.out)
            go_wp2_with (at_builtin; refine wpList_append_rows (enc := encL) (fit := fitL) (fun _ => rfl) oneLU rfl _ _ 23 rfl w3.heap.size 42 i0 (.agg zL) 64 Tryz.underlying23 HI.out HZ0.out HZ1.out HZ2.out rfl (by decide) v2 (O.take (k + 1) ++ [q]) rfl HG2.out rfl hr3.out (by rw [List.length_append, HZt.out]; simp <;> omega) (by rw [List.length_append, HZt.out]; unfold maxLen; simp <;> omega) HB5.out.size ?_; intro v3 w6 hg3 hb3; have HG3 := Lib.hid hg3; have HB6 := Lib.hid (HB5.out.trans hb3); clear hg3 hb3)
            clear hr3
            go_roundw
            case rel =>
              refine ⟨j + 1, by go_num, by omega, ?_, Lib.hid (HBw.out.trans (HB6.out.mono HBw.out.size))⟩
              have h1 : Hg.srt HeL.ord (X.take (j + 1)) = O.take (k + 1) ++ [q] ++ O.drop (k + 1) := by rw [HNext.out, HIn.out]; simp
              rw [h1]
              exact Lib.hid (gath_base HG3.out HBw.out.size)
            case measure => simp [intOf]; omega
    · obtain rfl : j = n := by omega
      have hjn : ¬ ((j : Int) < (j : Int)) := by omega
      have HGe : Hid (Gath wr w.heap.size 42 5 _ (Hg.srt HeL.ord X).length ((Hg.srt HeL.ord X).flatMap encL)) := Lib.hid (by have := HG.out; rwa [← HXl.out, List.take_length] at this)
      go_wp2
      go_ret
      exact ⟨_, rfl, HGe, HB⟩

set_option maxRecDepth 100000 in
set_option maxHeartbeats 8000000 in
theorem rins_P {w : World} {a : Option Addr} {b off n cap : Nat} {X : List ProcV} (h : RowsAt Md.encP fitP 4 w.heap.size w a b off n X) (hs : n ≤ 20000) : Calls Tryz.prog 39 #[.slice a n cap] w fun e w' => ∃ v, e = .returned v ∧ Hid (Gath w' w.heap.size 34 4 v (Hg.srt HeP.ord X).length ((Hg.srt HeP.ord X).flatMap Md.encP)) ∧ Hid (Below w.heap.size w w') := by
  obtain ⟨i0, hi, hz0, hz1, hz2⟩ := info_parts Tryz.infoP
  have HI := Lib.hid hi
  have HZ0 := Lib.hid hz0
  have HZ1 := Lib.hid hz1
  have HZ2 := Lib.hid hz2
  have HX := Lib.hid h
  have HXl := Lib.hid h.length
  have HAd := h.addr
  clear h hi hz0 hz1 hz2
  have H0 : Hid (Gath (w.alloc (.cells #[] 34)) w.heap.size 34 4 (.slice (some ⟨w.heap.size, 0, none⟩) 0 0) (Hg.srt HeP.ord (X.take 0)).length ((Hg.srt HeP.ord (X.take 0)).flatMap Md.encP)) := Lib.hid (.inl ⟨rfl, rfl, _, rfl⟩)
  have HB1 : Hid (Below w.heap.size w (w.alloc (.cells #[] 34))) := Lib.hid (below_one w _)
  go_enter Tryz.func39, Tryz.ntmps39
  go_upto_region 2 with fail
  generalize w.alloc (.cells #[] 34) = w1 at *
  go_wp2_with fail
  go_loopw [3, 4] (fun v i wr => ∃ j : Nat, i = .int .i64 (j : Int) ∧ j ≤ n ∧ Hid (Gath wr w.heap.size 34 4 v (Hg.srt HeP.ord (X.take j)).length ((Hg.srt HeP.ord (X.take j)).flatMap Md.encP)) ∧ Hid (Below w.heap.size w wr)) (fun _ i _ => n - (intOf i).toNat)
  case atStart => exact ⟨0, rfl, Nat.zero_le _, H0, HB1⟩
  case round =>
    clear H0 HB1
    obtain ⟨j, rfl, hj, HG, HB⟩ := hrel
    by_cases hlt : j < n
    · generalize wr = w2 at *
      have hji : (j : Int) < (n : Int) := by omega
      have hj0 : (0 : Int) ≤ (j : Int) := Int.natCast_nonneg j
      obtain ⟨O, hO⟩ : ∃ O, Hg.srt HeP.ord (X.take j) = O := ⟨_, rfl⟩
      have hOl : O.length = j := by rw [← hO, Hg.srt_length, List.length_take]; have := HXl.out; omega
      obtain ⟨q, hq⟩ : ∃ q, X[j]? = some q := ⟨_, List.getElem?_eq_getElem (by have := HXl.out; omega)⟩
      have HNext : Hid (Hg.srt HeP.ord (X.take (j + 1)) = Hg.insG HeP.ord q O) := Lib.hid (by
        rw [List.take_add_one, hq, ← hO]
        exact Hg.srt_snoc _ _ _ rfl)
      have HAsc : Hid (Hg.Asc HeP.ord O) := Lib.hid (by rw [← hO]; exact Hg.srt_asc _ _ rfl)
      rw [hO] at HG
      have hFO : ∀ y ∈ O, fitP y := fun y hy => HX.out.fits y (List.mem_of_mem_take (Hg.srt_mem (by rw [hO]; exact hy)))
      obtain ⟨va, vc, g, hv, hro⟩ := rows_gath (enc := Md.encP) (fit := fitP) (fun _ => rfl) HG.out (by unfold maxLen; omega) hFO
      obtain ⟨va', vc', hv', hcap⟩ := gath_room HG.out
      rw [hv] at hv'
      cases hv'
      rw [hOl] at hv hcap
      subst hv
      have HIq := HX
      have hI := (HX.out.kept HB.out (Nat.le_refl _))
      have HQ := Lib.hid hq
      have HRo := Lib.hid hro
      have HOl := Lib.hid hOl
      have hva : j = 0 ∨ va = some ⟨g, 0, none⟩ := by have := hro.addr; rwa [hOl] at this
      obtain rfl := HAd.resolve_left (by omega)
      clear hO hFO hI hq hOl
      go_wp2_with fail
      go_loopw [5] (fun i wr => ∃ t : Nat, i = .int .i64 (t : Int) ∧ t ≤ j ∧ Hid (∀ k y, t ≤ k → O[k]? = some y → HeP.ord.lt q y = true) ∧ Hid (Below w2.heap.size w2 wr)) (fun i _ => (intOf i).toNat)
      case atStart => exact ⟨j, rfl, Nat.le_refl _, Lib.hid (fun k y h1 h2 => by have := (List.getElem?_eq_some_iff.1 h2).1; have := HOl.out; omega), Lib.hid (Below.refl _ _)⟩
      case round =>
        obtain ⟨t, rfl, ht, HAb, HB2⟩ := hrel
        have ht0 : (0 : Int) ≤ (t : Int) := Int.natCast_nonneg t
        by_cases h0 : t = 0
        · subst h0
          have HIn : Hid (Hg.insG HeP.ord q O = O.take 0 ++ q :: O.drop 0) := Lib.hid (Hg.insG_at O q 0 HAsc.out (Nat.zero_le _) HAb.out (fun k y e => by omega))
          go_wp2
          go_quiet (fail)
          go_upto_region 8 with fail
          have HB3 : Hid (Below w2.heap.size w2 (wr.drewN nq)) := Lib.hid (HB2.out.trans ⟨rfl, rfl, rfl, Nat.le_refl _, fun _ _ => rfl⟩)
          generalize wr.drewN nq = w3 at *
          have HBw := Lib.hid (HB.out.trans (HB3.out.mono HB.out.size))
          have HO3 : Hid (RowsAt Md.encP fitP 4 w3.heap.size w3 (va) g 0 j O) := Lib.hid (by have := HRo.out.on HB3.out; rwa [HOl.out] at this)
          have hr1 : Hid (RowsAt Md.encP fitP 4 (w3.alloc (.cells #[] 34)).heap.size (w3.alloc (.cells #[] 34)) (va) g 0 (0) (O.take (0))) := Lib.hid ((HO3.out.takeR ht).on (below_one w3 _))
          go_upto_region 9 with (at_builtin; refine wpList_append_rows (enc := Md.encP) (fit := fitP) (fun _ => rfl) onePU rfl _ _ 22 rfl w3.heap.size 34 i0 (.agg zP) 72 Tryz.underlying22 HI.out HZ0.out HZ1.out HZ2.out rfl (by decide) (.slice (some ⟨w3.heap.size, 0, none⟩) 0 0) [] rfl (.inl ⟨rfl, rfl, _, rfl⟩) rfl hr1.out (by simp <;> omega) (by unfold maxLen; simp <;> omega) (by simp) ?_; intro v1 w4 hg1 hb1; have HG1 := Lib.hid hg1; have HB4 := Lib.hid ((below_one w3 _).trans hb1); clear hg1 hb1)
          simp only [List.nil_append] at HG1
          clear hr1
          have HX4 := Lib.hid (HIq.out.kept (HBw.out.trans (HB4.out.mono HBw.out.size)) (Nat.le_refl _))
          have dq0 : w4.cell? ⟨b, off + j * 4, none⟩ = some (.string q.p.name) := HX4.out.cell j q HQ.out 0 _ rfl
          have dq1 : w4.cell? ⟨b, off + j * 4 + 1, none⟩ = some (.int .i64 q.p.weight) := HX4.out.cell j q HQ.out 1 _ rfl
          have dq2 : w4.cell? ⟨b, off + j * 4 + 2, none⟩ = some (.slice q.va q.p.vars.length q.vc) := HX4.out.cell j q HQ.out 2 _ rfl
          have dq3 : w4.cell? ⟨b, off + j * 4 + 3, none⟩ = some (.slice q.sa q.p.steps.length q.sc) := HX4.out.cell j q HQ.out 3 _ rfl
          have hr2 : Hid (RowsAt Md.encP fitP 4 (w4.alloc (.cells #[.string q.p.name, .int .i64 q.p.weight, .slice q.va q.p.vars.length q.vc, .slice q.sa q.p.steps.length q.sc] 34)).heap.size (w4.alloc (.cells #[.string q.p.name, .int .i64 q.p.weight, .slice q.va q.p.vars.length q.vc, .slice q.sa q.p.steps.length q.sc] 34)) (some ⟨w4.heap.size, 0, none⟩) w4.heap.size 0 1 [q]) := Lib.hid (rows_block (enc := Md.encP) (fun _ => rfl) (heap_new (w := w4) (.cells #[.string q.p.name, .int .i64 q.p.weight, .slice q.va q.p.vars.length q.vc, .slice q.sa q.p.steps.length q.sc] 34) rfl) (by simp; rfl) (by show 1 ≤ maxLen; unfold maxLen; omega) (fun x hx => by rw [List.mem_singleton.1 hx]; exact HX.out.fits q (List.mem_of_getElem? HQ.out)) rfl)
          have hzt : (O.take (0)).length = 0 := by rw [List.length_take]; have := HOl.out; omega
          have HG1a := Lib.hid (HG1.out.alloc (.cells #[.string q.p.name, .int .i64 q.p.weight, .slice q.va q.p.vars.length q.vc, .slice q.sa q.p.steps.length q.sc] 34))
          have HB4a := Lib.hid (HB4.out.alloc HB4.out.size (.cells #[.string q.p.name, .int .i64 q.p.weight, .slice q.va q.p.vars.length q.vc, .slice q.sa q.p.steps.length q.sc] 34))
          have HZt := Lib.hid hzt
          clear hzt
          go_upto_region 10 with (at_builtin; refine wpList_append_rows (enc := Md.encP) (fit := fitP) (fun _ => rfl) onePU rfl _ _ 22 rfl w3.heap.size 34 i0 (.agg zP) 72 Tryz.underlying22 HI.out HZ0.out HZ1.out HZ2.out rfl (by decide) v1 (O.take (0)) rfl HG1a.out rfl hr2.out (by have := HZt.out; omega) (by have := HZt.out; unfold maxLen; omega) HB4a.out.size ?_; intro v2 w5 hg2 hb2; have HG2 := Lib.hid hg2; have HB5 := Lib.hid (HB4a.out.trans hb2); clear hg2 hb2)
          clear dq0 dq1 dq2 dq3 hr2 HG1 HG1a HB4 HB4a HX4
          have hr3 : Hid (RowsAt Md.encP fitP 4 w5.heap.size w5 (va) g (0 + (0) * 4) (j - (0)) (O.drop (0))) := Lib.hid ((HO3.out.dropR ht (by first | exact .inl rfl | simpa using hva)).on HB5.out)
          go_wp2_with (at_builtin; refine wpList_append_rows (enc := Md.encP) (fit := fitP) (fun _ => rfl) onePU rfl _ _ 22 rfl w3.heap.size 34 i0 (.agg zP) 72 Tryz.underlying22 HI.out HZ0.out HZ1.out HZ2.out rfl (by decide) v2 (O.take (0) ++ [q]) rfl HG2.out rfl hr3.out (by rw [List.length_append, HZt.out]; simp <;> omega) (by rw [List.length_append, HZt.out]; unfold maxLen; simp <;> omega) HB5.out.size ?_; intro v3 w6 hg3 hb3; have HG3 := Lib.hid hg3; have HB6 := Lib.hid (HB5.out.trans hb3); clear hg3 hb3)
          clear hr3
          go_roundw
          case rel =>
            refine ⟨j + 1, by go_num, by omega, ?_, Lib.hid (HBw.out.trans (HB6.out.mono HBw.out.size))⟩
            have h1 : Hg.srt HeP.ord (X.take (j + 1)) = O.take (0) ++ [q] ++ O.drop (0) := by rw [HNext.out, HIn.out]; simp
            rw [h1]
            exact Lib.hid (gath_base HG3.out HBw.out.size)
          case measure => simp [intOf]; omega
        · obtain ⟨k, rfl⟩ : ∃ k, t = k + 1 := ⟨t - 1, by omega⟩
          obtain ⟨y, hy⟩ : ∃ y, O[k]? = some y := ⟨_, List.getElem?_eq_getElem (by have := HOl.out; omega)⟩
          have d0r : wr.cell? ⟨b, off + j * 4, none⟩ = some (.string q.p.name) := (HX.out.kept (HB.out.trans (HB2.out.mono HB.out.size)) (Nat.le_refl _)).cell j q HQ.out 0 _ rfl
          have e0 : wr.cell? ⟨g, k * 4, none⟩ = some (.string y.p.name) := by
            have := (hro.on HB2.out).cell k y hy 0 _ rfl
            simpa using this
          obtain ⟨ly, hly⟩ : ∃ l, HeP.ord.lt q y = l := ⟨_, rfl⟩
          have g1 : Op.bytesLess q.p.name.toList y.p.name.toList = ly := hly
          obtain rfl := hva.resolve_left (by omega)
          have hw : IntKind.i64.wrap (((k + 1 : Nat) : Int) - 1) = (k : Int) := by rw [show ((k + 1 : Nat) : Int) - 1 = (k : Int) by omega]; exact IntWalk.i64_in _ (by omega)
          have hkj : (k : Int) < (j : Int) := by omega
          have hk0 : (0 : Int) ≤ (k : Int) := Int.natCast_nonneg k
          have hkp : (0 : Int) < ((k + 1 : Nat) : Int) := by omega
          cases ly with
          | true =>
            go_wp2
            go_quiet (fail)
            go_wp2
            go_roundw
            case rel => exact ⟨k, by go_num, by omega, Lib.hid (fun k' y' h1 h2 => by
              by_cases e : k' = k
              · subst e; rw [hy] at h2; cases h2; exact hly
              · exact HAb.out k' y' (by omega) h2), Lib.hid (HB2.out.trans ⟨rfl, rfl, rfl, Nat.le_refl _, fun _ _ => rfl⟩)⟩
            case measure => simp [intOf] <;> omega
          | false =>
            have HIn : Hid (Hg.insG HeP.ord q O = O.take (k + 1) ++ q :: O.drop (k + 1)) := Lib.hid (Hg.insG_at O q (k + 1) HAsc.out (by have := HOl.out; omega) HAb.out (fun k' y' e h2 => by
              obtain rfl : k' = k := by omega
              rw [hy] at h2; cases h2; exact hly))
            clear hy
            go_wp2
            go_quiet (fail)
            go_upto_region 8 with fail
            have HB3 : Hid (Below w2.heap.size w2 (wr.drewN nq)) := Lib.hid (HB2.out.trans ⟨rfl, rfl, rfl, Nat.le_refl _, fun _ _ => rfl⟩)
            generalize wr.drewN nq = w3 at *
            have HBw := Lib.hid (HB.out.trans (HB3.out.mono HB.out.size))
            have HO3 : Hid (RowsAt Md.encP fitP 4 w3.heap.size w3 (some ⟨g, 0, none⟩) g 0 j O) := Lib.hid (by have := HRo.out.on HB3.out; rwa [HOl.out] at this)
            have hr1 : Hid (RowsAt Md.encP fitP 4 (w3.alloc (.cells #[] 34)).heap.size (w3.alloc (.cells #[] 34)) (some ⟨g, 0, none⟩) g 0 (k + 1) (O.take (k + 1))) := Lib.hid ((HO3.out.takeR ht).on (below_one w3 _))
            go_upto_region 9 with (at_builtin; refine wpList_append_rows (enc := Md.encP) (fit := fitP) (fun _ => rfl) onePU rfl _ _ 22 rfl w3.heap.size 34 i0 (.agg zP) 72 Tryz.underlying22 HI.out HZ0.out HZ1.out HZ2.out rfl (by decide) (.slice (some ⟨w3.heap.size, 0, none⟩) 0 0) [] rfl (.inl ⟨rfl, rfl, _, rfl⟩) rfl hr1.out (by simp <;> omega) (by unfold maxLen; simp <;> omega) (by simp) ?_; intro v1 w4 hg1 hb1; have HG1 := Lib.hid hg1; have HB4 := Lib.hid ((below_one w3 _).trans hb1); clear hg1 hb1)
            simp only [List.nil_append] at HG1
            clear hr1
            have HX4 := Lib.hid (HIq.out.kept (HBw.out.trans (HB4.out.mono HBw.out.size)) (Nat.le_refl _))
            have dq0 : w4.cell? ⟨b, off + j * 4, none⟩ = some (.string q.p.name) := HX4.out.cell j q HQ.out 0 _ rfl
            have dq1 : w4.cell? ⟨b, off + j * 4 + 1, none⟩ = some (.int .i64 q.p.weight) := HX4.out.cell j q HQ.out 1 _ rfl
            have dq2 : w4.cell? ⟨b, off + j * 4 + 2, none⟩ = some (.slice q.va q.p.vars.length q.vc) := HX4.out.cell j q HQ.out 2 _ rfl
            have dq3 : w4.cell? ⟨b, off + j * 4 + 3, none⟩ = some (.slice q.sa q.p.steps.length q.sc) := HX4.out.cell j q HQ.out 3 _ rfl
            have hr2 : Hid (RowsAt Md.encP fitP 4 (w4.alloc (.cells #[.string q.p.name, .int .i64 q.p.weight, .slice q.va q.p.vars.length q.vc, .slice q.sa q.p.steps.length q.sc] 34)).heap.size (w4.alloc (.cells #[.string q.p.name, .int .i64 q.p.weight, .slice q.va q.p.vars.length q.vc, .slice q.sa q.p.steps.length q.sc] 34)) (some ⟨w4.heap.size, 0, none⟩) w4.heap.size 0 1 [q]) := Lib.hid (rows_block (enc := Md.encP) (fun _ => rfl) (heap_new (w := w4) (.cells #[.string q.p.name, .int .i64 q.p.weight, .slice q.va q.p.vars.length q.vc, .slice q.sa q.p.steps.length q.sc] 34) rfl) (by simp; rfl) (by show 1 ≤ maxLen; unfold maxLen; omega) (fun x hx => by rw [List.mem_singleton.1 hx]; exact HX.out.fits q (List.mem_of_getElem? HQ.out)) rfl)
            have hzt : (O.take (k + 1)).length = k + 1 := by rw [List.length_take]; have := HOl.out; omega
            have HG1a := Lib.hid (HG1.out.alloc (.cells #[.string q.p.name, .int .i64 q.p.weight, .slice q.va q.p.vars.length q.vc, .slice q.sa q.p.steps.length q.sc] 34))
            have HB4a := Lib.hid (HB4.out.alloc HB4.out.size (.cells #[.string q.p.name, .int .i64 q.p.weight, .slice q.va q.p.vars.length q.vc, .slice q.sa q.p.steps.length q.sc] 34))
            have HZt := Lib.hid hzt
            clear hzt
            go_upto_region 10 with (at_builtin; refine wpList_append_rows (enc := Md.encP) (fit := fitP) (fun _ => rfl) onePU rfl _ _ 22 rfl w3.heap.size 34 i0 (.agg zP) 72 Tryz.underlying22 HI.out HZ0.out HZ1.out HZ2.out rfl (by decide) v1 (O.take (k + 1)) rfl HG1a.out rfl hr2.out (by have := HZt.out; omega) (by have := HZt.out; unfold maxLen; omega) HB4a.out.size ?_; intro v2 w5 hg2 hb2; have HG2 := Lib.hid hg2; have HB5 := Lib.hid (HB4a.out.trans hb2); clear hg2 hb2)
            clear dq0 dq1 dq2 dq3 hr2 HG1 HG1a HB4 HB4a HX4
            have hr3 : Hid (RowsAt Md.encP fitP 4 w5.heap.size w5 (if vc = k + 1 then some ⟨g, 0, none⟩ else some ⟨g, (k + 1) * 4, none⟩) g (0 + (k + 1) * 4) (j - (k + 1)) (O.drop (k + 1))) := Lib.hid ((HO3.out.dropR ht (if e : vc = k + 1 then .inl (by omega) else .inr (by rw [if_neg e]; simp))).on HB5.out)
            go_wp2_with (at_builtin; refine wpList_append_rows (enc := Md.encP) (fit := fitP) (fun _ => rfl) onePU rfl _ _ 22 rfl w3.heap.size 34 i0 (.agg zP) 72 Tryz.underlying22 HI.out HZ0.out HZ1.out HZ2.out rfl (by decide) v2 (O.take (k + 1) ++ [q]) rfl HG2.out rfl hr3.out (by rw [List.length_append, HZt.out]; simp <;> omega) (by rw [List.length_append, HZt.out]; unfold maxLen; simp <;> omega) HB5.out.size ?_; intro v3 w6 hg3 hb3; have HG3 := Lib.hid hg3; have HB6 := Lib.hid (HB5.out.trans hb3); clear hg3 hb3)
            clear hr3
            go_roundw
            case rel =>
              refine ⟨j + 1, by go_num, by omega, ?_, Lib.hid (HBw.out.trans (HB6.out.mono HBw.out.size))⟩
              have h1 : Hg.srt HeP.ord (X.take (j + 1)) = O.take (k + 1) ++ [q] ++ O.drop (k + 1) := by rw [HNext.out, HIn.out]; simp
              rw [h1]
              exact Lib.hid (gath_base HG3.out HBw.out.size)
            case measure => simp [intOf]; omega
    · obtain rfl : j = n := by omega
      have hjn : ¬ ((j : Int) < (j : Int)) := by omega
      have HGe : Hid (Gath wr w.heap.size 34 4 _ (Hg.srt HeP.ord X).length ((Hg.srt HeP.ord X).flatMap Md.encP)) := Lib.hid (by have := HG.out; rwa [← HXl.out, List.take_length] at this)
      go_wp2
      go_ret
      exact ⟨_, rfl, HGe, HB⟩

theorem ahead_any (x y : EventM) (w : World) : Calls Tryz.prog 83 #[.agg #[.string x.to_, .int .i64 x.at_, .int .i64 x.val], .agg #[.string y.to_, .int .i64 y.at_, .int .i64 y.val]] w fun e w' => e = .returned (.bool (evLt x y)) ∧ Below w.heap.size w w' := by
  have HW : Hid (Below w.heap.size w ((w.alloc (.cells #[.string x.to_, .int .i64 x.at_, .int .i64 x.val] 57)).alloc (.cells #[.string y.to_, .int .i64 y.at_, .int .i64 y.val] 57))) := Lib.hid ((below_one w _).alloc (by simp) _)
  have d := heap_alloc (heap_new (w := w) (.cells #[.string x.to_, .int .i64 x.at_, .int .i64 x.val] 57) rfl) (.cells #[.string y.to_, .int .i64 y.at_, .int .i64 y.val] 57)
  have e := heap_new (w := w.alloc (.cells #[.string x.to_, .int .i64 x.at_, .int .i64 x.val] 57)) (.cells #[.string y.to_, .int .i64 y.at_, .int .i64 y.val] 57) (g := w.heap.size + 1) (by simp)
  have HD := Lib.hid d
  have HE := Lib.hid e
  clear d e
  have HL : Hid (evLt x y = if x.at_ = y.at_ then if x.to_ = y.to_ then decide (x.val < y.val) else Op.bytesLess x.to_.toList y.to_.toList else decide (x.at_ < y.at_)) := Lib.hid rfl
  go_enter Tryz.func83, Tryz.ntmps83
  go_upto_region 1 with fail
  generalize (w.alloc (.cells #[.string x.to_, .int .i64 x.at_, .int .i64 x.val] 57)).alloc (.cells #[.string y.to_, .int .i64 y.at_, .int .i64 y.val] 57) = w1 at *
  have d0 : w1.cell? ⟨w.heap.size, 0, none⟩ = some (.string x.to_) := heap_cell HD.out rfl
  have d1 : w1.cell? ⟨w.heap.size, 1, none⟩ = some (.int .i64 x.at_) := heap_cell HD.out rfl
  have d2 : w1.cell? ⟨w.heap.size, 2, none⟩ = some (.int .i64 x.val) := heap_cell HD.out rfl
  have e0 : w1.cell? ⟨w.heap.size + 1, 0, none⟩ = some (.string y.to_) := heap_cell HE.out rfl
  have e1 : w1.cell? ⟨w.heap.size + 1, 1, none⟩ = some (.int .i64 y.at_) := heap_cell HE.out rfl
  have e2 : w1.cell? ⟨w.heap.size + 1, 2, none⟩ = some (.int .i64 y.val) := heap_cell HE.out rfl
  by_cases h1 : x.at_ = y.at_
  · have g1 : (x.at_ != y.at_) = false := by simp [h1]
    by_cases h2 : x.to_ = y.to_
    · have g2 : (x.to_.toList != y.to_.toList) = false := by rw [bne, bytes_eq, decide_eq_true h2]; rfl
      have g3 : (x.to_.toList == y.to_.toList) = true := by rw [bytes_eq, decide_eq_true h2]
      have HR : Hid (evLt x y = decide (x.val < y.val)) := Lib.hid (by rw [HL.out, if_pos h1, if_pos h2])
      clear h1 h2
      go_wp2
      go_ret
      exact ⟨by rw [HR.out]; rfl, HW.out⟩
    · have g2 : (x.to_.toList != y.to_.toList) = true := by rw [bne, bytes_eq, decide_eq_false h2]; rfl
      have g3 : (x.to_.toList == y.to_.toList) = false := by rw [bytes_eq, decide_eq_false h2]
      have HR : Hid (evLt x y = Op.bytesLess x.to_.toList y.to_.toList) := Lib.hid (by rw [HL.out, if_pos h1, if_neg h2])
      clear h1 h2
      go_wp2
      go_ret
      exact ⟨by rw [HR.out]; rfl, HW.out⟩
  · have g1 : (x.at_ != y.at_) = true := by simp [h1]
    have HR : Hid (evLt x y = decide (x.at_ < y.at_)) := Lib.hid (by rw [HL.out, if_neg h1])
    clear h1
    go_wp2
    go_ret
    exact ⟨by rw [HR.out]; rfl, HW.out⟩
set_option maxRecDepth 100000 in
set_option maxHeartbeats 8000000 in
theorem rins_E {w : World} {a : Option Addr} {b off n cap : Nat} {X : List EventM} (h : RowsAt encE fitE 3 w.heap.size w a b off n X) (hs : n ≤ 20000) : Calls Tryz.prog 41 #[.slice a n cap] w fun e w' => ∃ v, e = .returned v ∧ Hid (Gath w' w.heap.size 57 3 v (Hg.srt HeE.ord X).length ((Hg.srt HeE.ord X).flatMap encE)) ∧ Hid (Below w.heap.size w w') := by
  obtain ⟨i0, hi, hz0, hz1, hz2⟩ := info_parts Tryz.infoE
  have HI := Lib.hid hi
  have HZ0 := Lib.hid hz0
  have HZ1 := Lib.hid hz1
  have HZ2 := Lib.hid hz2
  have HX := Lib.hid h
  have HXl := Lib.hid h.length
  have HAd := h.addr
  clear h hi hz0 hz1 hz2
  have H0 : Hid (Gath (w.alloc (.cells #[] 57)) w.heap.size 57 3 (.slice (some ⟨w.heap.size, 0, none⟩) 0 0) (Hg.srt HeE.ord (X.take 0)).length ((Hg.srt HeE.ord (X.take 0)).flatMap encE)) := Lib.hid (.inl ⟨rfl, rfl, _, rfl⟩)
  have HB1 : Hid (Below w.heap.size w (w.alloc (.cells #[] 57))) := Lib.hid (below_one w _)
  go_enter Tryz.func41, Tryz.ntmps41
  go_upto_region 2 with fail
  generalize w.alloc (.cells #[] 57) = w1 at *
  go_wp2_with fail
  go_loopw [3, 4] (fun v i wr => ∃ j : Nat, i = .int .i64 (j : Int) ∧ j ≤ n ∧ Hid (Gath wr w.heap.size 57 3 v (Hg.srt HeE.ord (X.take j)).length ((Hg.srt HeE.ord (X.take j)).flatMap encE)) ∧ Hid (Below w.heap.size w wr)) (fun _ i _ => n - (intOf i).toNat)
  case atStart => exact ⟨0, rfl, Nat.zero_le _, H0, HB1⟩
  case round =>
    clear H0 HB1
    obtain ⟨j, rfl, hj, HG, HB⟩ := hrel
    by_cases hlt : j < n
    · generalize wr = w2 at *
      have hji : (j : Int) < (n : Int) := by omega
      have hj0 : (0 : Int) ≤ (j : Int) := Int.natCast_nonneg j
      obtain ⟨O, hO⟩ : ∃ O, Hg.srt HeE.ord (X.take j) = O := ⟨_, rfl⟩
      have hOl : O.length = j := by rw [← hO, Hg.srt_length, List.length_take]; have := HXl.out; omega
      obtain ⟨q, hq⟩ : ∃ q, X[j]? = some q := ⟨_, List.getElem?_eq_getElem (by have := HXl.out; omega)⟩
      have HNext : Hid (Hg.srt HeE.ord (X.take (j + 1)) = Hg.insG HeE.ord q O) := Lib.hid (by
        rw [List.take_add_one, hq, ← hO]
        exact Hg.srt_snoc _ _ _ rfl)
      have HAsc : Hid (Hg.Asc HeE.ord O) := Lib.hid (by rw [← hO]; exact Hg.srt_asc _ _ rfl)
      rw [hO] at HG
      have hFO : ∀ y ∈ O, fitE y := fun y hy => HX.out.fits y (List.mem_of_mem_take (Hg.srt_mem (by rw [hO]; exact hy)))
      obtain ⟨va, vc, g, hv, hro⟩ := rows_gath (enc := encE) (fit := fitE) (fun _ => rfl) HG.out (by unfold maxLen; omega) hFO
      obtain ⟨va', vc', hv', hcap⟩ := gath_room HG.out
      rw [hv] at hv'
      cases hv'
      rw [hOl] at hv hcap
      subst hv
      have HIq := HX
      have hI := (HX.out.kept HB.out (Nat.le_refl _))
      have HQ := Lib.hid hq
      have HRo := Lib.hid hro
      have HOl := Lib.hid hOl
      have hva : j = 0 ∨ va = some ⟨g, 0, none⟩ := by have := hro.addr; rwa [hOl] at this
      obtain rfl := HAd.resolve_left (by omega)
      clear hO hFO hI hq hOl
      go_wp2_with fail
      go_loopw [5] (fun i wr => ∃ t : Nat, i = .int .i64 (t : Int) ∧ t ≤ j ∧ Hid (∀ k y, t ≤ k → O[k]? = some y → HeE.ord.lt q y = true) ∧ Hid (Below w2.heap.size w2 wr)) (fun i _ => (intOf i).toNat)
      case atStart => exact ⟨j, rfl, Nat.le_refl _, Lib.hid (fun k y h1 h2 => by have := (List.getElem?_eq_some_iff.1 h2).1; have := HOl.out; omega), Lib.hid (Below.refl _ _)⟩
      case round =>
        obtain ⟨t, rfl, ht, HAb, HB2⟩ := hrel
        have ht0 : (0 : Int) ≤ (t : Int) := Int.natCast_nonneg t
        by_cases h0 : t = 0
        · subst h0
          have HIn : Hid (Hg.insG HeE.ord q O = O.take 0 ++ q :: O.drop 0) := Lib.hid (Hg.insG_at O q 0 HAsc.out (Nat.zero_le _) HAb.out (fun k y e => by omega))
          go_wp2
          go_quiet (fail)
          go_upto_region 8 with fail
          have HB3 : Hid (Below w2.heap.size w2 (wr.drewN nq)) := Lib.hid (HB2.out.trans ⟨rfl, rfl, rfl, Nat.le_refl _, fun _ _ => rfl⟩)
          generalize wr.drewN nq = w3 at *
          have HBw := Lib.hid (HB.out.trans (HB3.out.mono HB.out.size))
          have HO3 : Hid (RowsAt encE fitE 3 w3.heap.size w3 (va) g 0 j O) := Lib.hid (by have := HRo.out.on HB3.out; rwa [HOl.out] at this)
          have hr1 : Hid (RowsAt encE fitE 3 (w3.alloc (.cells #[] 57)).heap.size (w3.alloc (.cells #[] 57)) (va) g 0 (0) (O.take (0))) := Lib.hid ((HO3.out.takeR ht).on (below_one w3 _))
          go_upto_region 9 with (at_builtin; refine wpList_append_rows (enc := encE) (fit := fitE) (fun _ => rfl) oneEU rfl _ _ 24 rfl w3.heap.size 57 i0 (.agg zE) 32 Tryz.underlying24 HI.out HZ0.out HZ1.out HZ2.out rfl (by decide) (.slice (some ⟨w3.heap.size, 0, none⟩) 0 0) [] rfl (.inl ⟨rfl, rfl, _, rfl⟩) rfl hr1.out (by simp <;> omega) (by unfold maxLen; simp <;> omega) (by simp) ?_; intro v1 w4 hg1 hb1; have HG1 := Lib.hid hg1; have HB4 := Lib.hid ((below_one w3 _).trans hb1); clear hg1 hb1)
          simp only [List.nil_append] at HG1
          clear hr1
          have HX4 := Lib.hid (HIq.out.kept (HBw.out.trans (HB4.out.mono HBw.out.size)) (Nat.le_refl _))
          have dq0 : w4.cell? ⟨b, off + j * 3, none⟩ = some (.string q.to_) := HX4.out.cell j q HQ.out 0 _ rfl
          have dq1 : w4.cell? ⟨b, off + j * 3 + 1, none⟩ = some (.int .i64 q.at_) := HX4.out.cell j q HQ.out 1 _ rfl
          have dq2 : w4.cell? ⟨b, off + j * 3 + 2, none⟩ = some (.int .i64 q.val) := HX4.out.cell j q HQ.out 2 _ rfl
          have hr2 : Hid (RowsAt encE fitE 3 (w4.alloc (.cells #[.string q.to_, .int .i64 q.at_, .int .i64 q.val] 57)).heap.size (w4.alloc (.cells #[.string q.to_, .int .i64 q.at_, .int .i64 q.val] 57)) (some ⟨w4.heap.size, 0, none⟩) w4.heap.size 0 1 [q]) := Lib.hid (rows_block (enc := encE) (fun _ => rfl) (heap_new (w := w4) (.cells #[.string q.to_, .int .i64 q.at_, .int .i64 q.val] 57) rfl) (by simp; rfl) (by show 1 ≤ maxLen; unfold maxLen; omega) (fun x hx => by rw [List.mem_singleton.1 hx]; exact HX.out.fits q (List.mem_of_getElem? HQ.out)) rfl)
          have hzt : (O.take (0)).length = 0 := by rw [List.length_take]; have := HOl.out; omega
          have HG1a := Lib.hid (HG1.out.alloc (.cells #[.string q.to_, .int .i64 q.at_, .int .i64 q.val] 57))
          have HB4a := Lib.hid (HB4.out.alloc HB4.out.size (.cells #[.string q.to_, .int .i64 q.at_, .int .i64 q.val] 57))
          have HZt := Lib.hid hzt
          clear hzt
          go_upto_region 10 with (at_builtin; refine wpList_append_rows (enc := encE) (fit := fitE) (fun _ => rfl) oneEU rfl _ _ 24 rfl w3.heap.size 57 i0 (.agg zE) 32 Tryz.underlying24 HI.out HZ0.out HZ1.out HZ2.out rfl (by decide) v1 (O.take (0)) rfl HG1a.out rfl hr2.out (by have := HZt.out; omega) (by have := HZt.out; unfold maxLen; omega) HB4a.out.size ?_; intro v2 w5 hg2 hb2; have HG2 := Lib.hid hg2; have HB5 := Lib.hid (HB4a.out.trans hb2); clear hg2 hb2)
          clear dq0 dq1 dq2 hr2 HG1 HG1a HB4 HB4a HX4
          have hr3 : Hid (RowsAt encE fitE 3 w5.heap.size w5 (va) g (0 + (0) * 3) (j - (0)) (O.drop (0))) := Lib.hid ((HO3.out.dropR ht (by first | exact .inl rfl | simpa using hva)).on HB5.out)
          go_wp2_with (at_builtin; refine wpList_append_rows (enc := encE) (fit := fitE) (fun _ => rfl) oneEU rfl _ _ 24 rfl w3.heap.size 57 i0 (.agg zE) 32 Tryz.underlying24 HI.out HZ0.out HZ1.out HZ2.out rfl (by decide) v2 (O.take (0) ++ [q]) rfl HG2.out rfl hr3.out (by rw [List.length_append, HZt.out]; simp <;> omega) (by rw [List.length_append, HZt.out]; unfold maxLen; simp <;> omega) HB5.out.size ?_; intro v3 w6 hg3 hb3; have HG3 := Lib.hid hg3; have HB6 := Lib.hid (HB5.out.trans hb3); clear hg3 hb3)
          clear hr3
          go_roundw
          case rel =>
            refine ⟨j + 1, by go_num, by omega, ?_, Lib.hid (HBw.out.trans (HB6.out.mono HBw.out.size))⟩
            have h1 : Hg.srt HeE.ord (X.take (j + 1)) = O.take (0) ++ [q] ++ O.drop (0) := by rw [HNext.out, HIn.out]; simp
            rw [h1]
            exact Lib.hid (gath_base HG3.out HBw.out.size)
          case measure => simp [intOf]; omega
        · obtain ⟨k, rfl⟩ : ∃ k, t = k + 1 := ⟨t - 1, by omega⟩
          obtain ⟨y, hy⟩ : ∃ y, O[k]? = some y := ⟨_, List.getElem?_eq_getElem (by have := HOl.out; omega)⟩
          have hRr := (hro.on HB2.out)
          have hXr := (HX.out.kept (HB.out.trans (HB2.out.mono HB.out.size)) (Nat.le_refl _))
          have HRr := Lib.hid hRr
          have HXr := Lib.hid (hXr.mono (HB.out.trans (HB2.out.mono HB.out.size)).size)
          clear hRr hXr
          have dq0 : ∀ W, Below wr.heap.size wr W → W.cell? ⟨b, off + j * 3, none⟩ = some (.string q.to_) := fun W hW => (HXr.out.on hW).cell j q HQ.out 0 _ rfl
          have dq1 : ∀ W, Below wr.heap.size wr W → W.cell? ⟨b, off + j * 3 + 1, none⟩ = some (.int .i64 q.at_) := fun W hW => (HXr.out.on hW).cell j q HQ.out 1 _ rfl
          have dq2 : ∀ W, Below wr.heap.size wr W → W.cell? ⟨b, off + j * 3 + 2, none⟩ = some (.int .i64 q.val) := fun W hW => (HXr.out.on hW).cell j q HQ.out 2 _ rfl
          have dy0 : ∀ W, Below wr.heap.size wr W → W.cell? ⟨g, k * 3, none⟩ = some (.string y.to_) := fun W hW => by
            have := (HRr.out.on hW).cell k y hy 0 _ rfl
            simpa using this
          have dy1 : ∀ W, Below wr.heap.size wr W → W.cell? ⟨g, k * 3 + 1, none⟩ = some (.int .i64 y.at_) := fun W hW => by
            have := (HRr.out.on hW).cell k y hy 1 _ rfl
            simpa using this
          have dy2 : ∀ W, Below wr.heap.size wr W → W.cell? ⟨g, k * 3 + 2, none⟩ = some (.int .i64 y.val) := fun W hW => by
            have := (HRr.out.on hW).cell k y hy 2 _ rfl
            simpa using this
          obtain ⟨ly, hly⟩ : ∃ l, HeE.ord.lt q y = l := ⟨_, rfl⟩
          have KA : Hid (∀ W, Calls Tryz.prog 83 #[.agg #[.string q.to_, .int .i64 q.at_, .int .i64 q.val], .agg #[.string y.to_, .int .i64 y.at_, .int .i64 y.val]] W fun e w' => e = .returned (.bool ly) ∧ Below W.heap.size W w') := Lib.hid (fun W => by
            have := ahead_any q y W
            rw [show evLt q y = ly from hly] at this
            exact this)
          obtain rfl := hva.resolve_left (by omega)
          obtain ⟨TI, hTI⟩ : ∃ I : Int, ((k + 1 : Nat) : Int) = I := ⟨_, rfl⟩
          have hw : IntKind.i64.wrap (TI - 1) = (k : Int) := by rw [show TI - 1 = (k : Int) by omega]; exact IntWalk.i64_in _ (by omega)
          have hTp : (0 : Int) < TI := by omega
          rw [hTI]
          have HTI := Lib.hid hTI
          clear hTI
          have hkj : (k : Int) < (j : Int) := by omega
          have hk0 : (0 : Int) ≤ (k : Int) := Int.natCast_nonneg k
          have hSr := Below.refl wr.heap.size wr
          go_wp2
          go_cut [29] from 16 to 29 (fun c wx => c = .bool ly ∧ Hid (Below wr.heap.size wr wx))
          case first =>
            go_region_held3 (fun W => Below wr.heap.size wr W) (first | assumption | exact Below.drew (by assumption)) (first
              | (go_at_call 83; with_reducible refine (KA.out _).mono ?_; rintro e w7 ⟨rfl, hb⟩; have hS7 : Below wr.heap.size wr w7 := further (show Below wr.heap.size wr _ by assumption) hb; clear hb))
            all_goals
              go_wp2_with fail
              go_meet
              exact ⟨rfl, Lib.hid hS7⟩
          case rest =>
          obtain ⟨rfl, HBc⟩ := hcut
          generalize wc = w7 at *
          obtain rfl := HTI.out
          clear hTp HTI dq0 dq1 dq2 dy0 dy1 dy2 KA hSr hw
          cases ly with
          | true =>
            go_wp2
            go_roundw
            case rel => exact ⟨k, by go_num, by omega, Lib.hid (fun k' y' h1 h2 => by
              by_cases e : k' = k
              · subst e; rw [hy] at h2; cases h2; exact hly
              · exact HAb.out k' y' (by omega) h2), Lib.hid (HB2.out.trans (HBc.out.mono HB2.out.size))⟩
            case measure => simp [intOf] <;> omega
          | false =>
            have HIn : Hid (Hg.insG HeE.ord q O = O.take (k + 1) ++ q :: O.drop (k + 1)) := Lib.hid (Hg.insG_at O q (k + 1) HAsc.out (by have := HOl.out; omega) HAb.out (fun k' y' e h2 => by
              obtain rfl : k' = k := by omega
              rw [hy] at h2; cases h2; exact hly))
            clear hy
            go_upto_region 8 with fail
            have HB3 : Hid (Below w2.heap.size w2 w7) := Lib.hid (HB2.out.trans (HBc.out.mono HB2.out.size))
            generalize w7 = w3 at *
            have HBw := Lib.hid (HB.out.trans (HB3.out.mono HB.out.size))
            have HO3 : Hid (RowsAt encE fitE 3 w3.heap.size w3 (some ⟨g, 0, none⟩) g 0 j O) := Lib.hid (by have := HRo.out.on HB3.out; rwa [HOl.out] at this)
            have hr1 : Hid (RowsAt encE fitE 3 (w3.alloc (.cells #[] 57)).heap.size (w3.alloc (.cells #[] 57)) (some ⟨g, 0, none⟩) g 0 (k + 1) (O.take (k + 1))) := Lib.hid ((HO3.out.takeR ht).on (below_one w3 _))
            go_upto_region 9 with (at_builtin; refine wpList_append_rows (enc := encE) (fit := fitE) (fun _ => rfl) oneEU rfl _ _ 24 rfl w3.heap.size 57 i0 (.agg zE) 32 Tryz.underlying24 HI.out HZ0.out HZ1.out HZ2.out rfl (by decide) (.slice (some ⟨w3.heap.size, 0, none⟩) 0 0) [] rfl (.inl ⟨rfl, rfl, _, rfl⟩) rfl hr1.out (by simp <;> omega) (by unfold maxLen; simp <;> omega) (by simp) ?_; intro v1 w4 hg1 hb1; have HG1 := Lib.hid hg1; have HB4 := Lib.hid ((below_one w3 _).trans hb1); clear hg1 hb1)
            simp only [List.nil_append] at HG1
            clear hr1
            have HX4 := Lib.hid (HIq.out.kept (HBw.out.trans (HB4.out.mono HBw.out.size)) (Nat.le_refl _))
            have dq0 : w4.cell? ⟨b, off + j * 3, none⟩ = some (.string q.to_) := HX4.out.cell j q HQ.out 0 _ rfl
            have dq1 : w4.cell? ⟨b, off + j * 3 + 1, none⟩ = some (.int .i64 q.at_) := HX4.out.cell j q HQ.out 1 _ rfl
            have dq2 : w4.cell? ⟨b, off + j * 3 + 2, none⟩ = some (.int .i64 q.val) := HX4.out.cell j q HQ.out 2 _ rfl
            have hr2 : Hid (RowsAt encE fitE 3 (w4.alloc (.cells #[.string q.to_, .int .i64 q.at_, .int .i64 q.val] 57)).heap.size (w4.alloc (.cells #[.string q.to_, .int .i64 q.at_, .int .i64 q.val] 57)) (some ⟨w4.heap.size, 0, none⟩) w4.heap.size 0 1 [q]) := Lib.hid (rows_block (enc := encE) (fun _ => rfl) (heap_new (w := w4) (.cells #[.string q.to_, .int .i64 q.at_, .int .i64 q.val] 57) rfl) (by simp; rfl) (by show 1 ≤ maxLen; unfold maxLen; omega) (fun x hx => by rw [List.mem_singleton.1 hx]; exact HX.out.fits q (List.mem_of_getElem? HQ.out)) rfl)
            have hzt : (O.take (k + 1)).length = k + 1 := by rw [List.length_take]; have := HOl.out; omega
            have HG1a := Lib.hid (HG1.out.alloc (.cells #[.string q.to_, .int .i64 q.at_, .int .i64 q.val] 57))
            have HB4a := Lib.hid (HB4.out.alloc HB4.out.size (.cells #[.string q.to_, .int .i64 q.at_, .int .i64 q.val] 57))
            have HZt := Lib.hid hzt
            clear hzt
            go_upto_region 10 with (at_builtin; refine wpList_append_rows (enc := encE) (fit := fitE) (fun _ => rfl) oneEU rfl _ _ 24 rfl w3.heap.size 57 i0 (.agg zE) 32 Tryz.underlying24 HI.out HZ0.out HZ1.out HZ2.out rfl (by decide) v1 (O.take (k + 1)) rfl HG1a.out rfl hr2.out (by have := HZt.out; omega) (by have := HZt.out; unfold maxLen; omega) HB4a.out.size ?_; intro v2 w5 hg2 hb2; have HG2 := Lib.hid hg2; have HB5 := Lib.hid (HB4a.out.trans hb2); clear hg2 hb2)
            clear dq0 dq1 dq2 hr2 HG1 HG1a HB4 HB4a HX4
            have hr3 : Hid (RowsAt encE fitE 3 w5.heap.size w5 (if vc = k + 1 then some ⟨g, 0, none⟩ else some ⟨g, (k + 1) * 3, none⟩) g (0 + (k + 1) * 3) (j - (k + 1)) (O.drop (k + 1))) := Lib.hid ((HO3.out.dropR ht (if e : vc = k + 1 then .inl (by omega) else .inr (by rw [if_neg e]; simp))).on HB5.out)
            go_wp2_with (at_builtin; refine wpList_append_rows (enc := encE) (fit := fitE) (fun _ => rfl) oneEU rfl _ _ 24 rfl w3.heap.size 57 i0 (.agg zE) 32 Tryz.underlying24 HI.out HZ0.out HZ1.out HZ2.out rfl (by decide) v2 (O.take (k + 1) ++ [q]) rfl HG2.out rfl hr3.out (by rw [List.length_append, HZt.out]; simp <;> omega) (by rw [List.length_append, HZt.out]; unfold maxLen; simp <;> omega) HB5.out.size ?_; intro v3 w6 hg3 hb3; have HG3 := Lib.hid hg3; have HB6 := Lib.hid (HB5.out.trans hb3); clear hg3 hb3)
            clear hr3
            go_roundw
            case rel =>
              refine ⟨j + 1, by go_num, by omega, ?_, Lib.hid (HBw.out.trans (HB6.out.mono HBw.out.size))⟩
              have h1 : Hg.srt HeE.ord (X.take (j + 1)) = O.take (k + 1) ++ [q] ++ O.drop (k + 1) := by rw [HNext.out, HIn.out]; simp
              rw [h1]
              exact Lib.hid (gath_base HG3.out HBw.out.size)
            case measure => simp [intOf]; omega
    · obtain rfl : j = n := by omega
      have hjn : ¬ ((j : Int) < (j : Int)) := by omega
      have HGe : Hid (Gath wr w.heap.size 57 3 _ (Hg.srt HeE.ord X).length ((Hg.srt HeE.ord X).flatMap encE)) := Lib.hid (by have := HG.out; rwa [← HXl.out, List.take_length] at this)
      go_wp2
      go_ret
      exact ⟨_, rfl, HGe, HB⟩

end Go.Proofs.YtjcmeacgfflfmaaGreat.Hk
