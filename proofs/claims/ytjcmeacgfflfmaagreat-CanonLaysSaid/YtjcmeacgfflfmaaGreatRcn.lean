/- Contract: the reference's Canon. -/
import Derived.Test.YtjcmeacgfflfmaaGreatIns
import Derived.Test.YtjcmeacgfflfmaaGreatCnb
set_option linter.unusedVariables false
set_option linter.unusedSectionVars false
set_option linter.unusedSimpArgs false
namespace Go.Proofs.YtjcmeacgfflfmaaGreat.Hk
open Go.RowKit Go.Shelf Go.Proofs.YtjcmeacgfflfmaaGreat.Md

theorem gath_own {α : Type} {enc : α → List Value} {fit : α → Prop} {sz : Nat} (hsz : ∀ x, (enc x).length = sz) {W : World} {base : Nat} {t : TypeId} {v : Value} {L : List α} (h : Gath W base t sz v L.length (L.flatMap enc)) (hm : L.length ≤ maxLen) (hf : ∀ x ∈ L, fit x) : ∃ a b c, v = .slice a L.length c ∧ OwnR enc fit sz t base W a b L := by
  by_cases h0 : L.length = 0
  · obtain ⟨ao, cap, rfl, _⟩ := gath_room h
    exact ⟨ao, 0, cap, rfl, .inl (List.eq_nil_of_length_eq_zero h0), hm, hf⟩
  · rcases h with ⟨h1, _⟩ | h
    · exact absurd h1 h0
    · obtain ⟨g, cap, rfl, hb, hr⟩ := rowc_owned hsz h rfl (by omega)
      exact ⟨_, g, cap, rfl, .inr ⟨rfl, hb, hr⟩, hm, hf⟩
/-- While the reference lays down: its box; its rows, the first j of which have variables of their own. -/
structure Rc (w : World) (x : ModelV) (B : Nat) (pa : Option Addr) (pb pc : Nat) (la : Option Addr) (lb lc : Nat) (ea : Option Addr) (eb ec : Nat) (j : Nat) (P : List ProcV) (W : World) : Prop where
  box : W.heap[B]? = some (.cells #[.int .i64 x.ver, .slice pa x.procs.length pc, .slice la x.links.length lc, .slice ea x.events.length ec] 26 (0, 0))
  res : W.heap[w.heap.size + 1]? = some (.cells #[.int .i64 0, .slice none 0 0, .slice none 0 0, .slice none 0 0] 26 (0, 0))
  procs : OwnR Md.encP fitP 4 34 w.heap.size W pa pb P
  links : OwnR encL fitL 5 42 w.heap.size W la lb (Hg.srt HeL.ord x.links)
  events : OwnR encE fitE 3 57 w.heap.size W ea eb (Hg.srt HeE.ord x.events)
  len : P.length = x.procs.length
  each : ∀ (i : Nat) q, P[i]? = some q → ∃ q0, (Hg.srt HeP.ord x.procs)[i]? = some q0 ∧ (i < j → ∃ va vb vc, q = { q0 with p := canP q0.p, va := va, vb := vb, vo := 0, vc := vc } ∧ OwnR encV fitV 2 40 w.heap.size W va vb (Hg.srt HeV.ord q0.p.vars)) ∧ (j ≤ i → q = q0)
  low : Below w.heap.size w W
theorem Rc.next {w : World} {x : ModelV} {B : Nat} {pa : Option Addr} {pb pc : Nat} {la : Option Addr} {lb lc : Nat} {ea : Option Addr} {eb ec : Nat} {j : Nat} {P : List ProcV} {W W' : World} (h : Rc w x B pa pb pc la lb lc ea eb ec j P W) (hr : RowC Md.encP 4 W pb 34 P) (hpa : pa = some ⟨pb, 0, none⟩) (hpb : w.heap.size ≤ pb)
    (hT : Turned (fun k => k = pb) W W') {q : ProcV} {va : Option Addr} {vb vc : Nat} (hq0 : (Hg.srt HeP.ord x.procs)[j]? = some q) (hf : fitP q) (hr2 : RowC Md.encP 4 W' pb 34 (P.set j { q with p := canP q.p, va := va, vb := vb, vo := 0, vc := vc })) (ho : OwnR encV fitV 2 40 w.heap.size W' va vb (Hg.srt HeV.ord q.p.vars)) : Rc w x B pa pb pc la lb lc ea eb ec (j + 1) (P.set j { q with p := canP q.p, va := va, vb := vb, vo := 0, vc := vc }) W' := by
  obtain ⟨cur, hc, _⟩ := id hr
  have hne : ∀ {b : Nat} {cs : Array Value}, W.heap[b]? = some (.cells cs 26 (0, 0)) → ¬ b = pb := fun hb e => by
    rw [e, hc] at hb
    cases hb
  refine ⟨hT.old h.box (hne h.box), hT.old h.res (hne h.res), ⟨.inr ⟨hpa, hpb, hr2⟩, by rw [List.length_set]; exact h.procs.small, fun y hy => ?_⟩, h.links.other hr hT (by decide), h.events.other hr hT (by decide), by rw [List.length_set]; exact h.len, fun i y hi => ?_, h.low.trans ((Turned.to_b hT (B := w.heap.size) (fun k hk e => by omega) h.low.size))⟩
  · rcases List.mem_or_eq_of_mem_set hy with h1 | h1
    · exact h.procs.fits y h1
    · subst h1
      exact hf
  · by_cases e : i = j
    · subst e
      have hil : i < P.length := by rw [h.len, ← Hg.srt_length (kf := HeP.ord)]; exact (List.getElem?_eq_some_iff.1 hq0).1
      rw [List.getElem?_set_self hil] at hi
      cases hi
      exact ⟨q, hq0, fun _ => ⟨va, vb, vc, rfl, ho⟩, fun hj => by omega⟩
    · rw [List.getElem?_set_ne (fun h => e h.symm)] at hi
      obtain ⟨q0, h1, h3, h4⟩ := h.each i y hi
      refine ⟨q0, h1, fun hj => ?_, fun hj => h4 (by omega)⟩
      obtain ⟨va', vb', vc', h5, h6⟩ := h3 (by omega)
      exact ⟨va', vb', vc', h5, h6.other hr hT (by decide)⟩
theorem rc_start {w : World} {x : ModelV} {B : Nat} {pa : Option Addr} {pb pc : Nat} {la : Option Addr} {lb lc : Nat} {ea : Option Addr} {eb ec : Nat} {w1 W : World} (hres : w1.heap[w.heap.size + 1]? = some (.cells #[.int .i64 0, .slice none 0 0, .slice none 0 0, .slice none 0 0] 26 (0, 0))) (hlow : Below w.heap.size w w1) (hW : Below w1.heap.size w1 W)
    (box : W.heap[B]? = some (.cells #[.int .i64 x.ver, .slice pa x.procs.length pc, .slice la x.links.length lc, .slice ea x.events.length ec] 26 (0, 0))) (hp : OwnR Md.encP fitP 4 34 w.heap.size W pa pb (Hg.srt HeP.ord x.procs)) (hl : OwnR encL fitL 5 42 w.heap.size W la lb (Hg.srt HeL.ord x.links)) (he : OwnR encE fitE 3 57 w.heap.size W ea eb (Hg.srt HeE.ord x.events)) : Rc w x B pa pb pc la lb lc ea eb ec 0 (Hg.srt HeP.ord x.procs) W :=
  ⟨box, heap_on hres hW, hp, hl, he, Hg.srt_length _, fun i q hi => ⟨q, hi, fun h => absurd h (Nat.not_lt_zero _), fun _ => rfl⟩, hlow.trans (hW.mono hlow.size)⟩

set_option maxRecDepth 100000 in
set_option maxHeartbeats 4000000 in
theorem rcanon_any {w : World} {x : ModelV} (h : ModelAt w.heap.size w x) (hs : Sized x.m) : Calls Tryz.prog 13 #[.agg #[.int .i64 x.ver, .slice x.pa x.procs.length x.pc, .slice x.la x.links.length x.lc, .slice x.ea x.events.length x.ec]] w fun e w' => ∃ z : ModelV, e = .returned (.agg #[.int .i64 z.ver, .slice z.pa z.procs.length z.pc, .slice z.la z.links.length z.lc, .slice z.ea z.events.length z.ec]) ∧ z.m = canM x.m ∧ ModelAt w'.heap.size w' z ∧ Below w.heap.size w w' := by
  have HM := Lib.hid h
  have HS := Lib.hid hs
  have hx1 := heap_alloc (heap_new (w := w) (.cells #[.int .i64 x.ver, .slice x.pa x.procs.length x.pc, .slice x.la x.links.length x.lc, .slice x.ea x.events.length x.ec] 26) rfl) (.cells #[.int .i64 0, .slice none 0 0, .slice none 0 0, .slice none 0 0] 26)
  have hr1 := heap_new (w := w.alloc (.cells #[.int .i64 x.ver, .slice x.pa x.procs.length x.pc, .slice x.la x.links.length x.lc, .slice x.ea x.events.length x.ec] 26)) (.cells #[.int .i64 0, .slice none 0 0, .slice none 0 0, .slice none 0 0] 26) rfl
  have hb1 := (below_one w (.cells #[.int .i64 x.ver, .slice x.pa x.procs.length x.pc, .slice x.la x.links.length x.lc, .slice x.ea x.events.length x.ec] 26)).alloc (by simp) (.cells #[.int .i64 0, .slice none 0 0, .slice none 0 0, .slice none 0 0] 26)
  rw [World.size_alloc] at hr1
  have HX := Lib.hid hx1
  have HR := Lib.hid hr1
  have HB := Lib.hid hb1
  clear h hs hx1 hr1 hb1
  go_enter Tryz.func13, Tryz.ntmps13
  go_upto_region 1 with fail
  generalize (w.alloc (.cells #[.int .i64 x.ver, .slice x.pa x.procs.length x.pc, .slice x.la x.links.length x.lc, .slice x.ea x.events.length x.ec] 26)).alloc (.cells #[.int .i64 0, .slice none 0 0, .slice none 0 0, .slice none 0 0] 26) = w1 at *
  have d0 : ∀ W, Below w1.heap.size w1 W → W.cell? ⟨w.heap.size, 0, none⟩ = some (.int .i64 x.ver) := fun W hW => heap_cell (heap_below HX.out hW (heap_lt HX.out)) rfl
  have d1 : ∀ W, Below w1.heap.size w1 W → W.cell? ⟨w.heap.size, 1, none⟩ = some (.slice x.pa x.procs.length x.pc) := fun W hW => heap_cell (heap_below HX.out hW (heap_lt HX.out)) rfl
  have d2 : ∀ W, Below w1.heap.size w1 W → W.cell? ⟨w.heap.size, 2, none⟩ = some (.slice x.la x.links.length x.lc) := fun W hW => heap_cell (heap_below HX.out hW (heap_lt HX.out)) rfl
  have d3 : ∀ W, Below w1.heap.size w1 W → W.cell? ⟨w.heap.size, 3, none⟩ = some (.slice x.ea x.events.length x.ec) := fun W hW => heap_cell (heap_below HX.out hW (heap_lt HX.out)) rfl
  have CP : Hid (∀ W, Below w1.heap.size w1 W → Calls Tryz.prog 39 #[.slice x.pa x.procs.length x.pc] W (fun e w' => ∃ qa qb qc, e = .returned (.slice qa x.procs.length qc) ∧ Hid (OwnR Md.encP fitP 4 34 W.heap.size w' qa qb (Hg.srt HeP.ord x.procs)) ∧ Hid (Below W.heap.size W w'))) := Lib.hid (fun W hW => (rins_P ((HM.out.on HB.out).on hW).procs (by have := HS.out.procs; unfold ModelV.m at this; first | (rw [List.length_map] at this; omega) | (dsimp only at this; omega))).mono (fun e w' ⟨v, h1, h2, h3⟩ => by
      obtain ⟨qa, qb, qc, h4, h5⟩ := gath_own (enc := Md.encP) (fit := fitP) (fun _ => rfl) h2.out (by rw [Hg.srt_length]; exact (HM.out.procs).small) (fun z hz => (HM.out.procs).fits z (Hg.srt_mem hz))
      exact ⟨qa, qb, qc, by rw [h1, h4, Hg.srt_length], Lib.hid h5, h3⟩))
  have CL : Hid (∀ W, Below w1.heap.size w1 W → Calls Tryz.prog 40 #[.slice x.la x.links.length x.lc] W (fun e w' => ∃ qa qb qc, e = .returned (.slice qa x.links.length qc) ∧ Hid (OwnR encL fitL 5 42 W.heap.size w' qa qb (Hg.srt HeL.ord x.links)) ∧ Hid (Below W.heap.size W w'))) := Lib.hid (fun W hW => (rins_L ((HM.out.on HB.out).on hW).links (by have := HS.out.links; unfold ModelV.m at this; first | (rw [List.length_map] at this; omega) | (dsimp only at this; omega))).mono (fun e w' ⟨v, h1, h2, h3⟩ => by
      obtain ⟨qa, qb, qc, h4, h5⟩ := gath_own (enc := encL) (fit := fitL) (fun _ => rfl) h2.out (by rw [Hg.srt_length]; exact (HM.out.links).small) (fun z hz => (HM.out.links).fits z (Hg.srt_mem hz))
      exact ⟨qa, qb, qc, by rw [h1, h4, Hg.srt_length], Lib.hid h5, h3⟩))
  have CE : Hid (∀ W, Below w1.heap.size w1 W → Calls Tryz.prog 41 #[.slice x.ea x.events.length x.ec] W (fun e w' => ∃ qa qb qc, e = .returned (.slice qa x.events.length qc) ∧ Hid (OwnR encE fitE 3 57 W.heap.size w' qa qb (Hg.srt HeE.ord x.events)) ∧ Hid (Below W.heap.size W w'))) := Lib.hid (fun W hW => (rins_E ((HM.out.on HB.out).on hW).events (by have := HS.out.events; unfold ModelV.m at this; first | (rw [List.length_map] at this; omega) | (dsimp only at this; omega))).mono (fun e w' ⟨v, h1, h2, h3⟩ => by
      obtain ⟨qa, qb, qc, h4, h5⟩ := gath_own (enc := encE) (fit := fitE) (fun _ => rfl) h2.out (by rw [Hg.srt_length]; exact (HM.out.events).small) (fun z hz => (HM.out.events).fits z (Hg.srt_mem hz))
      exact ⟨qa, qb, qc, by rw [h1, h4, Hg.srt_length], Lib.hid h5, h3⟩))
  go_cut [3] from 5 to 16 (fun s3 wx => ∃ B pa pb pc la lb lc ea eb ec, s3 = .pointer (some ⟨B, 0, none⟩) ∧ Hid (Rc w x B pa pb pc la lb lc ea eb ec 0 (Hg.srt HeP.ord x.procs) wx))
  · go_region_held3 (fun W => Below w1.heap.size w1 W) (first | assumption | exact Below.refl _ _ | exact (Below.refl _ _).drew | exact below_one _ _ | exact (below_one _ _).drew | exact Below.drew (by assumption) | exact Below.alloc (by assumption) (Below.size (by assumption)) _ | exact Below.drew (Below.alloc (by assumption) (Below.size (by assumption)) _) | exact below_set4 (by first | assumption | exact Below.refl _ _ | exact (Below.refl _ _).drew | exact below_one _ _ | exact (below_one _ _).drew | exact Below.drew (by assumption) | exact Below.alloc (by assumption) (Below.size (by assumption)) _ | exact Below.drew (Below.alloc (by assumption) (Below.size (by assumption)) _)) (by first | exact Nat.le_refl _ | exact Below.size (by assumption))) (first
      | (go_at_call 39; with_reducible refine (CP.out _ (by first | assumption | exact Below.refl _ _ | exact (Below.refl _ _).drew | exact below_one _ _ | exact (below_one _ _).drew | exact Below.drew (by assumption) | exact Below.alloc (by assumption) (Below.size (by assumption)) _ | exact Below.drew (Below.alloc (by assumption) (Below.size (by assumption)) _))).mono ?_; rintro e w5 ⟨pa, pb, pc, rfl, hP, hbw5⟩; have hSw5 : Below w1.heap.size w1 w5 := Below.trans (show Below w1.heap.size w1 _ by first | assumption | exact Below.refl _ _ | exact (Below.refl _ _).drew | exact below_one _ _ | exact (below_one _ _).drew | exact Below.drew (by assumption) | exact Below.alloc (by assumption) (Below.size (by assumption)) _ | exact Below.drew (Below.alloc (by assumption) (Below.size (by assumption)) _)) (hbw5.out.mono (Below.size (show Below w1.heap.size w1 _ by first | assumption | exact Below.refl _ _ | exact (Below.refl _ _).drew | exact below_one _ _ | exact (below_one _ _).drew | exact Below.drew (by assumption) | exact Below.alloc (by assumption) (Below.size (by assumption)) _ | exact Below.drew (Below.alloc (by assumption) (Below.size (by assumption)) _)))); try have hbox5 : w5.heap[w1.heap.size]? = some (.cells #[.int .i64 0, .slice none 0 0, .slice none 0 0, .slice none 0 0] 26 (0, 0)) := heap_on (by first | exact heap_new _ rfl | exact new_drew _ _) hbw5.out)
      | (go_at_call 40; with_reducible refine (CL.out _ (by first | assumption | exact Below.refl _ _ | exact (Below.refl _ _).drew | exact below_one _ _ | exact (below_one _ _).drew | exact Below.drew (by assumption) | exact Below.alloc (by assumption) (Below.size (by assumption)) _ | exact Below.drew (Below.alloc (by assumption) (Below.size (by assumption)) _))).mono ?_; rintro e w6 ⟨la, lb, lc, rfl, hL, hbw6⟩; have hSw6 : Below w1.heap.size w1 w6 := Below.trans (show Below w1.heap.size w1 _ by first | assumption | exact Below.refl _ _ | exact (Below.refl _ _).drew | exact below_one _ _ | exact (below_one _ _).drew | exact Below.drew (by assumption) | exact Below.alloc (by assumption) (Below.size (by assumption)) _ | exact Below.drew (Below.alloc (by assumption) (Below.size (by assumption)) _)) (hbw6.out.mono (Below.size (show Below w1.heap.size w1 _ by first | assumption | exact Below.refl _ _ | exact (Below.refl _ _).drew | exact below_one _ _ | exact (below_one _ _).drew | exact Below.drew (by assumption) | exact Below.alloc (by assumption) (Below.size (by assumption)) _ | exact Below.drew (Below.alloc (by assumption) (Below.size (by assumption)) _)))); have hcw6 : Hid (Below w5.heap.size w5 w6) := Lib.hid (Below.trans (show Below w5.heap.size w5 _ by first | exact Below.refl _ _ | exact (Below.refl _ _).drew | exact below_one _ _ | exact (below_one _ _).drew) (hbw6.out.mono (Below.size (show Below w5.heap.size w5 _ by first | exact Below.refl _ _ | exact (Below.refl _ _).drew | exact below_one _ _ | exact (below_one _ _).drew)))); first | (have hbox6 : w6.heap[w1.heap.size]? = some (.cells #[.int .i64 0, .slice none 0 0, .slice none 0 0, .slice none 0 0] 26 (0, 0)) := heap_on hbox5 hcw6.out) | (have hbox6 : w6.heap[w5.heap.size]? = some (.cells #[.int .i64 0, .slice none 0 0, .slice none 0 0, .slice none 0 0] 26 (0, 0)) := heap_on (by first | exact heap_new _ rfl | exact new_drew _ _) hbw6.out) | skip)
      | (go_at_call 41; with_reducible refine (CE.out _ (by first | assumption | exact Below.refl _ _ | exact (Below.refl _ _).drew | exact below_one _ _ | exact (below_one _ _).drew | exact Below.drew (by assumption) | exact Below.alloc (by assumption) (Below.size (by assumption)) _ | exact Below.drew (Below.alloc (by assumption) (Below.size (by assumption)) _))).mono ?_; rintro e w7 ⟨ea, eb, ec, rfl, hE, hbw7⟩; have hSw7 : Below w1.heap.size w1 w7 := Below.trans (show Below w1.heap.size w1 _ by first | assumption | exact Below.refl _ _ | exact (Below.refl _ _).drew | exact below_one _ _ | exact (below_one _ _).drew | exact Below.drew (by assumption) | exact Below.alloc (by assumption) (Below.size (by assumption)) _ | exact Below.drew (Below.alloc (by assumption) (Below.size (by assumption)) _)) (hbw7.out.mono (Below.size (show Below w1.heap.size w1 _ by first | assumption | exact Below.refl _ _ | exact (Below.refl _ _).drew | exact below_one _ _ | exact (below_one _ _).drew | exact Below.drew (by assumption) | exact Below.alloc (by assumption) (Below.size (by assumption)) _ | exact Below.drew (Below.alloc (by assumption) (Below.size (by assumption)) _)))); have hcw7 : Hid (Below w6.heap.size w6 w7) := Lib.hid (Below.trans (show Below w6.heap.size w6 _ by first | exact Below.refl _ _ | exact (Below.refl _ _).drew | exact below_one _ _ | exact (below_one _ _).drew) (hbw7.out.mono (Below.size (show Below w6.heap.size w6 _ by first | exact Below.refl _ _ | exact (Below.refl _ _).drew | exact below_one _ _ | exact (below_one _ _).drew)))); first | (have hbox7 := heap_on hbox6 hcw7.out; have c0 := heap_cell hbox7 (i := 0) rfl; have f0 := heap_frozen hbox7 0; have c1 := heap_cell hbox7 (i := 1) rfl; have f1 := heap_frozen hbox7 1; have c2 := heap_cell hbox7 (i := 2) rfl; have f2 := heap_frozen hbox7 2; have c3 := heap_cell hbox7 (i := 3) rfl; have f3 := heap_frozen hbox7 3) | (have hbox7 : w7.heap[w6.heap.size]? = some (.cells #[.int .i64 0, .slice none 0 0, .slice none 0 0, .slice none 0 0] 26 (0, 0)) := heap_on (by first | exact heap_new _ rfl | exact new_drew _ _) hbw7.out; have c0 := heap_cell hbox7 (i := 0) rfl; have f0 := heap_frozen hbox7 0; have c1 := heap_cell hbox7 (i := 1) rfl; have f1 := heap_frozen hbox7 1; have c2 := heap_cell hbox7 (i := 2) rfl; have f2 := heap_frozen hbox7 2; have c3 := heap_cell hbox7 (i := 3) rfl; have f3 := heap_frozen hbox7 3) | skip))
    all_goals
      go_wp2_with fail
      go_meet
      first
        | exact ⟨_, pa, pb, pc, la, lb, lc, ea, eb, ec, rfl, Lib.hid (rc_start HR.out HB.out (below_set4 hSw7 (by first | exact Nat.le_refl _ | exact hSw5.size | exact hSw6.size)) (heap_set (heap_set (heap_set (heap_set hbox7 0 _) 1 _) 2 _) 3 _) (own_set4 (((hP.out.mono (Nat.le_trans HB.out.size (Below.size (show Below w1.heap.size w1 _ by first | assumption | exact Below.refl _ _ | exact (Below.refl _ _).drew | exact below_one _ _ | exact (below_one _ _).drew | exact Below.drew (by assumption) | exact Below.alloc (by assumption) (Below.size (by assumption)) _ | exact Below.drew (Below.alloc (by assumption) (Below.size (by assumption)) _))))).on hcw6.out).on hcw7.out) hbox7 (by decide)) (own_set4 ((hL.out.mono (Nat.le_trans HB.out.size (Below.size (show Below w1.heap.size w1 _ by first | assumption | exact Below.refl _ _ | exact (Below.refl _ _).drew | exact below_one _ _ | exact (below_one _ _).drew | exact Below.drew (by assumption) | exact Below.alloc (by assumption) (Below.size (by assumption)) _ | exact Below.drew (Below.alloc (by assumption) (Below.size (by assumption)) _))))).on hcw7.out) hbox7 (by decide)) (own_set4 (hE.out.mono (Nat.le_trans HB.out.size (Below.size (show Below w1.heap.size w1 _ by first | assumption | exact Below.refl _ _ | exact (Below.refl _ _).drew | exact below_one _ _ | exact (below_one _ _).drew | exact Below.drew (by assumption) | exact Below.alloc (by assumption) (Below.size (by assumption)) _ | exact Below.drew (Below.alloc (by assumption) (Below.size (by assumption)) _))))) hbox7 (by decide)))⟩
        | exact ⟨_, pa, pb, pc, la, lb, lc, ea, eb, ec, rfl, Lib.hid (rc_start HR.out HB.out (hSw7.trans ((below_one w7 _).mono hSw7.size)) (heap_new (w := w7) _ rfl) (((((hP.out.mono (Nat.le_trans HB.out.size (Below.size (show Below w1.heap.size w1 _ by first | assumption | exact Below.refl _ _ | exact (Below.refl _ _).drew | exact below_one _ _ | exact (below_one _ _).drew | exact Below.drew (by assumption) | exact Below.alloc (by assumption) (Below.size (by assumption)) _ | exact Below.drew (Below.alloc (by assumption) (Below.size (by assumption)) _))))).on hcw6.out).on hcw7.out).on (below_one w7 _))) ((((hL.out.mono (Nat.le_trans HB.out.size (Below.size (show Below w1.heap.size w1 _ by first | assumption | exact Below.refl _ _ | exact (Below.refl _ _).drew | exact below_one _ _ | exact (below_one _ _).drew | exact Below.drew (by assumption) | exact Below.alloc (by assumption) (Below.size (by assumption)) _ | exact Below.drew (Below.alloc (by assumption) (Below.size (by assumption)) _))))).on hcw7.out).on (below_one w7 _))) ((hE.out.mono (Nat.le_trans HB.out.size (Below.size (show Below w1.heap.size w1 _ by first | assumption | exact Below.refl _ _ | exact (Below.refl _ _).drew | exact below_one _ _ | exact (below_one _ _).drew | exact Below.drew (by assumption) | exact Below.alloc (by assumption) (Below.size (by assumption)) _ | exact Below.drew (Below.alloc (by assumption) (Below.size (by assumption)) _))))).on (below_one w7 _)))⟩
  · obtain ⟨B, pa, pb, pc, la, lb, lc, ea, eb, ec, rfl, HC⟩ := hcut
    clear d0 d1 d2 d3 CP CL CE HX HR
    have c1 : wc.cell? ⟨B, 1, none⟩ = some (.slice pa x.procs.length pc) := heap_cell HC.out.box rfl
    have hsm : (x.procs.length : Int) ≤ 20000 := by have := HS.out.procs; unfold ModelV.m at this; rw [List.length_map] at this; omega
    go_wp2_with fail
    clear c1
    go_loopw [4] (fun i wr => ∃ (j : Nat) (P : List ProcV), i = .int .i64 (j : Int) ∧ j ≤ x.procs.length ∧ Hid (Rc w x B pa pb pc la lb lc ea eb ec j P wr)) (fun i _ => x.procs.length - (intOf i).toNat)
    case atStart => exact ⟨0, _, rfl, Nat.zero_le _, HC⟩
    case round =>
      clear HC
      obtain ⟨j, P, rfl, hj, HC⟩ := hrel
      have hj0 : (0 : Int) ≤ (j : Int) := Int.natCast_nonneg j
      by_cases hlt : j < x.procs.length
      · have hji : (j : Int) < (x.procs.length : Int) := by omega
        obtain ⟨q, hq⟩ : ∃ q, P[j]? = some q := ⟨_, List.getElem?_eq_getElem (by rw [HC.out.len]; exact hlt)⟩
        obtain ⟨q0, hq0, _, hqq⟩ := HC.out.each j q hq
        obtain rfl := hqq (Nat.le_refl _)
        obtain ⟨rfl, hbase, hrow⟩ := HC.out.procs.own.resolve_left (fun e => by rw [e] at hq; simp at hq)
        have HRow := Lib.hid hrow
        have hmem : q ∈ x.procs := Hg.srt_mem (List.mem_of_getElem? hq0)
        have hnN : B < wr.heap.size := heap_lt HC.out.box
        have hpb : pb < wr.heap.size := HRow.out.lt
        have HPi := Lib.hid (HM.out.inner q hmem)
        have hfit : fitP q := HM.out.procs.fits q hmem
        have hvl : q.p.vars.length ≤ 20000 := (HS.out.inner q.p (by unfold ModelV.m; exact List.mem_map_of_mem hmem)).1
        have HQ := Lib.hid hq
        have HQ0 := Lib.hid hq0
        have HFit := Lib.hid hfit
        clear hrow hqq hq0 hq hfit
        have hne8 : ¬ B = pb := fun e => by
          obtain ⟨cur, hc, _⟩ := HRow.out
          rw [← e, HC.out.box] at hc
          cases hc
        have c1 : wr.cell? ⟨B, 1, none⟩ = some (.slice (some ⟨pb, 0, none⟩) x.procs.length pc) := heap_cell HC.out.box rfl
        generalize wr = w8 at *
        have dN : ∀ W, Turned (fun k => k = pb) w8 W → W.cell? ⟨B, 1, none⟩ = some (.slice (some ⟨pb, 0, none⟩) x.procs.length pc) := fun W hW => heap_cell (hW.old HC.out.box hne8) rfl
        have dR : ∀ W, Below w8.heap.size w8 W → W.cell? ⟨pb, j * 4 + 2, none⟩ = some (.slice q.va q.p.vars.length q.vc) := fun W hW => (HRow.out.on hW).cell HQ.out (r := 2) rfl
        have dR8 := dR w8 (Below.refl _ _)
        have dR9 := dR w8.drew ((Below.refl _ _).drew)
        have dF : ∀ W, Below w8.heap.size w8 W → W.frozen? ⟨pb, j * 4 + 2, none⟩ = false := fun W hW => (HRow.out.on hW).frozen _
        have DR := Lib.hid dR
        have DF := Lib.hid dF
        have dT : ∀ W, Turned (fun k => k = pb) w8 W → Hid (W = w8 ∨ W = w8.drew) → W.cell? ⟨pb, j * 4 + 2, none⟩ = some (.slice q.va q.p.vars.length q.vc) := fun W _ h => by rcases h.out with rfl | rfl; exact dR8; exact dR9
        clear dR dF dT
        have CV : Hid (∀ W, Below w8.heap.size w8 W → Calls Tryz.prog 42 #[.slice q.va q.p.vars.length q.vc] W (fun e w9 => ∃ va vb vc, e = .returned (.slice va q.p.vars.length vc) ∧ Hid (OwnR encV fitV 2 40 w8.heap.size w9 va vb (Hg.srt HeV.ord q.p.vars)) ∧ Hid (Below w8.heap.size w8 w9))) := Lib.hid (fun W hW => (rins_V (HPi.out.on (HC.out.low.trans (hW.mono HC.out.low.size))).vars (by omega)).mono (fun e w9 ⟨v, h1, h2, h3⟩ => by
          obtain ⟨va, vb, vc, h4, h5⟩ := gath_own (enc := encV) (fit := fitV) (fun _ => rfl) h2.out (by rw [Hg.srt_length]; exact HPi.out.vars.small) (fun z hz => HPi.out.vars.fits z (Hg.srt_mem hz))
          exact ⟨va, vb, vc, by rw [h1, h4, Hg.srt_length], Lib.hid (h5.mono hW.size), Lib.hid (hW.trans (h3.out.mono hW.size))⟩))
        clear dR8 dR9
        have dN8 := dN w8 (Turned.refl' _ _)
        have dR8 := DR.out w8 (Below.refl _ _)
        have HDN := Lib.hid dN
        clear dN c1
        go_wp2
        go_region_law (go_simp; go_at_call 42; refine (CV.out _ (by first | exact Below.refl _ _ | exact (Below.refl _ _).drew)).mono ?_; rintro e w9 ⟨va, vb, vc, rfl, hV, hB9⟩; have n9 := HDN.out w9 (Turned.of_b hB9.out); have r9 := DR.out _ hB9.out; have f9 := DF.out _ hB9.out)
        all_goals
          have hT10 : Turned (fun k => k = pb) w8 (w9.setCell ⟨pb, j * 4 + 2, none⟩ (.slice va q.p.vars.length vc)) := Turned.set' (R := fun k => k = pb) (Turned.of_b hB9.out) rfl _ _
          have hR10 : RowC Md.encP 4 (w9.setCell ⟨pb, j * 4 + 2, none⟩ (.slice va q.p.vars.length vc)) pb 34 (P.set j { q with p := canP q.p, va := va, vb := vb, vo := 0, vc := vc }) := RowC.set (enc := Md.encP) (fun _ => rfl) (HRow.out.on hB9.out) HQ.out (q := 2) (by decide) (encP_can q va vb vc)
          have hV10 : OwnR encV fitV 2 40 w.heap.size (w9.setCell ⟨pb, j * 4 + 2, none⟩ (.slice va q.p.vars.length vc)) va vb (Hg.srt HeV.ord q.p.vars) := (hV.out.turned (Turned.one _ _ _ _) (fun hb _ _ e => by have := HRow.out.lt; omega)).mono HC.out.low.size
          have HC10 := Lib.hid (HC.out.next HRow.out rfl hbase hT10 HQ0.out HFit.out hR10 hV10)
          clear hT10 hR10 hV10 n9 r9 f9 dN8 dR8 hV
          go_wp2
          go_roundw
          case rel => exact ⟨j + 1, _, by go_num, by omega, HC10⟩
          case measure => simp [intOf] <;> omega
      · obtain rfl : j = x.procs.length := by omega
        have c0 : wr.cell? ⟨B, 0, none⟩ = some (.int .i64 x.ver) := heap_cell HC.out.box rfl
        have c1 : wr.cell? ⟨B, 1, none⟩ = some (.slice pa x.procs.length pc) := heap_cell HC.out.box rfl
        have c2 : wr.cell? ⟨B, 2, none⟩ = some (.slice la x.links.length lc) := heap_cell HC.out.box rfl
        have c3 : wr.cell? ⟨B, 3, none⟩ = some (.slice ea x.events.length ec) := heap_cell HC.out.box rfl
        have f0 := heap_frozen HC.out.res 0
        have d0 : wr.cell? ⟨w.heap.size + 1, 0, none⟩ = some (.int .i64 0) := heap_cell HC.out.res rfl
        have d1 : wr.cell? ⟨w.heap.size + 1, 1, none⟩ = some (.slice none 0 0) := heap_cell HC.out.res rfl
        have d2 : wr.cell? ⟨w.heap.size + 1, 2, none⟩ = some (.slice none 0 0) := heap_cell HC.out.res rfl
        have d3 : wr.cell? ⟨w.heap.size + 1, 3, none⟩ = some (.slice none 0 0) := heap_cell HC.out.res rfl
        have f1 := heap_frozen HC.out.res 1
        have f2 := heap_frozen HC.out.res 2
        have f3 := heap_frozen HC.out.res 3
        go_wp2
        have hr4 := heap_set (heap_set (heap_set (heap_set HC.out.res 0 (.int .i64 x.ver)) 1 (.slice pa x.procs.length pc)) 2 (.slice la x.links.length lc)) 3 (.slice ea x.events.length ec)
        have hT : Turned (fun k => k = w.heap.size + 1) wr _ := Turned.set' (Turned.set' (Turned.set' (Turned.set' (Turned.refl' (fun k => k = w.heap.size + 1) wr) rfl 0 (.int .i64 x.ver)) rfl 1 (.slice pa x.procs.length pc)) rfl 2 (.slice la x.links.length lc)) rfl 3 (.slice ea x.events.length ec)
        have hlow := below_set4 (a := .int .i64 x.ver) (b := .slice pa x.procs.length pc) (c := .slice la x.links.length lc) (d := .slice ea x.events.length ec) HC.out.low (Nat.le_succ _)
        refine bodyPost_ret (mdl_ret rfl hr4 rfl) rfl ?_
        generalize (((wr.setCell ⟨w.heap.size + 1, 0, none⟩ (.int .i64 x.ver)).setCell ⟨w.heap.size + 1, 1, none⟩ (.slice pa x.procs.length pc)).setCell ⟨w.heap.size + 1, 2, none⟩ (.slice la x.links.length lc)).setCell ⟨w.heap.size + 1, 3, none⟩ (.slice ea x.events.length ec) = W4 at *
        have hm : P.map (fun y => y.p) = (Hg.srt ordPM (x.procs.map (fun y => y.p))).map canP := by
          rw [← srt_procs]
          apply List.ext_getElem?
          intro i
          rw [List.getElem?_map, List.getElem?_map, List.getElem?_map]
          cases hi : P[i]? with
          | none =>
            rw [List.getElem?_eq_none (by rw [Hg.srt_length, ← HC.out.len]; exact List.getElem?_eq_none_iff.1 hi)]
            rfl
          | some q =>
            obtain ⟨q0, h1, h3, _⟩ := HC.out.each i q hi
            obtain ⟨va, vb, vc, h4, _⟩ := h3 (by rw [← HC.out.len]; exact (List.getElem?_eq_some_iff.1 hi).1)
            rw [h1, h4]
            rfl
        refine ⟨⟨x.ver, P, Hg.srt HeL.ord x.links, Hg.srt HeE.ord x.events, pa, pb, 0, pc, la, lb, 0, lc, ea, eb, 0, ec⟩, by dsimp only; rw [HC.out.len, Hg.srt_length, Hg.srt_length], by unfold ModelV.m canM; dsimp only; rw [hm], ?_, hlow⟩
        have hne : ∀ {b : Nat} {cs : Array Value} {t : TypeId}, wr.heap[b]? = some (.cells cs t (0, 0)) → t ≠ 26 → ¬ b = w.heap.size + 1 := fun hb ht e => by
          rw [e, HC.out.res] at hb
          cases hb
          exact ht rfl
        exact ⟨(HC.out.procs.turned hT (fun _ _ hc => hne hc (by decide))).rows, fun p hp => by
          obtain ⟨i, hi⟩ := List.getElem?_of_mem hp
          obtain ⟨q0, h0, h3, _⟩ := HC.out.each i p hi
          obtain ⟨va, vb, vc, rfl, h4⟩ := h3 (by rw [← HC.out.len]; exact (List.getElem?_eq_some_iff.1 hi).1)
          exact ⟨(h4.turned hT (fun _ _ hc => hne hc (by decide))).rows, ((HM.out.inner q0 (Hg.srt_mem (List.mem_of_getElem? h0))).steps.kept hlow (Nat.le_refl _)).mono hlow.size⟩, (HC.out.links.turned hT (fun _ _ hc => hne hc (by decide))).rows, (HC.out.events.turned hT (fun _ _ hc => hne hc (by decide))).rows⟩

end Go.Proofs.YtjcmeacgfflfmaaGreat.Hk
