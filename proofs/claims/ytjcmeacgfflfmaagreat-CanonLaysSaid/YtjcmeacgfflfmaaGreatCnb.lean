/- Contract: canon.Canon. -/
import Derived.Test.YtjcmeacgfflfmaaGreatCna
import Derived.Test.YtjcmeacgfflfmaaGreatMcs
set_option linter.unusedVariables false
set_option linter.unusedSectionVars false
set_option linter.unusedSimpArgs false
namespace Go.Proofs.YtjcmeacgfflfmaaGreat.Hk
open Go.RowKit Go.Shelf Go.Proofs.YtjcmeacgfflfmaaGreat.Md

theorem heap_on {w w' : World} {B : Nat} {o : Obj} (h : w.heap[B]? = some o) (hb : Below w.heap.size w w') : w'.heap[B]? = some o := heap_below h hb (heap_lt h)
/-- While a model is laid down: its box; its rows, the first j of which have lists of their own. -/
structure Cn (w : World) (x : ModelV) (B : Nat) (pa : Option Addr) (pb pc : Nat) (la : Option Addr) (lb lc : Nat) (ea : Option Addr) (eb ec : Nat) (j : Nat) (P : List ProcV) (W : World) : Prop where
  box : W.heap[B]? = some (.cells #[.int .i64 x.ver, .slice pa x.procs.length pc, .slice la x.links.length lc, .slice ea x.events.length ec] 26 (0, 0))
  res : W.heap[w.heap.size + 1]? = some (.cells #[.int .i64 0, .slice none 0 0, .slice none 0 0, .slice none 0 0] 26 (0, 0))
  procs : OwnR encP fitP 4 34 w.heap.size W pa pb P
  links : OwnR encL fitL 5 42 w.heap.size W la lb (Hg.srt HeL.ord x.links)
  events : OwnR encE fitE 3 57 w.heap.size W ea eb (Hg.srt HeE.ord x.events)
  len : P.length = x.procs.length
  each : ∀ (i : Nat) q, P[i]? = some q → ∃ q0, (Hg.srt HeP.ord x.procs)[i]? = some q0 ∧ (i < j → q.p = canP q0.p ∧ OwnP w.heap.size W q) ∧ (j ≤ i → q = q0)
  low : Below w.heap.size w W
theorem Cn.on {w : World} {x : ModelV} {B : Nat} {pa : Option Addr} {pb pc : Nat} {la : Option Addr} {lb lc : Nat} {ea : Option Addr} {eb ec : Nat} {j : Nat} {P : List ProcV} {W W' : World} (h : Cn w x B pa pb pc la lb lc ea eb ec j P W) (hb : Below W.heap.size W W') : Cn w x B pa pb pc la lb lc ea eb ec j P W' :=
  ⟨heap_on h.box hb, heap_on h.res hb, h.procs.on hb, h.links.on hb, h.events.on hb, h.len, fun i q hi => by
    obtain ⟨q0, h1, h3, h4⟩ := h.each i q hi
    exact ⟨q0, h1, fun hj => ⟨(h3 hj).1, (h3 hj).2.on hb⟩, h4⟩, h.low.trans (hb.mono h.low.size)⟩
theorem Cn.next {w : World} {x : ModelV} {B : Nat} {pa : Option Addr} {pb pc : Nat} {la : Option Addr} {lb lc : Nat} {ea : Option Addr} {eb ec : Nat} {j : Nat} {P : List ProcV} {W W' : World} (h : Cn w x B pa pb pc la lb lc ea eb ec j P W) (hr : RowC encP 4 W pb 34 P) (hpa : pa = some ⟨pb, 0, none⟩) (hpb : w.heap.size ≤ pb)
    (hT : Turned (fun k => k = pb) W W') {q q2 : ProcV} (hq0 : (Hg.srt HeP.ord x.procs)[j]? = some q) (hf : fitP q) (hr2 : RowC encP 4 W' pb 34 (P.set j q2)) (ho : OwnP w.heap.size W' q2) (hp : q2.p = canP q.p) : Cn w x B pa pb pc la lb lc ea eb ec (j + 1) (P.set j q2) W' := by
  obtain ⟨cur, hc, _⟩ := id hr
  have hne : ∀ {b : Nat} {cs : Array Value}, W.heap[b]? = some (.cells cs 26 (0, 0)) → ¬ b = pb := fun hb e => by
    rw [e, hc] at hb
    cases hb
  refine ⟨hT.old h.box (hne h.box), hT.old h.res (hne h.res), ⟨.inr ⟨hpa, hpb, hr2⟩, by rw [List.length_set]; exact h.procs.small, fun y hy => ?_⟩, h.links.other hr hT (by decide), h.events.other hr hT (by decide), by rw [List.length_set]; exact h.len, fun i y hi => ?_, h.low.trans ((Turned.to_b hT (B := w.heap.size) (fun k hk e => by omega) h.low.size))⟩
  · rcases List.mem_or_eq_of_mem_set hy with h1 | h1
    · exact h.procs.fits y h1
    · subst h1
      show y.p.name.size ≤ maxLen
      rw [hp]
      exact hf
  · by_cases e : i = j
    · subst e
      have hil : i < P.length := by rw [h.len, ← Hg.srt_length (kf := HeP.ord)]; exact (List.getElem?_eq_some_iff.1 hq0).1
      rw [List.getElem?_set_self hil] at hi
      cases hi
      exact ⟨q, hq0, fun _ => ⟨hp, ho⟩, fun hj => by omega⟩
    · rw [List.getElem?_set_ne (fun h => e h.symm)] at hi
      obtain ⟨q0, h1, h3, h4⟩ := h.each i y hi
      exact ⟨q0, h1, fun hj => ⟨(h3 (by omega)).1, (h3 (by omega)).2.other hr hT⟩, fun hj => h4 (by omega)⟩

theorem own_set4 {α : Type} {enc : α → List Value} {fit : α → Prop} {sz : Nat} {t : TypeId} {base B : Nat} {W : World} {p : Option Addr} {b : Nat} {L : List α} {cs : Array Value} {a1 a2 a3 a4 : Value} (h : OwnR enc fit sz t base W p b L) (hB : W.heap[B]? = some (.cells cs 26 (0, 0))) (ht : t ≠ 26) : OwnR enc fit sz t base ((((W.setCell ⟨B, 0, none⟩ a1).setCell ⟨B, 1, none⟩ a2).setCell ⟨B, 2, none⟩ a3).setCell ⟨B, 3, none⟩ a4) p b L :=
  h.turned (R := fun k => k = B) (Turned.set' (Turned.set' (Turned.set' (Turned.set' (Turned.refl' (fun k => k = B) W) rfl 0 a1) rfl 1 a2) rfl 2 a3) rfl 3 a4) (fun _ cur hc e => by
    rw [e, hB] at hc
    cases hc
    exact ht rfl)
theorem cn_start {w : World} {x : ModelV} {B : Nat} {pa : Option Addr} {pb pc : Nat} {la : Option Addr} {lb lc : Nat} {ea : Option Addr} {eb ec : Nat} {w1 W : World} (hres : w1.heap[w.heap.size + 1]? = some (.cells #[.int .i64 0, .slice none 0 0, .slice none 0 0, .slice none 0 0] 26 (0, 0))) (hlow : Below w.heap.size w w1) (hW : Below w1.heap.size w1 W)
    (box : W.heap[B]? = some (.cells #[.int .i64 x.ver, .slice pa x.procs.length pc, .slice la x.links.length lc, .slice ea x.events.length ec] 26 (0, 0))) (hp : OwnR encP fitP 4 34 w.heap.size W pa pb (Hg.srt HeP.ord x.procs)) (hl : OwnR encL fitL 5 42 w.heap.size W la lb (Hg.srt HeL.ord x.links)) (he : OwnR encE fitE 3 57 w.heap.size W ea eb (Hg.srt HeE.ord x.events)) : Cn w x B pa pb pc la lb lc ea eb ec 0 (Hg.srt HeP.ord x.procs) W :=
  ⟨box, heap_on hres hW, hp, hl, he, Hg.srt_length _, fun i q hi => ⟨q, hi, fun h => absurd h (Nat.not_lt_zero _), fun _ => rfl⟩, hlow.trans (hW.mono hlow.size)⟩

theorem below_set4 {n B : Nat} {w W : World} {a b c d : Value} (h : Below n w W) (hB : n ≤ B) : Below n w ((((W.setCell ⟨B, 0, none⟩ a).setCell ⟨B, 1, none⟩ b).setCell ⟨B, 2, none⟩ c).setCell ⟨B, 3, none⟩ d) :=
  Below.box (Below.box (Below.box (Below.box h hB 0 a) hB 1 b) hB 2 c) hB 3 d
set_option maxRecDepth 100000 in
set_option maxHeartbeats 2000000 in
theorem canon_any {w : World} {x : ModelV} (h : ModelAt w.heap.size w x) (hs : Sized x.m) : Calls Tryz.prog 12 #[.agg #[.int .i64 x.ver, .slice x.pa x.procs.length x.pc, .slice x.la x.links.length x.lc, .slice x.ea x.events.length x.ec]] w (CopyQ w (canM x.m)) := by
  have HM := Lib.hid h
  have HS := Lib.hid hs
  have hx1 := heap_alloc (heap_new (w := w) (.cells #[.int .i64 x.ver, .slice x.pa x.procs.length x.pc, .slice x.la x.links.length x.lc, .slice x.ea x.events.length x.ec] 26) rfl) (.cells #[.int .i64 0, .slice none 0 0, .slice none 0 0, .slice none 0 0] 26)
  have hr1 := heap_new (w := w.alloc (.cells #[.int .i64 x.ver, .slice x.pa x.procs.length x.pc, .slice x.la x.links.length x.lc, .slice x.ea x.events.length x.ec] 26)) (.cells #[.int .i64 0, .slice none 0 0, .slice none 0 0, .slice none 0 0] 26) rfl
  have hb1 := (below_one w (.cells #[.int .i64 x.ver, .slice x.pa x.procs.length x.pc, .slice x.la x.links.length x.lc, .slice x.ea x.events.length x.ec] 26)).alloc (by simp) (.cells #[.int .i64 0, .slice none 0 0, .slice none 0 0, .slice none 0 0] 26)
  rw [World.size_alloc] at hr1
  have HX := Lib.hid hx1
  have HR := Lib.hid hr1
  have HB := Lib.hid hb1
  clear h hs hx1 hr1 hb1
  go_enter Tryz.func12, Tryz.ntmps12
  go_upto_region 1 with fail
  generalize (w.alloc (.cells #[.int .i64 x.ver, .slice x.pa x.procs.length x.pc, .slice x.la x.links.length x.lc, .slice x.ea x.events.length x.ec] 26)).alloc (.cells #[.int .i64 0, .slice none 0 0, .slice none 0 0, .slice none 0 0] 26) = w1 at *
  have d0 : ∀ W, Below w1.heap.size w1 W → W.cell? ⟨w.heap.size, 0, none⟩ = some (.int .i64 x.ver) := fun W hW => heap_cell (heap_below HX.out hW (heap_lt HX.out)) rfl
  have d1 : ∀ W, Below w1.heap.size w1 W → W.cell? ⟨w.heap.size, 1, none⟩ = some (.slice x.pa x.procs.length x.pc) := fun W hW => heap_cell (heap_below HX.out hW (heap_lt HX.out)) rfl
  have d2 : ∀ W, Below w1.heap.size w1 W → W.cell? ⟨w.heap.size, 2, none⟩ = some (.slice x.la x.links.length x.lc) := fun W hW => heap_cell (heap_below HX.out hW (heap_lt HX.out)) rfl
  have d3 : ∀ W, Below w1.heap.size w1 W → W.cell? ⟨w.heap.size, 3, none⟩ = some (.slice x.ea x.events.length x.ec) := fun W hW => heap_cell (heap_below HX.out hW (heap_lt HX.out)) rfl
  have CP : Hid (∀ W, Below w1.heap.size w1 W → Calls Tryz.prog 30 #[.slice x.pa x.procs.length x.pc, .func (.func 31) #[] #[]] W (fun e w' => ∃ qa qb qc, e = .returned (.slice qa x.procs.length qc) ∧ Hid (OwnR encP fitP 4 34 W.heap.size w' qa qb (Hg.srt HeP.ord x.procs)) ∧ Hid (Below W.heap.size W w'))) := Lib.hid (fun W hW => (HeP.byName_any ((HM.out.on HB.out).on hW).procs (by have := HS.out.procs; unfold ModelV.m at this; first | (rw [List.length_map] at this; omega) | (dsimp only at this; omega))).mono (fun e w' ⟨qa, qb, qc, h1, h2, h3⟩ => ⟨qa, qb, qc, h1, Lib.hid h2, Lib.hid h3⟩))
  have CL : Hid (∀ W, Below w1.heap.size w1 W → Calls Tryz.prog 32 #[.slice x.la x.links.length x.lc, .func (.func 33) #[] #[]] W (fun e w' => ∃ qa qb qc, e = .returned (.slice qa x.links.length qc) ∧ Hid (OwnR encL fitL 5 42 W.heap.size w' qa qb (Hg.srt HeL.ord x.links)) ∧ Hid (Below W.heap.size W w'))) := Lib.hid (fun W hW => (HeL.byName_any ((HM.out.on HB.out).on hW).links (by have := HS.out.links; unfold ModelV.m at this; first | (rw [List.length_map] at this; omega) | (dsimp only at this; omega))).mono (fun e w' ⟨qa, qb, qc, h1, h2, h3⟩ => ⟨qa, qb, qc, h1, Lib.hid h2, Lib.hid h3⟩))
  have CE : Hid (∀ W, Below w1.heap.size w1 W → Calls Tryz.prog 34 #[.slice x.ea x.events.length x.ec, .func (.func 35) #[] #[]] W (fun e w' => ∃ qa qb qc, e = .returned (.slice qa x.events.length qc) ∧ Hid (OwnR encE fitE 3 57 W.heap.size w' qa qb (Hg.srt HeE.ord x.events)) ∧ Hid (Below W.heap.size W w'))) := Lib.hid (fun W hW => (HeE.sort_any 0 ((HM.out.on HB.out).on hW).events (by have := HS.out.events; unfold ModelV.m at this; first | (rw [List.length_map] at this; omega) | (dsimp only at this; omega)) trivial).mono (fun e w' ⟨qa, qb, qc, h1, h2, h3⟩ => ⟨qa, qb, qc, h1, Lib.hid h2, Lib.hid h3⟩))
  go_cut [3] from 6 to 17 (fun s3 wx => ∃ B pa pb pc la lb lc ea eb ec, s3 = .pointer (some ⟨B, 0, none⟩) ∧ Hid (Cn w x B pa pb pc la lb lc ea eb ec 0 (Hg.srt HeP.ord x.procs) wx))
  · go_region_held3 (fun W => Below w1.heap.size w1 W) (first | assumption | exact Below.refl _ _ | exact (Below.refl _ _).drew | exact below_one _ _ | exact (below_one _ _).drew | exact Below.drew (by assumption) | exact Below.alloc (by assumption) (Below.size (by assumption)) _ | exact Below.drew (Below.alloc (by assumption) (Below.size (by assumption)) _) | exact below_set4 (by first | assumption | exact Below.refl _ _ | exact (Below.refl _ _).drew | exact below_one _ _ | exact (below_one _ _).drew | exact Below.drew (by assumption) | exact Below.alloc (by assumption) (Below.size (by assumption)) _ | exact Below.drew (Below.alloc (by assumption) (Below.size (by assumption)) _)) (by first | exact Nat.le_refl _ | exact Below.size (by assumption))) (first
      | (go_at_call 30; with_reducible refine (CP.out _ (by first | assumption | exact Below.refl _ _ | exact (Below.refl _ _).drew | exact below_one _ _ | exact (below_one _ _).drew | exact Below.drew (by assumption) | exact Below.alloc (by assumption) (Below.size (by assumption)) _ | exact Below.drew (Below.alloc (by assumption) (Below.size (by assumption)) _))).mono ?_; rintro e w5 ⟨pa, pb, pc, rfl, hP, hbw5⟩; have hSw5 : Below w1.heap.size w1 w5 := Below.trans (show Below w1.heap.size w1 _ by first | assumption | exact Below.refl _ _ | exact (Below.refl _ _).drew | exact below_one _ _ | exact (below_one _ _).drew | exact Below.drew (by assumption) | exact Below.alloc (by assumption) (Below.size (by assumption)) _ | exact Below.drew (Below.alloc (by assumption) (Below.size (by assumption)) _)) (hbw5.out.mono (Below.size (show Below w1.heap.size w1 _ by first | assumption | exact Below.refl _ _ | exact (Below.refl _ _).drew | exact below_one _ _ | exact (below_one _ _).drew | exact Below.drew (by assumption) | exact Below.alloc (by assumption) (Below.size (by assumption)) _ | exact Below.drew (Below.alloc (by assumption) (Below.size (by assumption)) _)))); try have hbox5 : w5.heap[w1.heap.size]? = some (.cells #[.int .i64 0, .slice none 0 0, .slice none 0 0, .slice none 0 0] 26 (0, 0)) := heap_on (by first | exact heap_new _ rfl | exact new_drew _ _) hbw5.out)
      | (go_at_call 32; with_reducible refine (CL.out _ (by first | assumption | exact Below.refl _ _ | exact (Below.refl _ _).drew | exact below_one _ _ | exact (below_one _ _).drew | exact Below.drew (by assumption) | exact Below.alloc (by assumption) (Below.size (by assumption)) _ | exact Below.drew (Below.alloc (by assumption) (Below.size (by assumption)) _))).mono ?_; rintro e w6 ⟨la, lb, lc, rfl, hL, hbw6⟩; have hSw6 : Below w1.heap.size w1 w6 := Below.trans (show Below w1.heap.size w1 _ by first | assumption | exact Below.refl _ _ | exact (Below.refl _ _).drew | exact below_one _ _ | exact (below_one _ _).drew | exact Below.drew (by assumption) | exact Below.alloc (by assumption) (Below.size (by assumption)) _ | exact Below.drew (Below.alloc (by assumption) (Below.size (by assumption)) _)) (hbw6.out.mono (Below.size (show Below w1.heap.size w1 _ by first | assumption | exact Below.refl _ _ | exact (Below.refl _ _).drew | exact below_one _ _ | exact (below_one _ _).drew | exact Below.drew (by assumption) | exact Below.alloc (by assumption) (Below.size (by assumption)) _ | exact Below.drew (Below.alloc (by assumption) (Below.size (by assumption)) _)))); have hcw6 : Hid (Below w5.heap.size w5 w6) := Lib.hid (Below.trans (show Below w5.heap.size w5 _ by first | exact Below.refl _ _ | exact (Below.refl _ _).drew | exact below_one _ _ | exact (below_one _ _).drew) (hbw6.out.mono (Below.size (show Below w5.heap.size w5 _ by first | exact Below.refl _ _ | exact (Below.refl _ _).drew | exact below_one _ _ | exact (below_one _ _).drew)))); first | (have hbox6 : w6.heap[w1.heap.size]? = some (.cells #[.int .i64 0, .slice none 0 0, .slice none 0 0, .slice none 0 0] 26 (0, 0)) := heap_on hbox5 hcw6.out) | (have hbox6 : w6.heap[w5.heap.size]? = some (.cells #[.int .i64 0, .slice none 0 0, .slice none 0 0, .slice none 0 0] 26 (0, 0)) := heap_on (by first | exact heap_new _ rfl | exact new_drew _ _) hbw6.out) | skip)
      | (go_at_call 34; with_reducible refine (CE.out _ (by first | assumption | exact Below.refl _ _ | exact (Below.refl _ _).drew | exact below_one _ _ | exact (below_one _ _).drew | exact Below.drew (by assumption) | exact Below.alloc (by assumption) (Below.size (by assumption)) _ | exact Below.drew (Below.alloc (by assumption) (Below.size (by assumption)) _))).mono ?_; rintro e w7 ⟨ea, eb, ec, rfl, hE, hbw7⟩; have hSw7 : Below w1.heap.size w1 w7 := Below.trans (show Below w1.heap.size w1 _ by first | assumption | exact Below.refl _ _ | exact (Below.refl _ _).drew | exact below_one _ _ | exact (below_one _ _).drew | exact Below.drew (by assumption) | exact Below.alloc (by assumption) (Below.size (by assumption)) _ | exact Below.drew (Below.alloc (by assumption) (Below.size (by assumption)) _)) (hbw7.out.mono (Below.size (show Below w1.heap.size w1 _ by first | assumption | exact Below.refl _ _ | exact (Below.refl _ _).drew | exact below_one _ _ | exact (below_one _ _).drew | exact Below.drew (by assumption) | exact Below.alloc (by assumption) (Below.size (by assumption)) _ | exact Below.drew (Below.alloc (by assumption) (Below.size (by assumption)) _)))); have hcw7 : Hid (Below w6.heap.size w6 w7) := Lib.hid (Below.trans (show Below w6.heap.size w6 _ by first | exact Below.refl _ _ | exact (Below.refl _ _).drew | exact below_one _ _ | exact (below_one _ _).drew) (hbw7.out.mono (Below.size (show Below w6.heap.size w6 _ by first | exact Below.refl _ _ | exact (Below.refl _ _).drew | exact below_one _ _ | exact (below_one _ _).drew)))); first | (have hbox7 := heap_on hbox6 hcw7.out; have c0 := heap_cell hbox7 (i := 0) rfl; have f0 := heap_frozen hbox7 0; have c1 := heap_cell hbox7 (i := 1) rfl; have f1 := heap_frozen hbox7 1; have c2 := heap_cell hbox7 (i := 2) rfl; have f2 := heap_frozen hbox7 2; have c3 := heap_cell hbox7 (i := 3) rfl; have f3 := heap_frozen hbox7 3) | (have hbox7 : w7.heap[w6.heap.size]? = some (.cells #[.int .i64 0, .slice none 0 0, .slice none 0 0, .slice none 0 0] 26 (0, 0)) := heap_on (by first | exact heap_new _ rfl | exact new_drew _ _) hbw7.out; have c0 := heap_cell hbox7 (i := 0) rfl; have f0 := heap_frozen hbox7 0; have c1 := heap_cell hbox7 (i := 1) rfl; have f1 := heap_frozen hbox7 1; have c2 := heap_cell hbox7 (i := 2) rfl; have f2 := heap_frozen hbox7 2; have c3 := heap_cell hbox7 (i := 3) rfl; have f3 := heap_frozen hbox7 3) | skip))
    all_goals
      go_wp2_with fail
      go_meet
      first
        | exact ⟨_, pa, pb, pc, la, lb, lc, ea, eb, ec, rfl, Lib.hid (cn_start HR.out HB.out (below_set4 hSw7 (by first | exact Nat.le_refl _ | exact hSw5.size | exact hSw6.size)) (heap_set (heap_set (heap_set (heap_set hbox7 0 _) 1 _) 2 _) 3 _) (own_set4 (((hP.out.mono (Nat.le_trans HB.out.size (Below.size (show Below w1.heap.size w1 _ by first | assumption | exact Below.refl _ _ | exact (Below.refl _ _).drew | exact below_one _ _ | exact (below_one _ _).drew | exact Below.drew (by assumption) | exact Below.alloc (by assumption) (Below.size (by assumption)) _ | exact Below.drew (Below.alloc (by assumption) (Below.size (by assumption)) _))))).on hcw6.out).on hcw7.out) hbox7 (by decide)) (own_set4 ((hL.out.mono (Nat.le_trans HB.out.size (Below.size (show Below w1.heap.size w1 _ by first | assumption | exact Below.refl _ _ | exact (Below.refl _ _).drew | exact below_one _ _ | exact (below_one _ _).drew | exact Below.drew (by assumption) | exact Below.alloc (by assumption) (Below.size (by assumption)) _ | exact Below.drew (Below.alloc (by assumption) (Below.size (by assumption)) _))))).on hcw7.out) hbox7 (by decide)) (own_set4 (hE.out.mono (Nat.le_trans HB.out.size (Below.size (show Below w1.heap.size w1 _ by first | assumption | exact Below.refl _ _ | exact (Below.refl _ _).drew | exact below_one _ _ | exact (below_one _ _).drew | exact Below.drew (by assumption) | exact Below.alloc (by assumption) (Below.size (by assumption)) _ | exact Below.drew (Below.alloc (by assumption) (Below.size (by assumption)) _))))) hbox7 (by decide)))⟩
        | exact ⟨_, pa, pb, pc, la, lb, lc, ea, eb, ec, rfl, Lib.hid (cn_start HR.out HB.out (hSw7.trans ((below_one w7 _).mono hSw7.size)) (heap_new (w := w7) _ rfl) (((((hP.out.mono (Nat.le_trans HB.out.size (Below.size (show Below w1.heap.size w1 _ by first | assumption | exact Below.refl _ _ | exact (Below.refl _ _).drew | exact below_one _ _ | exact (below_one _ _).drew | exact Below.drew (by assumption) | exact Below.alloc (by assumption) (Below.size (by assumption)) _ | exact Below.drew (Below.alloc (by assumption) (Below.size (by assumption)) _))))).on hcw6.out).on hcw7.out).on (below_one w7 _))) ((((hL.out.mono (Nat.le_trans HB.out.size (Below.size (show Below w1.heap.size w1 _ by first | assumption | exact Below.refl _ _ | exact (Below.refl _ _).drew | exact below_one _ _ | exact (below_one _ _).drew | exact Below.drew (by assumption) | exact Below.alloc (by assumption) (Below.size (by assumption)) _ | exact Below.drew (Below.alloc (by assumption) (Below.size (by assumption)) _))))).on hcw7.out).on (below_one w7 _))) ((hE.out.mono (Nat.le_trans HB.out.size (Below.size (show Below w1.heap.size w1 _ by first | assumption | exact Below.refl _ _ | exact (Below.refl _ _).drew | exact below_one _ _ | exact (below_one _ _).drew | exact Below.drew (by assumption) | exact Below.alloc (by assumption) (Below.size (by assumption)) _ | exact Below.drew (Below.alloc (by assumption) (Below.size (by assumption)) _))))).on (below_one w7 _)))⟩
  · obtain ⟨B, pa, pb, pc, la, lb, lc, ea, eb, ec, rfl, HC⟩ := hcut
    clear d0 d1 d2 d3 CP CL CE HX HR
    have c1 : wc.cell? ⟨B, 1, none⟩ = some (.slice pa x.procs.length pc) := heap_cell HC.out.box rfl
    have hsm : (x.procs.length : Int) ≤ 20000 := by have := HS.out.procs; unfold ModelV.m at this; rw [List.length_map] at this; omega
    go_wp2_with fail
    clear c1
    go_loopw [21] (fun i wr => ∃ (j : Nat) (P : List ProcV), i = .int .i64 (j : Int) ∧ j ≤ x.procs.length ∧ Hid (Cn w x B pa pb pc la lb lc ea eb ec j P wr)) (fun i _ => x.procs.length - (intOf i).toNat)
    case atStart => exact ⟨0, _, rfl, Nat.zero_le _, HC⟩
    case round =>
      clear HC
      obtain ⟨j, P, rfl, hj, HC⟩ := hrel
      have hj0 : (0 : Int) ≤ (j : Int) := Int.natCast_nonneg j
      by_cases hlt : j < x.procs.length
      · have hji : (j : Int) < (x.procs.length : Int) := by omega
        obtain ⟨q, hq⟩ : ∃ q, P[j]? = some q := ⟨_, List.getElem?_eq_getElem (by rw [HC.out.len]; exact hlt)⟩
        obtain ⟨q0, hq0, _, hqq⟩ := HC.out.each j q hq
        obtain rfl := hqq (Nat.le_refl _)
        obtain ⟨rfl, hbase, hrow⟩ := HC.out.procs.own.resolve_left (fun e => by rw [e] at hq; simp at hq)
        have HRow := Lib.hid hrow
        have r0 : wr.cell? ⟨pb, j * 4, none⟩ = some (.string q.p.name) := hrow.cell hq (r := 0) rfl
        have r1 : wr.cell? ⟨pb, j * 4 + 1, none⟩ = some (.int .i64 q.p.weight) := hrow.cell hq (r := 1) rfl
        have r2 : wr.cell? ⟨pb, j * 4 + 2, none⟩ = some (.slice q.va q.p.vars.length q.vc) := hrow.cell hq (r := 2) rfl
        have r3 : wr.cell? ⟨pb, j * 4 + 3, none⟩ = some (.slice q.sa q.p.steps.length q.sc) := hrow.cell hq (r := 3) rfl
        have hmem : q ∈ x.procs := Hg.srt_mem (List.mem_of_getElem? hq0)
        go_upto_region 5 with fail
        have HC8 : Hid (Cn w x B (some ⟨pb, 0, none⟩) pb pc la lb lc ea eb ec j P (wr.alloc (.cells #[.string q.p.name, .int .i64 q.p.weight, .slice q.va q.p.vars.length q.vc, .slice q.sa q.p.steps.length q.sc] 34))) := Lib.hid (HC.out.on (below_one _ _))
        have HO8 := Lib.hid (heap_new (w := wr) (.cells #[.string q.p.name, .int .i64 q.p.weight, .slice q.va q.p.vars.length q.vc, .slice q.sa q.p.steps.length q.sc] 34) rfl)
        have HRow8 : Hid (RowC encP 4 (wr.alloc (.cells #[.string q.p.name, .int .i64 q.p.weight, .slice q.va q.p.vars.length q.vc, .slice q.sa q.p.steps.length q.sc] 34)) pb 34 P) := Lib.hid (HRow.out.on (below_one _ _))
        have hnN : B < wr.heap.size := heap_lt HC.out.box
        have hpb : pb < wr.heap.size := HRow.out.lt
        have hbne : ¬ pb = wr.heap.size := by omega
        have HPi := Lib.hid (HM.out.inner q hmem)
        have hfit : fitP q := HM.out.procs.fits q hmem
        have hvl : q.p.vars.length ≤ 20000 ∧ q.p.steps.length ≤ 20000 := HS.out.inner q.p (by unfold ModelV.m; exact List.mem_map_of_mem hmem)
        have HQ := Lib.hid hq
        have HQ0 := Lib.hid hq0
        clear r0 r1 r2 r3 HC HRow hrow hqq hq0 hq
        have hz8 : (wr.alloc (.cells #[.string q.p.name, .int .i64 q.p.weight, .slice q.va q.p.vars.length q.vc, .slice q.sa q.p.steps.length q.sc] 34)).heap.size = wr.heap.size + 1 := World.size_alloc _ _
        generalize wr.alloc (.cells #[.string q.p.name, .int .i64 q.p.weight, .slice q.va q.p.vars.length q.vc, .slice q.sa q.p.steps.length q.sc] 34) = w8 at *
        have HZ8 := Lib.hid hz8
        clear hz8
        have hne8 : ¬ B = pb := fun e => by
          obtain ⟨cur, hc, _⟩ := HRow8.out
          rw [← e, HC8.out.box] at hc
          cases hc
        have dN : ∀ W, Turned (fun k => k = pb) w8 W → W.cell? ⟨B, 1, none⟩ = some (.slice (some ⟨pb, 0, none⟩) x.procs.length pc) := fun W hW => heap_cell (hW.old HC8.out.box hne8) rfl
        have dP : ∀ W, Turned (fun k => k = pb) w8 W → W.cell? ⟨wr.heap.size, 2, none⟩ = some (.slice q.va q.p.vars.length q.vc) := fun W hW => heap_cell (hW.old HO8.out (fun e => hbne e.symm)) rfl
        have dR : ∀ W, Below w8.heap.size w8 W → W.cell? ⟨pb, j * 4 + 2, none⟩ = some (.slice q.va q.p.vars.length q.vc) := fun W hW => (HRow8.out.on hW).cell HQ.out (r := 2) rfl
        have dF : ∀ W, Below w8.heap.size w8 W → W.frozen? ⟨pb, j * 4 + 2, none⟩ = false := fun W hW => (HRow8.out.on hW).frozen _
        have DR := Lib.hid dR
        have DF := Lib.hid dF
        clear dR dF
        have CV : Hid (∀ W, Below w8.heap.size w8 W → Calls Tryz.prog 36 #[.slice q.va q.p.vars.length q.vc, .func (.func 37) #[] #[]] W (fun e w9 => ∃ va vb vc, e = .returned (.slice va q.p.vars.length vc) ∧ Hid (OwnR encV fitV 2 40 w8.heap.size w9 va vb (Hg.srt HeV.ord q.p.vars)) ∧ Hid (Below w8.heap.size w8 w9))) := Lib.hid (fun W hW => (HeV.byName_any (HPi.out.on (HC8.out.on hW).low).vars (by omega)).mono (fun e w9 ⟨va, vb, vc, h1, h2, h3⟩ => ⟨va, vb, vc, h1, Lib.hid (h2.mono hW.size), Lib.hid (hW.trans (h3.mono hW.size))⟩))
        go_region_held3 (fun W => Turned (fun k => k = pb) w8 W) (first | assumption | exact Turned.refl' _ _ | exact Turned.drew' (Turned.refl' _ _) | exact Turned.drew' (by assumption) | exact Turned.of_b hB9.out | exact Turned.drew' (Turned.of_b hB9.out) | exact Turned.set' (R := fun k => k = pb) (Turned.of_b hB9.out) rfl _ _) (
          (go_at_call 36; refine (CV.out _ (by first | assumption | exact Below.refl _ _ | exact (Below.refl _ _).drew)).mono ?_; clear CV; rintro e w9 ⟨va, vb, vc, rfl, hV, hB9⟩; have r9 := DR.out _ hB9.out; have f9 := DF.out _ hB9.out))
        have hT10 : Turned (fun k => k = pb) w8 (w9.setCell ⟨pb, j * 4 + 2, none⟩ (.slice va q.p.vars.length vc)) := by assumption
        have hR10 : RowC encP 4 (w9.setCell ⟨pb, j * 4 + 2, none⟩ (.slice va q.p.vars.length vc)) pb 34 (P.set j { q with p := canP q.p, va := va, vb := vb, vo := 0, vc := vc }) := RowC.set (enc := encP) (fun _ => rfl) (HRow8.out.on hB9.out) HQ.out (q := 2) (by decide) (encP_can q va vb vc)
        have hV10 : OwnR encV fitV 2 40 w8.heap.size (w9.setCell ⟨pb, j * 4 + 2, none⟩ (.slice va q.p.vars.length vc)) va vb (Hg.srt HeV.ord q.p.vars) := hV.out.turned (Turned.one _ _ _ _) (fun hb _ _ e => by have := HRow8.out.lt; omega)
        have hPT10 : Below w.heap.size w (w9.setCell ⟨pb, j * 4 + 2, none⟩ (.slice va q.p.vars.length vc)) := HC8.out.low.trans (Turned.to_b hT10 (B := w.heap.size) (fun k hk e => by omega) HC8.out.low.size)
        go_upto_region 6 with fail
        clear dN dP r9 f9
        generalize w9.setCell ⟨pb, j * 4 + 2, none⟩ (.slice va q.p.vars.length vc) = w10 at *
        have HT10 := Lib.hid hT10
        have HR10 := Lib.hid hR10
        have HV10 := Lib.hid hV10
        have HB10 := Lib.hid hPT10
        have hjP : j < P.length := by rw [HC8.out.len]; exact hlt
        have HQ10 : Hid ((P.set j { q with p := canP q.p, va := va, vb := vb, vo := 0, vc := vc })[j]? = some { q with p := canP q.p, va := va, vb := vb, vo := 0, vc := vc }) := Lib.hid (List.getElem?_set_self hjP)
        clear hT10 hR10 hV10 hPT10 hV DR DF hjP
        have dN : ∀ W, Turned (fun k => k = pb) w10 W → W.cell? ⟨B, 1, none⟩ = some (.slice (some ⟨pb, 0, none⟩) x.procs.length pc) := fun W hW => heap_cell (hW.old (HT10.out.old HC8.out.box hne8) hne8) rfl
        have dP : ∀ W, Turned (fun k => k = pb) w10 W → W.cell? ⟨wr.heap.size, 3, none⟩ = some (.slice q.sa q.p.steps.length q.sc) := fun W hW => heap_cell (hW.old (HT10.out.old HO8.out (fun e => hbne e.symm)) (fun e => hbne e.symm)) rfl
        have DR : Hid (∀ W, Below w10.heap.size w10 W → W.cell? ⟨pb, j * 4 + 3, none⟩ = some (.slice q.sa q.p.steps.length q.sc)) := Lib.hid (fun W hW => (HR10.out.on hW).cell HQ10.out (r := 3) rfl)
        have DF : Hid (∀ W, Below w10.heap.size w10 W → W.frozen? ⟨pb, j * 4 + 3, none⟩ = false) := Lib.hid (fun W hW => (HR10.out.on hW).frozen _)
        have CS : Hid (∀ W, Below w10.heap.size w10 W → Calls Tryz.prog 38 #[.slice q.sa q.p.steps.length q.sc] W (fun e w11 => ∃ sa sb sc, e = .returned (.slice sa q.p.steps.length sc) ∧ Hid (OwnR encS fitS 5 38 w10.heap.size w11 sa sb q.p.steps) ∧ Hid (Below w10.heap.size w10 w11))) := Lib.hid (fun W hW => (cloneS_any (HPi.out.on (HB10.out.trans (hW.mono HB10.out.size))).steps (by omega)).mono (fun e w11 ⟨sa, sb, sc, h1, h2, h3⟩ => ⟨sa, sb, sc, h1, Lib.hid (h2.mono hW.size), Lib.hid (hW.trans (h3.mono hW.size))⟩))
        go_region_held3 (fun W => Turned (fun k => k = pb) w10 W) (first | assumption | exact Turned.refl' _ _ | exact Turned.drew' (Turned.refl' _ _) | exact Turned.drew' (by assumption) | exact Turned.of_b hB11.out | exact Turned.drew' (Turned.of_b hB11.out) | exact Turned.set' (R := fun k => k = pb) (Turned.of_b hB11.out) rfl _ _) (
          (go_at_call 38; refine (CS.out _ (by first | assumption | exact Below.refl _ _ | exact (Below.refl _ _).drew)).mono ?_; clear CS; rintro e w11 ⟨sa, sb, sc, rfl, hS, hB11⟩; have r11 := DR.out _ hB11.out; have f11 := DF.out _ hB11.out))
        have hT12 : Turned (fun k => k = pb) w10 (w11.setCell ⟨pb, j * 4 + 3, none⟩ (.slice sa q.p.steps.length sc)) := by assumption
        have hR12 : RowC encP 4 (w11.setCell ⟨pb, j * 4 + 3, none⟩ (.slice sa q.p.steps.length sc)) pb 34 (P.set j { q with p := canP q.p, va := va, vb := vb, vo := 0, vc := vc, sa := sa, sb := sb, so := 0, sc := sc }) := by
          have := RowC.set (enc := encP) (fun _ => rfl) (HR10.out.on hB11.out) HQ10.out (q := 3) (by decide) (encP_steps { q with p := canP q.p, va := va, vb := vb, vo := 0, vc := vc } sa sb sc)
          rw [List.set_set] at this
          exact this
        have hpl : pb < w10.heap.size := HR10.out.lt
        have hS12 : OwnR encS fitS 5 38 w10.heap.size (w11.setCell ⟨pb, j * 4 + 3, none⟩ (.slice sa q.p.steps.length sc)) sa sb q.p.steps := hS.out.turned (Turned.one _ _ _ _) (fun hb _ _ e => by omega)
        have hV12 : OwnR encV fitV 2 40 w8.heap.size (w11.setCell ⟨pb, j * 4 + 3, none⟩ (.slice sa q.p.steps.length sc)) va vb (Hg.srt HeV.ord q.p.vars) := (HV10.out.on hB11.out).turned (Turned.one _ _ _ _) (fun hb _ _ e => by have := HRow8.out.lt; omega)
        have HC12 := Lib.hid (HC8.out.next HRow8.out rfl hbase (Turned.trans' HT10.out hT12) HQ0.out hfit hR12 ⟨hV12.mono HC8.out.low.size, rfl, hS12.mono HB10.out.size, rfl⟩ rfl)
        clear hT12 hR12 hS12 hV12 dN dP DR DF hS r11 f11
        go_wp2
        refine ⟨⟨j + 1, _, by simp, by omega, HC12⟩, ?_⟩
        unfold intOf
        simp
        omega
      · obtain rfl : j = x.procs.length := by omega
        have c0 : wr.cell? ⟨B, 0, none⟩ = some (.int .i64 x.ver) := heap_cell HC.out.box rfl
        have c1 : wr.cell? ⟨B, 1, none⟩ = some (.slice pa x.procs.length pc) := heap_cell HC.out.box rfl
        have c2 : wr.cell? ⟨B, 2, none⟩ = some (.slice la x.links.length lc) := heap_cell HC.out.box rfl
        have c3 : wr.cell? ⟨B, 3, none⟩ = some (.slice ea x.events.length ec) := heap_cell HC.out.box rfl
        have f0 := heap_frozen HC.out.res 0
        have d0 : wr.cell? ⟨w.heap.size + 1, 0, none⟩ = some (.int .i64 0) := heap_cell HC.out.res rfl
        have d1 : wr.cell? ⟨w.heap.size + 1, 1, none⟩ = some (.slice none 0 0) := heap_cell HC.out.res rfl
        have d2 : wr.cell? ⟨w.heap.size + 1, 2, none⟩ = some (.slice none 0 0) := heap_cell HC.out.res rfl
        have d3 : wr.cell? ⟨w.heap.size + 1, 3, none⟩ = some (.slice none 0 0) := heap_cell HC.out.res rfl
        have f1 := heap_frozen HC.out.res 1
        have f2 := heap_frozen HC.out.res 2
        have f3 := heap_frozen HC.out.res 3
        go_wp2
        have hr4 := heap_set (heap_set (heap_set (heap_set HC.out.res 0 (.int .i64 x.ver)) 1 (.slice pa x.procs.length pc)) 2 (.slice la x.links.length lc)) 3 (.slice ea x.events.length ec)
        have hT : Turned (fun k => k = w.heap.size + 1) wr _ := Turned.set' (Turned.set' (Turned.set' (Turned.set' (Turned.refl' (fun k => k = w.heap.size + 1) wr) rfl 0 (.int .i64 x.ver)) rfl 1 (.slice pa x.procs.length pc)) rfl 2 (.slice la x.links.length lc)) rfl 3 (.slice ea x.events.length ec)
        have hlow := below_set4 (a := .int .i64 x.ver) (b := .slice pa x.procs.length pc) (c := .slice la x.links.length lc) (d := .slice ea x.events.length ec) HC.out.low (Nat.le_succ _)
        refine bodyPost_ret (mdl_ret rfl hr4 rfl) rfl ?_
        generalize (((wr.setCell ⟨w.heap.size + 1, 0, none⟩ (.int .i64 x.ver)).setCell ⟨w.heap.size + 1, 1, none⟩ (.slice pa x.procs.length pc)).setCell ⟨w.heap.size + 1, 2, none⟩ (.slice la x.links.length lc)).setCell ⟨w.heap.size + 1, 3, none⟩ (.slice ea x.events.length ec) = W4 at *
        have hm : P.map (fun y => y.p) = (Hg.srt ordPM (x.procs.map (fun y => y.p))).map canP := by
          rw [← srt_procs]
          apply List.ext_getElem?
          intro i
          rw [List.getElem?_map, List.getElem?_map, List.getElem?_map]
          cases hi : P[i]? with
          | none =>
            rw [List.getElem?_eq_none (by rw [Hg.srt_length, ← HC.out.len]; exact List.getElem?_eq_none_iff.1 hi)]
            rfl
          | some q =>
            obtain ⟨q0, h1, h3, _⟩ := HC.out.each i q hi
            have h4 := (h3 (by rw [← HC.out.len]; exact (List.getElem?_eq_some_iff.1 hi).1)).1
            rw [h1]
            simp [h4]
        refine ⟨⟨x.ver, P, Hg.srt HeL.ord x.links, Hg.srt HeE.ord x.events, pa, pb, 0, pc, la, lb, 0, lc, ea, eb, 0, ec⟩, by dsimp only; rw [HC.out.len, Hg.srt_length, Hg.srt_length], by unfold ModelV.m canM; dsimp only; rw [hm], ?_, hlow⟩
        have hne : ∀ {b : Nat} {cs : Array Value} {t : TypeId}, wr.heap[b]? = some (.cells cs t (0, 0)) → t ≠ 26 → ¬ b = w.heap.size + 1 := fun hb ht e => by
          rw [e, HC.out.res] at hb
          cases hb
          exact ht rfl
        exact ⟨HC.out.procs.turned hT (fun _ _ hc => hne hc (by decide)), rfl, fun p hp => by
          obtain ⟨i, hi⟩ := List.getElem?_of_mem hp
          obtain ⟨q0, _, h3, _⟩ := HC.out.each i p hi
          have h4 := (h3 (by rw [← HC.out.len]; exact (List.getElem?_eq_some_iff.1 hi).1)).2
          exact ⟨h4.vars.turned hT (fun _ _ hc => hne hc (by decide)), h4.vo, h4.steps.turned hT (fun _ _ hc => hne hc (by decide)), h4.so⟩, HC.out.links.turned hT (fun _ _ hc => hne hc (by decide)), rfl, HC.out.events.turned hT (fun _ _ hc => hne hc (by decide)), rfl⟩

end Go.Proofs.YtjcmeacgfflfmaaGreat.Hk
