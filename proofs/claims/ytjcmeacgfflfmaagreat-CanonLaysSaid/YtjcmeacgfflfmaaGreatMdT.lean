/- Models as they are handed in. -/
import Derived.Test.YtjcmeacgfflfmaaGreatMdB
import Derived.Deep.Slices
set_option linter.unusedVariables false
set_option linter.unusedSectionVars false
set_option linter.unusedSimpArgs false
namespace Go.Proofs.YtjcmeacgfflfmaaGreat.Md
open Go.RowKit Go.ChangeShapes Go.WideShapes Go.Deep

section
variable {H : Type} {enc : TypeId × Value → H} {W : World} {spare : Nat → Bool}
theorem open_rows {α : Type} {en : α → List Value} {fit R : α → Prop} {sz : Nat} {t e : TypeId} (ht : Tryz.prog.underlying t = some (.slice e)) (hc : Tryz.prog.cellsOf e = sz) (hsz : ∀ x, (en x).length = sz) (h0 : 0 < sz)
    (hel : ∀ n cs x, DataW.trod enc Tryz.prog W 0 (fun _ => true) true n e cs = some x → cs.length = sz → ∃ o, cs = en o ∧ R o) (hRf : ∀ o, R o → fit o) {fuel : Nat} {cs : List Value} {x : DataW H × List MemPlace}
    (h : DataW.trod enc Tryz.prog W 0 (fun _ => true) true fuel t cs = some x) : ∃ a len cap b off L, cs = [.slice a len cap] ∧ RowsAt en fit sz W.heap.size W a b off len L ∧ ∀ o ∈ L, R o := by
  rcases open_slice ht h with ⟨hcs, _⟩ | ⟨x, l, c, m, n, D, Pl, hcs, hb, hl, hm, hmm, hx, hi⟩
  · exact ⟨none, 0, 0, 0, 0, [], hcs, RowsAt.nil rfl rfl, fun o ho => by simp at ho⟩
  · rw [if_pos rfl] at hmm
    subst hmm
    rw [hc] at hi
    have hall : ∀ i : Fin l, ∃ o : α, W.cells? 0 (x.add (i.val * sz)) sz = some (en o) ∧ R o := by
      intro i
      obtain ⟨cs', hc', ht'⟩ := hi i.val (by have := i.isLt; omega)
      obtain ⟨_, hcl, _⟩ := World.cells?_some hc'
      obtain ⟨o, rfl, ho⟩ := hel _ _ _ ht' hcl
      exact ⟨o, hc', ho⟩
    obtain ⟨f, hf'⟩ := Classical.axiomOfChoice hall
    obtain ⟨b, off, spot⟩ := x
    by_cases hl0 : l = 0
    · subst hl0
      exact ⟨_, 0, _, 0, 0, [], hcs, RowsAt.nil rfl rfl, fun o ho => by simp at ho⟩
    · have hz := (World.cells?_some (hf' ⟨0, by omega⟩).1).2.2 0 h0
      have hz2 : (en (f ⟨0, by omega⟩))[0]? = some ((en (f ⟨0, by omega⟩))[0]'(by rw [hsz]; exact h0)) := List.getElem?_eq_getElem _
      rw [hz2] at hz
      have hspot : spot = none := by simpa [Addr.add] using World.cell?_spot hz
      subst hspot
      have hblk : b < W.heap.size := by
        have := World.block_lt_of_cell? _ _ hz
        simpa [Addr.add] using this
      refine ⟨_, l, _, b, off, List.ofFn f, hcs, ⟨.inr rfl, List.length_ofFn, by omega, .inr hblk, fun i o hio j u hju => ?_, fun o ho => ?_⟩, fun o ho => ?_⟩
      · obtain ⟨hil, hio'⟩ := List.getElem?_eq_some_iff.1 hio
        rw [List.length_ofFn] at hil
        rw [List.getElem_ofFn] at hio'
        subst hio'
        have hj : j < sz := by rw [← hsz (f ⟨i, hil⟩)]; exact (List.getElem?_eq_some_iff.1 hju).1
        have hcs := (World.cells?_some (hf' ⟨i, hil⟩).1).2.2 j hj
        rw [hju] at hcs
        simpa only [addr_add] using hcs
      · rw [List.mem_ofFn] at ho
        obtain ⟨i, rfl⟩ := ho
        exact hRf _ (hf' i).2
      · rw [List.mem_ofFn] at ho
        obtain ⟨i, rfl⟩ := ho
        exact (hf' i).2
theorem ba_eq (s : ByteArray) : s = ⟨s.data⟩ := rfl
set_option maxRecDepth 100000 in
theorem var_of {n : Nat} {cs : List Value} {x : DataW H × List MemPlace} (h : DataW.trod enc Tryz.prog W 0 (fun _ => true) true n 40 cs = some x) (hl : cs.length = 2) : ∃ o : VarM, cs = encV o ∧ fitV o := by
  obtain ⟨xs, n, _, _, _, hxl, hf⟩ := DataW.trod_struct Tryz.underlying40 h
  match cs, hl with
  | [c0, c1], _ =>
  match xs, hxl with
  | [y0, y1], _ =>
  have h0 := hf 0 _ rfl
  have h1 := hf 1 _ rfl
  simp only [List.getElem?_cons_zero, List.getElem?_cons_succ] at h0 h1
  obtain ⟨s, hs, _, hsw⟩ := DataW.trod_string Tryz.underlying9 h0
  obtain ⟨k, hk, _, hkw⟩ := DataW.trod_int Tryz.underlying2 h1
  cases hs; cases hk
  exact ⟨⟨s, k⟩, rfl, hsw⟩
set_option maxRecDepth 100000 in
theorem arg_of {n : Nat} {cs : List Value} {x : DataW H × List MemPlace} (h : DataW.trod enc Tryz.prog W 0 (fun _ => true) true n 36 cs = some x) (hl : cs.length = 3) : ∃ (a b : Int) (s : ByteArray), cs = [.int .i64 a, .int .i64 b, .string s] ∧ s.size ≤ maxLen := by
  obtain ⟨xs, n, _, _, _, hxl, hf⟩ := DataW.trod_struct Tryz.underlying36 h
  match cs, hl with
  | [c0, c1, c2], _ =>
  match xs, hxl with
  | [y0, y1, y2], _ =>
  have h0 := hf 0 _ rfl
  have h1 := hf 1 _ rfl
  have h2 := hf 2 _ rfl
  simp only [List.getElem?_cons_zero, List.getElem?_cons_succ] at h0 h1 h2
  obtain ⟨k, hk, _, hkw⟩ := DataW.trod_int Tryz.underlying3 h0
  obtain ⟨m, hm, _, hmw⟩ := DataW.trod_int Tryz.underlying2 h1
  obtain ⟨s, hs, _, hsw⟩ := DataW.trod_string Tryz.underlying9 h2
  cases hk; cases hm; cases hs
  exact ⟨_, _, _, rfl, hsw⟩
set_option maxRecDepth 100000 in
theorem step_of {n : Nat} {cs : List Value} {x : DataW H × List MemPlace} (h : DataW.trod enc Tryz.prog W 0 (fun _ => true) true n 38 cs = some x) (hl : cs.length = 5) : ∃ o : StepM, cs = encS o ∧ fitS o := by
  obtain ⟨xs, n, _, _, _, hxl, hf⟩ := DataW.trod_struct Tryz.underlying38 h
  match cs, hl with
  | [c0, c1, c2, c3, c4], _ =>
  match xs, hxl with
  | [y0, y1, y2], _ =>
  have h0 := hf 0 _ rfl
  have h1 := hf 1 _ rfl
  have h2 := hf 2 _ rfl
  simp only [List.getElem?_cons_zero, List.getElem?_cons_succ] at h0 h1 h2
  obtain ⟨k, hk, _, hkw⟩ := DataW.trod_int Tryz.underlying3 h0
  obtain ⟨s, hs, _, hsw⟩ := DataW.trod_string Tryz.underlying9 h1
  obtain ⟨a, b, s2, ha, hsw2⟩ := arg_of (cs := [c2, c3, c4]) h2 rfl
  cases hk; cases hs; cases ha
  exact ⟨⟨k, s, a, b, s2⟩, rfl, hsw, hsw2⟩
set_option maxRecDepth 100000 in
theorem link_of {n : Nat} {cs : List Value} {x : DataW H × List MemPlace} (h : DataW.trod enc Tryz.prog W 0 (fun _ => true) true n 42 cs = some x) (hl : cs.length = 5) : ∃ o : LinkM, cs = encL o ∧ fitL o := by
  obtain ⟨xs, n, _, _, _, hxl, hf⟩ := DataW.trod_struct Tryz.underlying42 h
  match cs, hl with
  | [c0, c1, c2, c3, c4], _ =>
  match xs, hxl with
  | [y0, y1, y2, y3, y4], _ =>
  have h0 := hf 0 _ rfl
  have h1 := hf 1 _ rfl
  have h2 := hf 2 _ rfl
  have h3 := hf 3 _ rfl
  have h4 := hf 4 _ rfl
  simp only [List.getElem?_cons_zero, List.getElem?_cons_succ] at h0 h1 h2 h3 h4
  obtain ⟨a, ha, _, haw⟩ := DataW.trod_string Tryz.underlying9 h0
  obtain ⟨b, hb, _, hbw⟩ := DataW.trod_string Tryz.underlying9 h1
  obtain ⟨c, hc, _, hcw⟩ := DataW.trod_string Tryz.underlying9 h2
  obtain ⟨k, hk, _, hkw⟩ := DataW.trod_int Tryz.underlying2 h3
  obtain ⟨m, hm, _, hmw⟩ := DataW.trod_int Tryz.underlying2 h4
  cases ha; cases hb; cases hc; cases hk; cases hm
  exact ⟨⟨a, b, c, k, m⟩, rfl, haw, hbw, hcw⟩
set_option maxRecDepth 100000 in
theorem event_of {n : Nat} {cs : List Value} {x : DataW H × List MemPlace} (h : DataW.trod enc Tryz.prog W 0 (fun _ => true) true n 57 cs = some x) (hl : cs.length = 3) : ∃ o : EventM, cs = encE o ∧ fitE o := by
  obtain ⟨xs, n, _, _, _, hxl, hf⟩ := DataW.trod_struct Tryz.underlying57 h
  match cs, hl with
  | [c0, c1, c2], _ =>
  match xs, hxl with
  | [y0, y1, y2], _ =>
  have h0 := hf 0 _ rfl
  have h1 := hf 1 _ rfl
  have h2 := hf 2 _ rfl
  simp only [List.getElem?_cons_zero, List.getElem?_cons_succ] at h0 h1 h2
  obtain ⟨a, ha, _, haw⟩ := DataW.trod_string Tryz.underlying9 h0
  obtain ⟨k, hk, _, hkw⟩ := DataW.trod_int Tryz.underlying2 h1
  obtain ⟨m, hm, _, hmw⟩ := DataW.trod_int Tryz.underlying2 h2
  cases ha; cases hk; cases hm
  exact ⟨⟨a, k, m⟩, rfl, haw⟩
theorem cellsV : Tryz.prog.cellsOf 40 = 2 := by kernel_rfl
theorem cellsS : Tryz.prog.cellsOf 38 = 5 := by kernel_rfl
theorem cellsL : Tryz.prog.cellsOf 42 = 5 := by kernel_rfl
theorem cellsE : Tryz.prog.cellsOf 57 = 3 := by kernel_rfl
theorem cellsP : Tryz.prog.cellsOf 34 = 4 := by kernel_rfl
theorem cellsM : Tryz.prog.cellsOf 26 = 4 := by kernel_rfl
set_option maxRecDepth 100000 in
theorem proc_of {n : Nat} {cs : List Value} {x : DataW H × List MemPlace} (h : DataW.trod enc Tryz.prog W 0 (fun _ => true) true n 34 cs = some x) (hl : cs.length = 4) : ∃ o : ProcV, cs = encP o ∧ fitP o ∧ ProcIn W.heap.size W o := by
  obtain ⟨xs, n, _, _, _, hxl, hf⟩ := DataW.trod_struct Tryz.underlying34 h
  match cs, hl with
  | [c0, c1, c2, c3], _ =>
  match xs, hxl with
  | [y0, y1, y2, y3], _ =>
  have h0 := hf 0 _ rfl
  have h1 := hf 1 _ rfl
  have h2 := hf 2 _ rfl
  have h3 := hf 3 _ rfl
  simp only [List.getElem?_cons_zero, List.getElem?_cons_succ] at h0 h1 h2 h3
  obtain ⟨s, hs, _, hsw⟩ := DataW.trod_string Tryz.underlying9 h0
  obtain ⟨k, hk, _, hkw⟩ := DataW.trod_int Tryz.underlying2 h1
  obtain ⟨va, vl, vc, vb, vo, L, hv, hV, _⟩ := open_rows (cs := [c2]) Tryz.underlying31 cellsV (fun _ => rfl) (by decide) (fun n cs x => var_of) (fun _ h => h) h2
  obtain ⟨sa, sl, sc, sb, so, S, hs2, hS, _⟩ := open_rows (cs := [c3]) Tryz.underlying32 cellsS (fun _ => rfl) (by decide) (fun n cs x => step_of) (fun _ h => h) h3
  cases hs; cases hk; cases hv; cases hs2
  obtain rfl := hV.length
  obtain rfl := hS.length
  exact ⟨⟨⟨s, k, L, S⟩, va, vb, vo, vc, sa, sb, so, sc⟩, rfl, hsw, hV, hS⟩
set_option maxRecDepth 100000 in
theorem open_model {base : Nat} {v : Value} {d : DataW H} {p : List MemPlace} (hval : Value.okWide Tryz.prog W .any base 26 v)
    (h : DataW.Trod enc Tryz.prog W 0 (fun _ => true) true 26 v d p) : ∃ x : ModelV, v = .agg #[.int .i64 x.ver, .slice x.pa x.procs.length x.pc, .slice x.la x.links.length x.lc, .slice x.ea x.events.length x.ec] ∧ ModelAt W.heap.size W x ∧ (Lit.int .i64 x.ver).wf = true := by
  unfold Value.okWide at hval
  rw [Tryz.underlying26] at hval
  obtain ⟨cs, rfl, hz, _⟩ := hval
  obtain ⟨fuel, hf⟩ := h
  obtain ⟨xs, n, _, _, hl, hxl, hi⟩ := DataW.trod_struct Tryz.underlying26 hf
  rw [cellsM] at hl hz
  obtain ⟨cs⟩ := cs
  match cs, hz with
  | [c0, c1, c2, c3], _ =>
  match xs, hxl with
  | [y0, y1, y2, y3], _ =>
  have h0 := hi 0 _ rfl
  have h1 := hi 1 _ rfl
  have h2 := hi 2 _ rfl
  have h3 := hi 3 _ rfl
  simp only [List.getElem?_cons_zero, List.getElem?_cons_succ] at h0 h1 h2 h3
  obtain ⟨k, hk, _, hkw⟩ := DataW.trod_int Tryz.underlying3 (cs := [c0]) h0
  obtain ⟨pa, pl, pc, pb, po, P, hp, hP, hPi⟩ := open_rows (cs := [c1]) (fit := fitP) Tryz.underlying22 cellsP (fun _ => rfl) (by decide) (fun n cs x => proc_of) (fun _ h => h.1) h1
  obtain ⟨la, ll, lc, lb, lo, L, hl', hL, _⟩ := open_rows (cs := [c2]) Tryz.underlying23 cellsL (fun _ => rfl) (by decide) (fun n cs x => link_of) (fun _ h => h) h2
  obtain ⟨ea, el, ec, eb, eo, E, he, hE, _⟩ := open_rows (cs := [c3]) Tryz.underlying24 cellsE (fun _ => rfl) (by decide) (fun n cs x => event_of) (fun _ h => h) h3
  cases hk; cases hp; cases hl'; cases he
  obtain rfl := hP.length
  obtain rfl := hL.length
  obtain rfl := hE.length
  exact ⟨⟨k, P, L, E, pa, pb, po, pc, la, lb, lo, lc, ea, eb, eo, ec⟩, rfl, ⟨hP, fun p hp => (hPi p hp).2, hL, hE⟩, hkw⟩
end
end Go.Proofs.YtjcmeacgfflfmaaGreat.Md
