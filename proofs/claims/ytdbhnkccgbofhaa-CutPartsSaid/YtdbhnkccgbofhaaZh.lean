/- An argument of a statement: a list of joins. -/
import Derived.Test.YtdbhnkccgbofhaaBo
set_option linter.unusedVariables false
namespace Go.Proofs.Ytdbhnkccgbofhaa.L09
open Go.RowKit Go.ChangeShapes Go.WideShapes Go.Deep

theorem cellsRop : Try.prog.cellsOf 76 = 3 := by kernel_rfl
set_option maxRecDepth 100000 in
theorem rop_of {H : Type} {enc : TypeId × Value → H} {W : World} {fuel : Nat} {cs : List Value} {x : DataW H × List MemPlace} {spare : Nat → Bool} {held : Bool} {base : Nat}
    (h : DataW.trod enc Try.prog W base spare held fuel 76 cs = some x) (hl : cs.length = 3) :
    ∃ o : RopV, cs = [.int .i64 o.kind, .int .i64 o.key, .int .i64 o.n] ∧ o.ok := by
  obtain ⟨xs, n, _, _, _, hxl, hf⟩ := DataW.trod_struct Try.underlying76 h
  match cs, hl with
  | [c0, c1, c2], _ =>
  match xs, hxl with
  | [y0, y1, y2], _ =>
  have h0 := hf 0 _ rfl
  have h1 := hf 1 _ rfl
  have h2 := hf 2 _ rfl
  simp only [List.getElem?_cons_zero, List.getElem?_cons_succ] at h0 h1 h2
  obtain ⟨k, hk, _, hkw⟩ := DataW.trod_int Try.underlying3 h0
  obtain ⟨m, hm, _, hmw⟩ := DataW.trod_int Try.underlying3 h1
  obtain ⟨s, hs, _, hsw⟩ := DataW.trod_int Try.underlying2 h2
  cases hk; cases hm; cases hs
  exact ⟨⟨k, m, s⟩, rfl, bounds_i64 hkw, bounds_i64 hmw, bounds_i64 hsw⟩
set_option maxRecDepth 100000 in
theorem open_rops {H : Type} {enc : TypeId × Value → H} {W : World} {a : Option Addr} {len cap : Nat} {d : DataW H} {p : List MemPlace}
    (h : DataW.Trod enc Try.prog W 0 (fun _ => true) true 23 (.slice a len cap) d p) : ∃ ops, IsRops W a len cap ops := by
  obtain ⟨fuel, hf⟩ := h
  rcases open_slice Try.underlying23 hf with ⟨hcs, _⟩ | ⟨x, l, c, m, n, D, Pl, hcs, hb, hl, hm, hmm, hx, hi⟩
  · simp [Value.cells] at hcs
    obtain ⟨rfl, rfl, rfl⟩ := hcs
    exact ⟨[], Nat.le_refl _, 0, 0, .inl rfl, rfl, Nat.zero_le _, .inl rfl, fun i o hi => by simp at hi, fun o ho => by simp at ho⟩
  · simp [Value.cells] at hcs
    obtain ⟨rfl, rfl, rfl⟩ := hcs
    rw [if_pos rfl] at hmm
    subst hmm
    rw [cellsRop] at hi
    have hall : ∀ i : Fin len, ∃ o : RopV, W.cells? 0 (x.add (i.val * 3)) 3 = some [.int .i64 o.kind, .int .i64 o.key, .int .i64 o.n] ∧ o.ok := by
      intro i
      obtain ⟨cs', hc, ht⟩ := hi i.val (by have := i.isLt; omega)
      obtain ⟨_, hcl, _⟩ := World.cells?_some hc
      obtain ⟨o, rfl, ho⟩ := rop_of ht hcl
      exact ⟨o, hc, ho⟩
    obtain ⟨f, hf'⟩ := Classical.axiomOfChoice hall
    obtain ⟨b, off, spot⟩ := x
    by_cases h0 : len = 0
    · subst h0
      exact ⟨[], hl, b, off, .inl rfl, rfl, Nat.zero_le _, .inl rfl, fun i o hi => by simp at hi, fun o ho => by simp at ho⟩
    · have hc00 := (World.cells?_some (hf' ⟨0, by omega⟩).1).2.2 0 (by decide)
      have hspot : spot = none := by simpa [Addr.add] using World.cell?_spot hc00
      subst hspot
      have hblk : b < W.heap.size := by
        have := World.block_lt_of_cell? _ _ hc00
        simpa [Addr.add] using this
      refine ⟨List.ofFn f, hl, b, off, .inr rfl, List.length_ofFn, by omega, .inr hblk, fun i o hio => ?_, fun o ho => ?_⟩
      · obtain ⟨hil, hio'⟩ := List.getElem?_eq_some_iff.1 hio
        rw [List.length_ofFn] at hil
        rw [List.getElem_ofFn] at hio'
        subst hio'
        have hcs := (World.cells?_some (hf' ⟨i, hil⟩).1).2.2
        have e0 := hcs 0 (by decide)
        have e1 := hcs 1 (by decide)
        have e2 := hcs 2 (by decide)
        simp only [addr_add] at e0 e1 e2
        exact ⟨e0, e1, e2⟩
      · rw [List.mem_ofFn] at ho
        obtain ⟨i, rfl⟩ := ho
        exact (hf' i).2
end Go.Proofs.Ytdbhnkccgbofhaa.L09
