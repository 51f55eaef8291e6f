/- Contract: model.Proc; all names of a model. -/
import Derived.Test.YtjcmeacgfflfmaaGreatMdK
import Derived.Test.YtjcmeacgfflfmaaGreatMrw
import Derived.Test.YtjcmeacgfflfmaaGreatSq
import Derived.Test.YtjcmeacgfflfmaaGreatBg
set_option linter.unusedVariables false
set_option linter.unusedSectionVars false
set_option linter.unusedSimpArgs false
namespace Go.Proofs.YtjcmeacgfflfmaaGreat.Md
open Go.RowKit Go.Shelf

theorem proc_at {w : World} {x : ModelV} (h : ModelAt w.heap.size w x) (y : ByteArray) : Calls Tryz.prog 25 #[.agg #[.int .i64 x.ver, .slice x.pa x.procs.length x.pc, .slice x.la x.links.length x.lc, .slice x.ea x.events.length x.ec], .string y] w fun e w' => e = .returned (.int .i64 (plcI (nmsP x.m) y)) ∧ Below w.heap.size w w' := by
  have HB := Lib.hid (below_one w (.cells #[.int .i64 x.ver, .slice x.pa x.procs.length x.pc, .slice x.la x.links.length x.lc, .slice x.ea x.events.length x.ec] 26))
  have HX := Lib.hid (place_P (cap := x.pc) (h.on HB.out).procs y)
  rw [nms_v] at HX
  clear h
  generalize plcI (nmsP x.m) y = r at *
  go_enter Tryz.func25, Tryz.ntmps25
  go_wp2_with fail
  refine HX.out.mono ?_
  rintro e w2 ⟨rfl, hb2⟩
  have HB2 := Lib.hid (HB.out.trans (hb2.mono HB.out.size))
  clear hb2 HX
  go_wp2
  go_ret
  exact ⟨rfl, HB2.out⟩
/-- All names of a process. -/
def prN (p : ProcM) : List ByteArray := p.name :: vNames p
/-- All names of a model. -/
def mdN (m : ModelM) : List ByteArray := m.procs.flatMap prN ++ nmsL m
def sv (xs : List ByteArray) : List Value := xs.map .string
theorem sv_snoc (xs : List ByteArray) (y : ByteArray) : sv (xs ++ [y]) = sv xs ++ [.string y] := by simp [sv]
theorem Tryz.infoStr : (Tryz.prog.info? 9).map (fun i => (i.zero, i.size, i.bytes)) = some (some (.string ⟨#[]⟩), 1, 16) := by kernel_rfl
theorem names_row {W : World} {base : Nat} {v : Value} {xs : List ByteArray} (h : Gath W base 9 1 v xs.length (sv xs)) : ∃ a c g, v = .slice a xs.length c ∧ (xs.length = 0 ∨ a = some ⟨g, 0, none⟩) ∧ (xs.length = 0 ∨ (base ≤ g ∧ g < W.heap.size)) ∧ ∀ i y, xs[i]? = some y → W.cell? ⟨g, i, none⟩ = some (.string y) := by
  rcases h with ⟨h1, _, ao, rfl⟩ | h
  · exact ⟨ao, 0, 0, by rw [h1], .inl h1, .inl h1, fun i y hi => by have := (List.getElem?_eq_some_iff.1 hi).1; omega⟩
  · rcases h.2 with ⟨rfl, h1⟩ | ⟨g, cap, cur, rfl, hb, hg, hnc, hcm, hcs, htake⟩
    · exact ⟨none, 0, 0, by rw [h1], .inl h1, .inl h1, fun i y hi => by have := (List.getElem?_eq_some_iff.1 hi).1; omega⟩
    · refine ⟨_, cap, g, rfl, .inr rfl, .inr ⟨hb, heap_lt hg⟩, fun i y hi => ?_⟩
      have h2 : (sv xs)[i]? = some (.string y) := by unfold sv; rw [List.getElem?_map, hi]; rfl
      have := h.cells (g := g) rfl i _ h2
      rw [Addr.add] at this
      split at this
      · rename_i h0
        have : i = 0 := by simpa using h0
        subst this
        assumption
      · simpa using this
end Go.Proofs.YtjcmeacgfflfmaaGreat.Md
