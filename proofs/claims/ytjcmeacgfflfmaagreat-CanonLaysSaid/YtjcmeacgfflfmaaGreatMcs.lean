/- Contract: slices.Clone of steps. -/
import Derived.Test.YtjcmeacgfflfmaaGreatMrw
set_option linter.unusedVariables false
set_option linter.unusedSectionVars false
set_option linter.unusedSimpArgs false
namespace Go.Proofs.YtjcmeacgfflfmaaGreat.Md
open Go.RowKit Go.Shelf

set_option maxRecDepth 100000 in
set_option maxHeartbeats 2000000 in
theorem cloneS_any {w : World} {a : Option Addr} {b off len cap : Nat} {L : List StepM} (h : RowsAt encS fitS 5 w.heap.size w a b off len L) (hl : len ≤ 100000) : Calls Tryz.prog 38 #[.slice a len cap] w (CloneQ encS fitS 5 38 w len L) := by
  have heq := fun (w : World) => run_eql_slice_nil (P := Tryz.prog) w 32 38 a len cap Tryz.underlying32
  cases a with
  | none =>
    have hz : len = 0 := h.addr.resolve_right (by simp)
    subst hz
    have hL : L = [] := List.eq_nil_of_length_eq_zero h.length
    subst hL
    clear h
    go_enter Tryz.func38, Tryz.ntmps38
    go_wp2
    go_ret
    exact ⟨none, 0, 0, rfl, ⟨.inl rfl, Nat.zero_le _, fun x hx => by simp at hx⟩, Below.refl _ _⟩
  | some ad =>
    have HB := Lib.hid (below_one w (.cells #[] 38))
    by_cases hz : len = 0
    · subst hz
      have hL : L = [] := List.eq_nil_of_length_eq_zero h.length
      subst hL
      clear h
      obtain ⟨i0, hi, hz0, hz1, hz2⟩ := info_parts Tryz.infoS
      have HI := Lib.hid hi
      clear hi hz0 hz1 hz2
      go_enter Tryz.func38, Tryz.ntmps38
      go_wp2_with (at_builtin; refine wpList_append_zero rfl _ _ 32 rfl 38 i0 Tryz.underlying32 HI.out ⟨w.heap.size, 0, none⟩ rfl (some ad) cap rfl ?_)
      go_ret
      exact ⟨some ⟨w.heap.size, 0, none⟩, 0, 0, rfl, ⟨.inl rfl, Nat.zero_le _, fun x hx => by simp at hx⟩, HB.out⟩
    · obtain rfl : ad = ⟨b, off, none⟩ := by have := h.addr.resolve_left hz; simpa using this
      obtain ⟨i0, hi, hz0, hz1, hz2⟩ := info_parts Tryz.infoS
      have HI := Lib.hid hi
      have HZ0 := Lib.hid hz0
      have HZ1 := Lib.hid hz1
      have HZ2 := Lib.hid hz2
      have HR := Lib.hid h
      obtain rfl := h.length
      have h0 : 0 < L.length := by omega
      have HC := Lib.hid (rows_cells (enc := encS) (fun _ => rfl) (h.on HB.out))
      clear hi hz0 hz1 hz2 h
      go_enter Tryz.func38, Tryz.ntmps38
      go_wp2_with (at_builtin; go_loud (refine wpList_append_gathP _ rfl _ _ 32 rfl (w.heap.size + 1) 38 i0 (.agg zS) 5 56 Tryz.underlying32 HI.out HZ0.out HZ1.out HZ2.out rfl (by decide) (.slice (some ⟨w.heap.size, 0, none⟩) 0 0) 0 [] rfl (.inl ⟨rfl, rfl, _, rfl⟩) ⟨b, off, none⟩ L.length cap (L.flatMap encS) rfl (flat_lenU (enc := encS) (sz := 5) (fun _ => rfl) _) HC.out (oneSU _) h0 (by unfold maxLen; omega) (by omega) (by simp) ?_); intro v' w5 row hown hg hrow; rw [Nat.zero_add, List.nil_append] at hown; obtain ⟨g, cp, rfl, hgb, hrc⟩ := rowc_owned (enc := encS) (fun _ => rfl) hown rfl h0; have HQ : Hid (CloneQ encS fitS 5 38 w L.length L (.returned (.slice (some ⟨g, 0, none⟩) L.length cp)) w5) := Lib.hid ⟨_, g, _, rfl, ⟨.inr ⟨rfl, by omega, hrc⟩, HR.out.small, HR.out.fits⟩, HB.out.grown hg (by simp) (fun r e => by have := (hrow r e).2; omega)⟩; clear hown hg hrow hgb hrc)
      go_ret
      exact HQ.out
end Go.Proofs.YtjcmeacgfflfmaaGreat.Md
