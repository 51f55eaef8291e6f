/- Contract: what the reference has between two. -/
import Derived.Test.YtgidfgafnihblaaQa
set_option linter.unusedVariables false
set_option linter.unusedSectionVars false
namespace Go.Proofs.Ytgidfgafnihblaa
open Go.RowKit Rk

section
variable {W W' : World} {X : XD} {lo : Nat} {ws : List Int} {F : Nat → Nat → Int}
set_option maxHeartbeats 1000000 in
theorem xbetween_any (h : IsX W X lo ws F) (a b : Int) : Calls Try.prog 12 #[X.val ws.length, .int .i64 a, .int .i64 b] W fun e w' => e = .returned (.int .i64 (btw ws.length F a b)) ∧ Below W.heap.size W w' := by
  have hal : Below W.heap.size W (W.alloc (.cells #[.slice X.wa ws.length X.wc, .slice X.ra ws.length X.rc] 31)) := (Below.refl _ _).alloc (Nat.le_refl _) _
  have hXd : (W.alloc (.cells #[.slice X.wa ws.length X.wc, .slice X.ra ws.length X.rc] 31)).heap[W.heap.size]? = some (.cells #[.slice X.wa ws.length X.wc, .slice X.ra ws.length X.rc] 31 (0, 0)) := heap_new (w := W) _ rfl
  have HXD := Lib.hid hXd
  have HA := Lib.hid hal
  have HX := Lib.hid h
  have hsm := h.small
  have hT1 := fun (i : Int) (W : World) => xthere_any X ws.length i W
  unfold XD.val at hT1 ⊢
  have HT := Lib.hid hT1
  clear h hal hXd hT1
  cases ha : hasN ws.length a with
  | false =>
    have H : Hid (btw ws.length F a b = 0) := Lib.hid (by have := hasN_f ha; unfold btw; rw [if_neg (by omega)])
    have HH := Lib.hid ha
    clear ha
    go_enter Try.func12, Try.ntmps12
    go_wp2_with fail
    refine (HT.out a _).mono ?_
    rintro e w2 ⟨rfl, hb⟩
    have HB2 := Lib.hid (HA.out.trans (hb.mono HA.out.size))
    rw [HH.out]
    clear hb
    go_wp2
    go_ret
    exact ⟨ret1 H.out.symm, HB2.out⟩
  | true =>
    cases hb : hasN ws.length b with
    | false =>
      have H : Hid (btw ws.length F a b = 0) := Lib.hid (by have := hasN_f hb; unfold btw; rw [if_neg (by omega)])
      have HH := Lib.hid ha
      have HH2 := Lib.hid hb
      clear ha hb
      go_enter Try.func12, Try.ntmps12
      go_wp2_with fail
      refine (HT.out a _).mono ?_
      rintro e w2 ⟨rfl, hb⟩
      have HB2 := Lib.hid (HA.out.trans (hb.mono HA.out.size))
      have HXD2 := Lib.hid (heap_below HXD.out hb (heap_lt HXD.out))
      have z2 := HB2.out.size
      have d0 : w2.cell? ⟨W.heap.size, 0, none⟩ = some (.slice X.wa ws.length X.wc) := heap_cell HXD2.out rfl
      have d1 : w2.cell? ⟨W.heap.size, 1, none⟩ = some (.slice X.ra ws.length X.rc) := heap_cell HXD2.out rfl
      rw [HH.out]
      clear hb
      go_wp2_with fail
      refine (HT.out b _).mono ?_
      rintro e w3 ⟨rfl, hb⟩
      have HB3 := Lib.hid (HB2.out.trans (hb.mono z2))
      rw [HH2.out]
      clear hb d0 d1
      go_wp2
      go_ret
      exact ⟨ret1 H.out.symm, HB3.out⟩
    | true =>
      obtain ⟨i, rfl, hi⟩ := hasN_t ha
      obtain ⟨j, rfl, hj⟩ := hasN_t hb
      have H : Hid (btw ws.length F i j = F i j) := Lib.hid (btw_nat _ _ hi hj)
      have HH := Lib.hid ha
      have HH2 := Lib.hid hb
      have HRA := Lib.hid (HX.out.at_ hi).1
      clear ha hb
      go_enter Try.func12, Try.ntmps12
      go_wp2_with fail
      refine (HT.out i _).mono ?_
      rintro e w2 ⟨rfl, hb⟩
      have HB2 := Lib.hid (HA.out.trans (hb.mono HA.out.size))
      have HXD2 := Lib.hid (heap_below HXD.out hb (heap_lt HXD.out))
      have z2 := HB2.out.size
      have d0 : w2.cell? ⟨W.heap.size, 0, none⟩ = some (.slice X.wa ws.length X.wc) := heap_cell HXD2.out rfl
      have d1 : w2.cell? ⟨W.heap.size, 1, none⟩ = some (.slice X.ra ws.length X.rc) := heap_cell HXD2.out rfl
      rw [HH.out]
      clear hb
      go_wp2_with fail
      refine (HT.out j _).mono ?_
      rintro e w3 ⟨rfl, hb⟩
      have HB3 := Lib.hid (HB2.out.trans (hb.mono z2))
      have HXD3 := Lib.hid (heap_below HXD2.out hb (heap_lt HXD2.out))
      have HX3 := Lib.hid (HX.out.below HB3.out)
      obtain ⟨_, x1, x2⟩ := HX3.out.at_ hi
      have x3 := x2 j hj
      rw [HH2.out]
      clear hb d0 d1 x2
      have d0 : w3.cell? ⟨W.heap.size, 0, none⟩ = some (.slice X.wa ws.length X.wc) := heap_cell HXD3.out rfl
      have d1 : w3.cell? ⟨W.heap.size, 1, none⟩ = some (.slice (some ⟨X.rb, 0, none⟩) ws.length X.rc) := by rw [← HRA.out]; exact heap_cell HXD3.out rfl
      go_wp2
      go_ret
      exact ⟨ret1 H.out.symm, HB3.out⟩
end
end Go.Proofs.Ytgidfgafnihblaa
