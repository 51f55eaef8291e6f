/- Contract: a node over another. -/
import Derived.Test.YtjpgkocffceeoaaGb
set_option linter.unusedVariables false
set_option linter.unusedSectionVars false
namespace Go.Proofs.Ytjpgkocffceeoaa
open Go.RowKit Rk

/-- Behind a turn of two nodes: u over n, whose other side was l2. -/
structure Over0 (S : Nat → Prop) (bu bn : Nat) (k1 v1 k2 v2 : Int) (pr1 : Option Addr) (l2 l1 r1 : T Int Int) (w : World) (e : Ending) (w' : World) : Prop where
  val : e = .returned (.pointer (some ⟨bu, 0, none⟩))
  turned : Turned (fun i => i = bu ∨ i = bn) w w'
  up : Raw w' bu k1 v1 (((T.node l2 k2 v2 l1).count + 1 + r1.count : Nat) : Int) (some ⟨bn, 0, none⟩) pr1
  low : IsT (fun c => S c ∨ c = bn) w' (some ⟨bn, 0, none⟩) (.node l2 k2 v2 l1)
  side : IsT S w' pr1 r1
structure Over1 (S : Nat → Prop) (bu bn : Nat) (k1 v1 k2 v2 : Int) (pl1 : Option Addr) (l1 r1 r2 : T Int Int) (w : World) (e : Ending) (w' : World) : Prop where
  val : e = .returned (.pointer (some ⟨bu, 0, none⟩))
  turned : Turned (fun i => i = bu ∨ i = bn) w w'
  up : Raw w' bu k1 v1 ((l1.count + 1 + (T.node r1 k2 v2 r2).count : Nat) : Int) pl1 (some ⟨bn, 0, none⟩)
  low : IsT (fun c => S c ∨ c = bn) w' (some ⟨bn, 0, none⟩) (.node r1 k2 v2 r2)
  side : IsT S w' pl1 l1

set_option maxRecDepth 100000 in
set_option maxHeartbeats 2000000 in
theorem over0_any {S : Nat → Prop} {w : World} {bu bn : Nat} {k1 v1 s1 k2 v2 s2 : Int} {pl1 pr1 pl2 pr2 : Option Addr} {l1 r1 l2 : T Int Int} (hu : Raw w bu k1 v1 s1 pl1 pr1) (hn : Raw w bn k2 v2 s2 pl2 pr2) (hne : bu ≠ bn)
    (h1 : IsT S w pl1 l1) (h2 : IsT S w pr1 r1) (h3 : IsT S w pl2 l2) (hS : ∀ c, S c → c ≠ bu ∧ c ≠ bn) (hs : l1.count + r1.count + l2.count ≤ 900000) :
    Calls Try.prog 98 #[.pointer (some ⟨bu, 0, none⟩), .pointer (some ⟨bn, 0, none⟩), .int .i64 0] w (Over0 S bu bn k1 v1 k2 v2 pr1 l2 l1 r1 w) := by
  obtain ⟨c0, c1, c2, c3, c4⟩ := hu.cells
  obtain ⟨d0, d1, d2, d3, d4⟩ := hn.cells
  have hfn := hn.frozen 4
  have hfu := hu.frozen 3
  have HU := Lib.hid hu
  have HN := Lib.hid hn
  have H1 := Lib.hid h1
  have H2 := Lib.hid h2
  have H3 := Lib.hid h3
  have HS := Lib.hid hS
  have HNE := Lib.hid hne
  clear hu hn h1 h2 h3 hS hne
  have hw1 : IntKind.i64.wrap 1 = 1 := by decide
  have hw0 : IntKind.i64.wrap 0 = 0 := by decide
  go_enter Try.func98, Try.ntmps98
  go_wp2
  go_still_tail 12, (by kernel_rfl)
  change wpList _ _ _ _ _ w.drew
  go_wp2
  have t2 : Turned (fun i => i = bu ∨ i = bn) w ((w.setCell ⟨bn, 4, none⟩ (.pointer pl1)).drew) := ((Turned.set w bn _ _).trans (Turned.drewN _ _ 1)).weak (fun i _ h => .inr h)
  have n2 : Raw ((w.setCell ⟨bn, 4, none⟩ (.pointer pl1)).drew) bn k2 v2 s2 pl2 pl1 := Raw.right_set (W := w) HN.out _
  have u2 : Raw ((w.setCell ⟨bn, 4, none⟩ (.pointer pl1)).drew) bu k1 v1 s1 pl1 pr1 := Raw.other_set (W := w) HU.out HNE.out _ _
  revert t2 n2 u2
  generalize (w.setCell ⟨bn, 4, none⟩ (.pointer pl1)).drew = w2
  intro t2 n2 u2
  have tt : ∀ {p : Option Addr} {t : T Int Int}, IsT S w p t → IsT S w2 p t := fun h => h.turned t2 (fun c _ hc e => by have := HS.out c hc; rcases e with e | e <;> omega)
  have i1 := tt H1.out
  have i2 := tt H2.out
  have i3 := tt H3.out
  have HC := Lib.hid (counted_any (w := w2.drew) (b := bn) n2 (i3.drawn _) (i1.drawn _) (by omega))
  have T2 := Lib.hid t2
  have U2 := Lib.hid u2
  have I1 := Lib.hid i1
  have I2 := Lib.hid i2
  have I3 := Lib.hid i3
  clear t2 n2 u2 tt i1 i2 i3 c0 c1 c2 c3 c4 d0 d1 d2 d3 d4 hfn hfu
  go_region_with ((go_at_call 97; refine HC.out.mono ?_; rintro e w3 ⟨rfl, t3, n3⟩; have t3' : Turned (fun i => i = bn) w2 w3 := (Turned.drewN _ w2 1).trans t3; have u3 := U2.out.turned t3' HNE.out; obtain ⟨c0, c1, c2, c3, c4⟩ := u3.cells; have hfu := u3.frozen 3; have T3 := Lib.hid t3'; have U3 := Lib.hid u3; have N3 := Lib.hid n3; clear t3 t3' u3 n3))
  have t4 : Turned (fun i => i = bu) w3 (w3.setCell ⟨bu, 3, none⟩ (.pointer (some ⟨bn, 0, none⟩))) := Turned.set _ _ _ _
  have u4 : Raw (w3.setCell ⟨bu, 3, none⟩ (.pointer (some ⟨bn, 0, none⟩))) bu k1 v1 s1 (some ⟨bn, 0, none⟩) pr1 := U3.out.left_set _
  have n4 := N3.out.turned t4 (fun e => HNE.out e.symm)
  have t24 : Turned (fun i => i = bu ∨ i = bn) w2 (w3.setCell ⟨bu, 3, none⟩ (.pointer (some ⟨bn, 0, none⟩))) := (T3.out.weak (fun i _ h => .inr h)).trans (t4.weak (fun i _ h => .inl h))
  revert t4 u4 n4 t24
  generalize w3.setCell ⟨bu, 3, none⟩ (.pointer (some ⟨bn, 0, none⟩)) = w4
  intro t4 u4 n4 t24
  have tt : ∀ {p : Option Addr} {t : T Int Int}, IsT S w2 p t → IsT S w4 p t := fun h => h.turned t24 (fun c _ hc e => by have := HS.out c hc; rcases e with e | e <;> omega)
  have i1 := tt I1.out
  have i2 := tt I2.out
  have i3 := tt I3.out
  have low : IsT (fun c => S c ∨ c = bn) w4 (some ⟨bn, 0, none⟩) (.node l2 k2 v2 l1) := IsT.node (.inr rfl) n4 (i3.mono (fun _ _ h => .inl h)) (i1.mono (fun _ _ h => .inl h))
  have HCu := Lib.hid (counted_any u4 low i2 (by simp only [T.count]; omega))
  have T4 := Lib.hid (T2.out.trans t24)
  have LOW := Lib.hid low
  have I2' := Lib.hid i2
  clear t4 u4 n4 t24 tt i1 i2 i3 low c0 c1 c2 c3 c4 hfu
  go_wp2_with fail
  refine HCu.out.mono ?_
  rintro e w5 ⟨rfl, t5, u5⟩
  have END : Over0 S bu bn k1 v1 k2 v2 pr1 l2 l1 r1 w (.returned (.pointer (some ⟨bu, 0, none⟩))) w5 :=
    ⟨rfl, T4.out.trans (t5.weak (fun i _ h => .inl h)), u5, LOW.out.turned t5 (fun c _ hc e => by rcases hc with hc | hc; (exact (HS.out c hc).1 e); (subst hc; exact HNE.out e.symm)), I2'.out.turned t5 (fun c _ hc e => (HS.out c hc).1 e)⟩
  have HEND := Lib.hid END
  clear END t5 u5
  go_wp2
  go_ret
  exact HEND.out

set_option maxRecDepth 100000 in
set_option maxHeartbeats 2000000 in
theorem over1_any {S : Nat → Prop} {w : World} {bu bn : Nat} {k1 v1 s1 k2 v2 s2 : Int} {pl1 pr1 pl2 pr2 : Option Addr} {l1 r1 r2 : T Int Int} (hu : Raw w bu k1 v1 s1 pl1 pr1) (hn : Raw w bn k2 v2 s2 pl2 pr2) (hne : bu ≠ bn)
    (h1 : IsT S w pl1 l1) (h2 : IsT S w pr1 r1) (h3 : IsT S w pr2 r2) (hS : ∀ c, S c → c ≠ bu ∧ c ≠ bn) (hs : l1.count + r1.count + r2.count ≤ 900000) :
    Calls Try.prog 98 #[.pointer (some ⟨bu, 0, none⟩), .pointer (some ⟨bn, 0, none⟩), .int .i64 1] w (Over1 S bu bn k1 v1 k2 v2 pl1 l1 r1 r2 w) := by
  obtain ⟨c0, c1, c2, c3, c4⟩ := hu.cells
  obtain ⟨d0, d1, d2, d3, d4⟩ := hn.cells
  have hfn := hn.frozen 3
  have hfu := hu.frozen 4
  have HU := Lib.hid hu
  have HN := Lib.hid hn
  have H1 := Lib.hid h1
  have H2 := Lib.hid h2
  have H3 := Lib.hid h3
  have HS := Lib.hid hS
  have HNE := Lib.hid hne
  clear hu hn h1 h2 h3 hS hne
  have hw1 : IntKind.i64.wrap 1 = 1 := by decide
  have hw0 : IntKind.i64.wrap 0 = 0 := by decide
  go_enter Try.func98, Try.ntmps98
  go_wp2
  go_still_tail 12, (by kernel_rfl)
  change wpList _ _ _ _ _ w.drew
  go_wp2
  have t2 : Turned (fun i => i = bu ∨ i = bn) w ((w.setCell ⟨bn, 3, none⟩ (.pointer pr1)).drew) := ((Turned.set w bn _ _).trans (Turned.drewN _ _ 1)).weak (fun i _ h => .inr h)
  have n2 : Raw ((w.setCell ⟨bn, 3, none⟩ (.pointer pr1)).drew) bn k2 v2 s2 pr1 pr2 := Raw.left_set (W := w) HN.out _
  have u2 : Raw ((w.setCell ⟨bn, 3, none⟩ (.pointer pr1)).drew) bu k1 v1 s1 pl1 pr1 := Raw.other_set (W := w) HU.out HNE.out _ _
  revert t2 n2 u2
  generalize (w.setCell ⟨bn, 3, none⟩ (.pointer pr1)).drew = w2
  intro t2 n2 u2
  have tt : ∀ {p : Option Addr} {t : T Int Int}, IsT S w p t → IsT S w2 p t := fun h => h.turned t2 (fun c _ hc e => by have := HS.out c hc; rcases e with e | e <;> omega)
  have i1 := tt H1.out
  have i2 := tt H2.out
  have i3 := tt H3.out
  have HC := Lib.hid (counted_any (w := w2.drew) (b := bn) n2 (i2.drawn _) (i3.drawn _) (by omega))
  have T2 := Lib.hid t2
  have U2 := Lib.hid u2
  have I1 := Lib.hid i1
  have I2 := Lib.hid i2
  have I3 := Lib.hid i3
  clear t2 n2 u2 tt i1 i2 i3 c0 c1 c2 c3 c4 d0 d1 d2 d3 d4 hfn hfu
  go_region_with ((go_at_call 97; refine HC.out.mono ?_; rintro e w3 ⟨rfl, t3, n3⟩; have t3' : Turned (fun i => i = bn) w2 w3 := (Turned.drewN _ w2 1).trans t3; have u3 := U2.out.turned t3' HNE.out; obtain ⟨c0, c1, c2, c3, c4⟩ := u3.cells; have hfu := u3.frozen 4; have T3 := Lib.hid t3'; have U3 := Lib.hid u3; have N3 := Lib.hid n3; clear t3 t3' u3 n3))
  have t4 : Turned (fun i => i = bu) w3 (w3.setCell ⟨bu, 4, none⟩ (.pointer (some ⟨bn, 0, none⟩))) := Turned.set _ _ _ _
  have u4 : Raw (w3.setCell ⟨bu, 4, none⟩ (.pointer (some ⟨bn, 0, none⟩))) bu k1 v1 s1 pl1 (some ⟨bn, 0, none⟩) := U3.out.right_set _
  have n4 := N3.out.turned t4 (fun e => HNE.out e.symm)
  have t24 : Turned (fun i => i = bu ∨ i = bn) w2 (w3.setCell ⟨bu, 4, none⟩ (.pointer (some ⟨bn, 0, none⟩))) := (T3.out.weak (fun i _ h => .inr h)).trans (t4.weak (fun i _ h => .inl h))
  revert t4 u4 n4 t24
  generalize w3.setCell ⟨bu, 4, none⟩ (.pointer (some ⟨bn, 0, none⟩)) = w4
  intro t4 u4 n4 t24
  have tt : ∀ {p : Option Addr} {t : T Int Int}, IsT S w2 p t → IsT S w4 p t := fun h => h.turned t24 (fun c _ hc e => by have := HS.out c hc; rcases e with e | e <;> omega)
  have i1 := tt I1.out
  have i2 := tt I2.out
  have i3 := tt I3.out
  have low : IsT (fun c => S c ∨ c = bn) w4 (some ⟨bn, 0, none⟩) (.node r1 k2 v2 r2) := IsT.node (.inr rfl) n4 (i2.mono (fun _ _ h => .inl h)) (i3.mono (fun _ _ h => .inl h))
  have HCu := Lib.hid (counted_any u4 i1 low (by simp only [T.count]; omega))
  have T4 := Lib.hid (T2.out.trans t24)
  have LOW := Lib.hid low
  have I1' := Lib.hid i1
  clear t4 u4 n4 t24 tt i1 i2 i3 low c0 c1 c2 c3 c4 hfu
  go_wp2_with fail
  refine HCu.out.mono ?_
  rintro e w5 ⟨rfl, t5, u5⟩
  have END : Over1 S bu bn k1 v1 k2 v2 pl1 l1 r1 r2 w (.returned (.pointer (some ⟨bu, 0, none⟩))) w5 :=
    ⟨rfl, T4.out.trans (t5.weak (fun i _ h => .inl h)), u5, LOW.out.turned t5 (fun c _ hc e => by rcases hc with hc | hc; (exact (HS.out c hc).1 e); (subst hc; exact HNE.out e.symm)), I1'.out.turned t5 (fun c _ hc e => (HS.out c hc).1 e)⟩
  have HEND := Lib.hid END
  clear END t5 u5
  go_wp2
  go_ret
  exact HEND.out
end Go.Proofs.Ytjpgkocffceeoaa
