/- Contract: layer 12's example. -/
import Derived.Test.YtepmgjohjeiopaaXk
import Derived.Test.YtepmgjohjeiopaaXb
set_option linter.unusedVariables false
set_option linter.unusedSectionVars false
namespace Go.Proofs.Ytepmgjohjeiopaa
open Go.RowKit Go.Shelf Rk

theorem IsRow.zz {k : IntKind} {w : World} {a : Option Addr} {len cap : Nat} {z : List Int} (h : IsRow k w a len cap z) : ∃ b off zs, IntsAt k w.heap.size w a b off len zs ∧ (a = none → len = 0 ∧ cap = 0) := by
  obtain ⟨b, off, hi⟩ := h.ints
  exact ⟨b, off, _, hi, fun e => by subst e; exact h.nil⟩
theorem ints_three (w : World) (a b c : Int) (ha : (Lit.int .i64 a).wf = true) (hb : (Lit.int .i64 b).wf = true) (hc : (Lit.int .i64 c).wf = true) (t : TypeId) : IntsAt .i64 (w.alloc (.cells #[.int .i64 a, .int .i64 b, .int .i64 c] t)).heap.size (w.alloc (.cells #[.int .i64 a, .int .i64 b, .int .i64 c] t)) (some ⟨w.heap.size, 0, none⟩) w.heap.size 0 3 [a, b, c] :=
  ⟨.inr rfl, rfl, by decide, .inr (by simp), fun i hi => by
    match i, hi with
    | 0, _ => exact heap_cell (heap_new _ rfl) rfl
    | 1, _ => exact heap_cell (heap_new _ rfl) rfl
    | 2, _ => exact heap_cell (heap_new _ rfl) rfl, fun n hn => by simp at hn; rcases hn with rfl | rfl | rfl <;> assumption⟩
theorem rops_one (w : World) (o : RopV) (ho : o.ok) (t : TypeId) : RopsAt (w.alloc (.cells #[.int .i64 o.kind, .int .i64 o.key, .int .i64 o.n] t)).heap.size (w.alloc (.cells #[.int .i64 o.kind, .int .i64 o.key, .int .i64 o.n] t)) (some ⟨w.heap.size, 0, none⟩) w.heap.size 0 1 [o] :=
  ⟨.inr rfl, rfl, by decide, .inr (by simp), fun i o' hi => by
    match i, hi with
    | 0, hi =>
      cases hi
      exact ⟨heap_cell (heap_new _ rfl) rfl, heap_cell (heap_new _ rfl) rfl, heap_cell (heap_new _ rfl) rfl⟩, fun n hn => by simp at hn; subst hn; exact ho⟩
theorem BothR.base {v w W : World} {g nb Bx lo : Nat} {X : XD} {zs : List Int} {F : Nat → Nat → Int} (h : BothR w g nb Bx lo X zs F W) (hb : Below v.heap.size v w) : BothR v g nb Bx lo X zs F W :=
  ⟨h.one, h.two, h.gw, h.box, hb.trans (h.below.mono hb.size)⟩
theorem wf_01 {x : Int} (h : x = 0 ∨ x = 1) : (Lit.int .i64 x).wf = true := by rcases h with rfl | rfl <;> decide
theorem halveI_any {w : World} {g nb : Nat} {ws : List Int} {F : Nat → Nat → Int} (h : IsG w g nb ws F) (hn30 : ws.length ≤ 30) (most : Int) (hm1 : -9223372036854775808 ≤ most) (hm2 : most ≤ 9223372036854775807) :
    Calls Try.prog 33 #[.pointer (some ⟨g, 0, none⟩), .int .i64 most] w fun e w' => ∃ pb, e = .returned (.slice (some ⟨pb, 0, none⟩) ws.length ws.length) ∧ IntsAt .i64 w'.heap.size w' (some ⟨pb, 0, none⟩) pb 0 ws.length (halveF ws ws.length F most) ∧ w.heap.size ≤ pb ∧ Below w.heap.size w w' :=
  (halve_any h hn30 most hm1 hm2).mono fun e w' ⟨pb, he, hp, hl, hb⟩ => ⟨pb, he, ints_rowC hp (by omega) (fun i hi => wf_01 (hv_01 _ i)), hl, hb⟩
theorem pull_lit {w : World} {g nb : Nat} {ws : List Int} {F : Nat → Nat → Int} {a : Option Addr} {mb off len cap : Nat} {ms : List Int} {v : Int} (h : IsG w g nb ws F) (hn30 : ws.length ≤ 30) (hm : IntsAt .i64 w.heap.size w a mb off len ms) (i : Int) (hv : pullA ws.length F ms i = v) :
    Calls Try.prog 35 #[.pointer (some ⟨g, 0, none⟩), .slice a len cap, .int .i64 i] w fun e w' => e = .returned (.int .i64 v) ∧ Below w.heap.size w w' := by
  subst hv; exact pull_any h hn30 hm i
theorem halve_lit {w : World} {g nb n : Nat} {ws ms : List Int} {F : Nat → Nat → Int} (h : IsG w g nb ws F) (hl : ws.length = n) (hn30 : n ≤ 30) (most : Int) (hm1 : -9223372036854775808 ≤ most) (hm2 : most ≤ 9223372036854775807) (hv : halveF ws n F most = ms) :
    Calls Try.prog 33 #[.pointer (some ⟨g, 0, none⟩), .int .i64 most] w fun e w' => ∃ pb, e = .returned (.slice (some ⟨pb, 0, none⟩) n n) ∧ IntsAt .i64 w'.heap.size w' (some ⟨pb, 0, none⟩) pb 0 n ms ∧ w.heap.size ≤ pb ∧ Below w.heap.size w w' := by
  subst hl hv
  exact halveI_any h hn30 most hm1 hm2
namespace L12
def aF : Nat → Nat → Int := joins 3 noTab [⟨0, 2, 3⟩]
/-- What lies in the example. -/
structure AlR (w : World) (g nb pb : Nat) (W : World) : Prop where
  one : IsG W g nb [1, 1, 1] aF
  part : IntsAt .i64 W.heap.size W (some ⟨pb, 0, none⟩) pb 0 3 [0, 1, 0]
  below : Below w.heap.size w W
theorem AlR.on {w W W' : World} {g nb pb : Nat} (h : AlR w g nb pb W) (hb : Below W.heap.size W W') : AlR w g nb pb W' := ⟨h.one.below hb, (h.part.kept hb (Nat.le_refl _)).mono hb.size, h.below.trans (hb.mono h.below.size)⟩
set_option maxRecDepth 100000 in
set_option maxHeartbeats 4000000 in
theorem alive_any (w : World) : Calls Try.prog 29 #[] w fun e w' => e = .returned (.bool true) ∧ Below w.heap.size w w' := by
  have hI := ints_three w 1 1 1 (by decide) (by decide) (by decide) 2
  have ha1 : Below w.heap.size w (w.alloc (.cells #[.int .i64 1, .int .i64 1, .int .i64 1] 2)) := (Below.refl _ w).alloc (Nat.le_refl _) _
  have ha2 := (Below.refl (w.alloc (.cells #[.int .i64 1, .int .i64 1, .int .i64 1] 2)).heap.size (w.alloc (.cells #[.int .i64 1, .int .i64 1, .int .i64 1] 2))).alloc (Nat.le_refl _) (.cells #[.int .i64 0, .int .i64 2, .int .i64 3] 98)
  have hBd := build_any (cap0 := 3) (cap1 := 1) ((hI.kept ha2 (Nat.le_refl _)).mono ha2.size) (fun e => by cases e) (rops_one (w.alloc (.cells #[.int .i64 1, .int .i64 1, .int .i64 1] 2)) ⟨0, 2, 3⟩ (by unfold RopV.ok; decide) 98)
  simp only [World.size_alloc] at hBd
  have HBd := Lib.hid hBd
  clear hBd
  have HB1 := Lib.hid (ha1.trans (ha2.mono ha1.size))
  clear hI ha1 ha2
  go_enter Try.func29, Try.ntmps29
  go_wp2_with fail
  refine HBd.out.mono ?_
  rintro e w3 ⟨hB, hc⟩
  rcases hc with ⟨h1, _⟩ | ⟨_, g, nb, lo, Bx, X, rfl, hR, _, _⟩
  · exact absurd h1 (by decide)
  have hR' := hR.base HB1.out
  have hal := (Below.refl w3.heap.size w3).alloc (Nat.le_refl _) (.cells #[.slice X.wa 3 X.wc, .slice X.ra 3 X.rc] 29)
  have HR := Lib.hid (hR'.on hal)
  clear hR hR' hB HBd HB1 hal
  unfold XD.val
  have HO : Hid (IsG (w3.alloc (.cells #[.slice X.wa 3 X.wc, .slice X.ra 3 X.rc] 29)) g nb [1, 1, 1] aF) := Lib.hid HR.out.one
  have HB4 := Lib.hid HR.out.below
  clear HR
  have C1 := Lib.hid (halve_lit (n := 3) (ms := [0, 1, 0]) HO.out rfl (by decide) 2 (by decide) (by decide) (by decide))
  have C2 : Hid (∀ W pb, AlR w g nb pb W → _) := Lib.hid (fun W pb (h : AlR w g nb pb W) => halve_lit (n := 3) (ms := [1, 1, 1]) h.one rfl (by decide) 0 (by decide) (by decide) (by decide))
  go_wp2_with fail
  refine C1.out.mono ?_
  rintro e w5 ⟨pb, rfl, hp, hpl, hb⟩
  have HA5 : Hid (AlR w g nb pb w5) := Lib.hid ⟨HO.out.below hb, hp, HB4.out.trans (hb.mono HB4.out.size)⟩
  clear hp hpl hb C1 HO HB4
  have HA6 := Lib.hid (HA5.out.on ((Below.refl w5.heap.size w5).alloc (Nat.le_refl _) (.cells #[.int .i64 0, .int .i64 1, .int .i64 0] 3)))
  have HS := Lib.hid (sameints_any (cap := 3) (cap' := 3) HA6.out.part (ints_three w5 0 1 0 (by decide) (by decide) (by decide) 3))
  rw [show decide ([(0 : Int), 1, 0] = [0, 1, 0]) = true by decide] at HS
  go_wp2_with fail
  refine HS.out.mono ?_
  rintro e w7 ⟨rfl, hb⟩
  have HA7 := Lib.hid (HA6.out.on hb)
  clear hb HS HA6 HA5
  have HP := Lib.hid (pull_lit (v := 3) (cap := 3) HA7.out.one (by decide) HA7.out.part 2 (by decide))
  go_wp2_with fail
  refine HP.out.mono ?_
  rintro e w8 ⟨rfl, hb⟩
  have HA8 := Lib.hid (HA7.out.on hb)
  clear hb HP HA7
  have HL := Lib.hid (lside_any (cap := 3) HA8.out.part (fun e => by cases e) (by decide) 0 9 (by decide))
  go_wp2_with fail
  refine HL.out.mono ?_
  rintro e w9 ⟨v, rfl, hg, hb⟩
  obtain ⟨a5, cap5, rfl⟩ := hg.slice
  have HA9 := Lib.hid (HA8.out.on hb)
  rw [show ((sideL [(0 : Int), 1, 0] 0 [(0 : Int), 1, 0].length).take (9 : Int).toNat).length = 2 by decide]
  clear hg hb HL HA8
  go_wp2_with fail
  refine (C2.out _ _ HA9.out).mono ?_
  rintro e w10 ⟨qb, rfl, hq, hql, hb⟩
  have HA10 := Lib.hid (HA9.out.on hb)
  have hal := (Below.refl w10.heap.size w10).alloc (Nat.le_refl _) (.cells #[.int .i64 1, .int .i64 1, .int .i64 1] 3)
  have HA11 := Lib.hid (HA10.out.on hal)
  have HS := Lib.hid (sameints_any (cap := 3) (cap' := 3) ((hq.kept hal (Nat.le_refl _)).mono hal.size) (ints_three w10 1 1 1 (by decide) (by decide) (by decide) 3))
  rw [show decide ([(1 : Int), 1, 1] = [1, 1, 1]) = true by decide] at HS
  clear hq hql hb hal HA10 HA9 C2
  go_wp2_with fail
  refine HS.out.mono ?_
  rintro e w12 ⟨rfl, hb⟩
  have HB12 := Lib.hid (HA11.out.on hb).below
  clear hb
  go_wp2
  go_ret
  exact ⟨rfl, HB12.out⟩
end L12
end Go.Proofs.Ytepmgjohjeiopaa
