/- Contract: layer 10's example. -/
import Derived.Test.YtcmgmcooaljjdaaYa
import Derived.Test.YtcmgmcooaljjdaaYb
import Derived.Test.YtcmgmcooaljjdaaYg
import Derived.Test.YtcmgmcooaljjdaaYh
set_option linter.unusedVariables false
set_option linter.unusedSectionVars false
namespace Go.Proofs.Ytcmgmcooaljjdaa
open Go.RowKit Go.Shelf Rk

theorem heavy_lit {w : World} {g nb n : Nat} {ws ms : List Int} {F : Nat → Nat → Int} (h : IsG w g nb ws F) (hl : ws.length = n) (hv : heavyF n F = ms) :
    Calls Try.prog 14 #[.pointer (some ⟨g, 0, none⟩)] w fun e w' => ∃ pb, e = .returned (.slice (some ⟨pb, 0, none⟩) n n) ∧ IntsAt .i64 w'.heap.size w' (some ⟨pb, 0, none⟩) pb 0 n ms ∧ w.heap.size ≤ pb ∧ Below w.heap.size w w' := by
  subst hl hv
  exact heavy_any h
theorem mright_lit {B : Nat} {w : World} {a : Option Addr} {b off len cap : Nat} {ms : List Int} {v : Bool} (hm : IntsAt .i64 B w a b off len ms) (hv : mateR ms = v) :
    Calls Try.prog 16 #[.slice a len cap] w fun e w' => e = .returned (.bool v) ∧ w = w' := by
  subst hv; exact mright_any hm
theorem mcount_lit {w : World} {a : Option Addr} {b off len cap : Nat} {ms : List Int} {v : Nat} (hm : IntsAt .i64 w.heap.size w a b off len ms) (h0 : a = none → len = 0 ∧ cap = 0) (hlen : len ≤ 60000) (hv : leftN ms = v) :
    Calls Try.prog 20 #[.slice a len cap] w fun e w' => e = .returned (.int .i64 (v : Int)) ∧ Below w.heap.size w w' := by
  subst hv; exact mcount_any hm h0 hlen
namespace L10
def aF : Nat → Nat → Int := joins 3 noTab [⟨0, 1, 3⟩, ⟨1, 2, 5⟩]
/-- What lies in the example. -/
structure AlR (w : World) (pb : Nat) (W : World) : Prop where
  part : IntsAt .i64 W.heap.size W (some ⟨pb, 0, none⟩) pb 0 3 [1, 0, 2]
  below : Below w.heap.size w W
theorem AlR.on {w W W' : World} {pb : Nat} (h : AlR w pb W) (hb : Below W.heap.size W W') : AlR w pb W' := ⟨(h.part.kept hb (Nat.le_refl _)).mono hb.size, h.below.trans (hb.mono h.below.size)⟩
set_option maxRecDepth 100000 in
set_option maxHeartbeats 4000000 in
theorem alive_any (w : World) : Calls Try.prog 11 #[] w fun e w' => e = .returned (.bool true) ∧ Below w.heap.size w w' := by
  have hI := ints_three w 1 1 1 (by decide) (by decide) (by decide) 2
  have ha1 : Below w.heap.size w (w.alloc (.cells #[.int .i64 1, .int .i64 1, .int .i64 1] 2)) := (Below.refl _ w).alloc (Nat.le_refl _) _
  have ha2 := (Below.refl (w.alloc (.cells #[.int .i64 1, .int .i64 1, .int .i64 1] 2)).heap.size (w.alloc (.cells #[.int .i64 1, .int .i64 1, .int .i64 1] 2))).alloc (Nat.le_refl _) (.cells #[.int .i64 0, .int .i64 1, .int .i64 3, .int .i64 1, .int .i64 2, .int .i64 5] 69)
  have hBd := build_any (cap0 := 3) (cap1 := 2) ((hI.kept ha2 (Nat.le_refl _)).mono ha2.size) (fun e => by cases e) (rops_two (w.alloc (.cells #[.int .i64 1, .int .i64 1, .int .i64 1] 2)) ⟨0, 1, 3⟩ ⟨1, 2, 5⟩ (by unfold RopV.ok; decide) (by unfold RopV.ok; decide) 69)
  simp only [World.size_alloc] at hBd
  have HBd := Lib.hid hBd
  clear hBd
  have HB1 := Lib.hid (ha1.trans (ha2.mono ha1.size))
  clear hI ha1 ha2
  go_enter Try.func11, Try.ntmps11
  go_wp2_with fail
  refine HBd.out.mono ?_
  rintro e w3 ⟨hB, hc⟩
  rcases hc with ⟨h1, _⟩ | ⟨_, g, nb, lo, Bx, X, rfl, hR, _, _⟩
  · exact absurd h1 (by decide)
  have hR' := hR.base HB1.out
  have hal := (Below.refl w3.heap.size w3).alloc (Nat.le_refl _) (.cells #[.slice X.wa 3 X.wc, .slice X.ra 3 X.rc] 29)
  have HR := Lib.hid (hR'.on hal)
  clear hR hR' hB HBd HB1 hal
  unfold XD.val
  have HO : Hid (IsG (w3.alloc (.cells #[.slice X.wa 3 X.wc, .slice X.ra 3 X.rc] 29)) g nb [1, 1, 1] aF) := Lib.hid HR.out.one
  have HB4 := Lib.hid HR.out.below
  clear HR
  have C1 := Lib.hid (heavy_lit (n := 3) (ms := [1, 0, 2]) HO.out rfl (by decide))
  go_wp2_with fail
  refine C1.out.mono ?_
  rintro e w5 ⟨pb, rfl, hp, hpl, hb⟩
  have HA5 : Hid (AlR w pb w5) := Lib.hid ⟨hp, HB4.out.trans (hb.mono HB4.out.size)⟩
  clear hp hpl hb C1 HO HB4
  have HA6 := Lib.hid (HA5.out.on ((Below.refl w5.heap.size w5).alloc (Nat.le_refl _) (.cells #[.int .i64 1, .int .i64 0, .int .i64 2] 3)))
  have HS := Lib.hid (sameints_any (cap := 3) (cap' := 3) HA6.out.part (ints_three w5 1 0 2 (by decide) (by decide) (by decide) 3))
  rw [show decide ([(1 : Int), 0, 2] = [1, 0, 2]) = true by decide] at HS
  go_wp2_with fail
  refine HS.out.mono ?_
  rintro e w7 ⟨rfl, hb⟩
  have HA7 := Lib.hid (HA6.out.on hb)
  clear hb HS HA6 HA5
  have HL := Lib.hid (lpairs_any (cap := 3) HA7.out.part (fun e => by cases e) (by decide) 9 (by decide))
  rw [show (pairsD [(1 : Int), 0, 2]).take (9 : Int).toNat = [(0, 1)] by decide] at HL
  go_wp2_with fail
  refine HL.out.mono ?_
  rintro e w9 ⟨v1, v2, rfl, hg1, hg2, hb⟩
  obtain ⟨a1, c1, b1, rfl, _, _, _, hi1⟩ := Gath.ints (k := .i64) hg1 rfl (fun x hx => by simp at hx; subst hx; decide)
  obtain ⟨a2, c2, b2, rfl, _, _, _, hi2⟩ := Gath.ints (k := .i64) hg2 rfl (fun x hx => by simp at hx; subst hx; decide)
  have HA9 := Lib.hid (HA7.out.on hb)
  have HI2 := Lib.hid hi2
  have q2 := hi2.cell 0 (by decide)
  obtain rfl : a2 = some ⟨b2, 0, none⟩ := hi2.addr.resolve_left (by decide)
  simp only [List.length_cons, List.length_nil, Nat.zero_add, List.map_cons, List.map_nil] at q2 ⊢
  have q3 : w9.cell? ⟨b2, 0, none⟩ = some (.int .i64 1) := q2
  clear hg1 hg2 hb HL HA7 hi1 hi2 q2
  have CR := Lib.hid (mright_lit (cap := 3) (v := true) HA9.out.part (by decide))
  have HAx := Lib.hid (HA9.out.on ((Below.refl w9.heap.size w9).alloc (Nat.le_refl _) (.cells #[.int .i64 1, .int .i64 1] 3)))
  have CS := Lib.hid (mright_lit (cap := 2) (v := false) (ints_two w9 1 1 (by decide) (by decide) 3) (by decide))
  have CC := Lib.hid (mcount_lit (cap := 3) (v := 2) HAx.out.part (fun e => by cases e) (by decide) (by decide))
  go_wp2_with (first
    | (go_at_call 16; refine CR.out.mono ?_; clear CR; rintro e w' ⟨rfl, rfl⟩)
    | (go_at_call 16; refine CS.out.mono ?_; clear CS; rintro e w' ⟨rfl, rfl⟩)
    | (go_at_call 20; refine CC.out.mono ?_; clear CC; rintro e w12 ⟨rfl, hb12⟩; have HB12 := Lib.hid (HAx.out.on hb12).below; clear hb12))
  go_ret
  exact ⟨rfl, HB12.out⟩
end L10
end Go.Proofs.Ytcmgmcooaljjdaa
