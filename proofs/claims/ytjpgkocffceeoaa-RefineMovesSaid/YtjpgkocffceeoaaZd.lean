/- Contract: by how much a cut falls. -/
import Derived.Test.YtjpgkocffceeoaaZc
import Derived.Test.YtjpgkocffceeoaaFn
import Derived.Test.YtjpgkocffceeoaaAr
set_option linter.unusedVariables false
set_option linter.unusedSectionVars false
namespace Go.Proofs.Ytjpgkocffceeoaa
open Go.RowKit Go.Shelf Rk

attribute [local go_sem] Oper.semAt_some

/-- What one other thing adds to the gain. -/
def gn1 (ms : List Int) (i : Nat) (tq : Int) (x : Int × Int) : Int := (if ms.getD x.1.toNat 0 = tq then x.2 else 0) - (if ms.getD x.1.toNat 0 = ms.getD i 0 then x.2 else 0)
def gnS (ms : List Int) (i : Nat) (tq : Int) (l : List (Int × Int)) : Int := (l.map (gn1 ms i tq)).sum
theorem gnS_snoc (ms : List Int) (i : Nat) (tq : Int) (l : List (Int × Int)) (x : Int × Int) : gnS ms i tq (l ++ [x]) = gnS ms i tq l + gn1 ms i tq x := by simp [gnS]
theorem gnS_bd (ms : List Int) (i : Nat) (tq : Int) : ∀ l : List (Int × Int), (∀ x ∈ l, 0 ≤ x.2 ∧ x.2 ≤ 1099511627776) → - (1099511627776 * (l.length : Int)) ≤ gnS ms i tq l ∧ gnS ms i tq l ≤ 1099511627776 * (l.length : Int)
  | [], _ => by simp [gnS]
  | x :: l, h => by
    have h1 := gnS_bd ms i tq l (fun y hy => h y (List.mem_cons_of_mem _ hy))
    have h2 := h x (List.mem_cons_self ..)
    have e : gnS ms i tq (x :: l) = gn1 ms i tq x + gnS ms i tq l := by simp [gnS]
    have h3 : - x.2 ≤ gn1 ms i tq x ∧ gn1 ms i tq x ≤ x.2 := by unfold gn1; split <;> split <;> omega
    rw [e, List.length_cons]
    omega
/-- By how much the cut falls. -/
def gainF (n : Nat) (F : Nat → Nat → Int) (ms : List Int) (k i tq : Int) : Int := if rightP n ms k = true ∧ belowB i n = true ∧ belowB tq k = true then gnS ms i.toNat tq (rowOf n (F i.toNat)) else 0
/-- The boxes. -/
structure GnR (w : World) (mb off cap n i : Nat) (tq : Int) (s : Int) (W : World) : Prop where
  bS : Boxed W w.heap.size 24 (.slice (some ⟨mb, off, none⟩) n cap)
  bI : Boxed W (w.heap.size + 1) 3 (.int .i64 (i : Int))
  bT : Boxed W (w.heap.size + 1 + 1) 3 (.int .i64 tq)
  below : Below w.heap.size w W
set_option maxRecDepth 100000 in
set_option maxHeartbeats 4000000 in
theorem gain_any {w : World} {g nb : Nat} {ws : List Int} {F : Nat → Nat → Int} (h : IsG w g nb ws F) {a : Option Addr} {mb off len cap : Nat} {ms : List Int} (hm : IntsAt .i64 w.heap.size w a mb off len ms) (k i tq : Int) :
    Calls Try.prog 20 #[.pointer (some ⟨g, 0, none⟩), .slice a len cap, .int .i64 k, .int .i64 i, .int .i64 tq] w fun e w' => e = .returned (.int .i64 (gainF ws.length F ms k i tq)) ∧ Below w.heap.size w w' := by
  have b0 : Below w.heap.size w (((w.alloc (.cells #[.slice a len cap] 24)).alloc (.cells #[.int .i64 i] 3)).alloc (.cells #[.int .i64 tq] 3)) := (((Below.refl _ w).alloc (Nat.le_refl _) _).alloc (by simp) _).alloc (by simp; omega) _
  have bS : Boxed (((w.alloc (.cells #[.slice a len cap] 24)).alloc (.cells #[.int .i64 i] 3)).alloc (.cells #[.int .i64 tq] 3)) w.heap.size 24 (.slice a len cap) := ((Boxed.new w 24 _).alloc _).alloc _
  have bI : Boxed (((w.alloc (.cells #[.slice a len cap] 24)).alloc (.cells #[.int .i64 i] 3)).alloc (.cells #[.int .i64 tq] 3)) (w.heap.size + 1) 3 (.int .i64 i) := Boxed.alloc (by have := Boxed.new (w.alloc (.cells #[.slice a len cap] 24)) 3 (.int .i64 i); rwa [World.size_alloc] at this) _
  have bT : Boxed (((w.alloc (.cells #[.slice a len cap] 24)).alloc (.cells #[.int .i64 i] 3)).alloc (.cells #[.int .i64 tq] 3)) (w.heap.size + 1 + 1) 3 (.int .i64 tq) := by have := Boxed.new ((w.alloc (.cells #[.slice a len cap] 24)).alloc (.cells #[.int .i64 i] 3)) 3 (.int .i64 tq); simp only [World.size_alloc] at this; exact this
  obtain ⟨w1, hw1⟩ : ∃ w1, ((w.alloc (.cells #[.slice a len cap] 24)).alloc (.cells #[.int .i64 i] 3)).alloc (.cells #[.int .i64 tq] 3) = w1 := ⟨_, rfl⟩
  have hz1 : w1.heap.size = w.heap.size + 1 + 1 + 1 := by rw [← hw1]; simp
  rw [hw1] at b0 bS bI bT
  have h1 := h.below b0
  have hm1 := (hm.kept b0 (Nat.le_refl _)).mono b0.size
  have HC := Lib.hid (cright_any (cap := cap) h1 hm1 (Nat.le_refl _) k)
  have HB0 := Lib.hid b0
  have HbS := Lib.hid bS
  have HbI := Lib.hid bI
  have HbT := Lib.hid bT
  have hlm := hm.length
  have hsm := h.small
  have cS := bS.cell
  have cI := bI.cell
  have cT := bT.cell
  have HBL := Lib.hid (fun (x n : Int) (W : World) => below_any x n W)
  have HH := Lib.hid h1
  have HM := Lib.hid hm1
  have HTab := Lib.hid h.tab
  clear h hm b0 bS bI bT h1 hm1
  by_cases hex : ¬ (rightP ws.length ms k = true ∧ belowB i ws.length = true ∧ belowB tq k = true)
  · have HZ : Hid (gainF ws.length F ms k i tq = 0) := Lib.hid (if_neg hex)
    cases hr : rightP ws.length ms k with
    | false =>
      rw [hr] at HC
      clear hex hr
      go_enter Try.func20, Try.ntmps20
      go_wp2_with fail
      refine HC.out.mono ?_
      rintro e w2 ⟨rfl, hb⟩
      have HB2 := Lib.hid (HB0.out.trans (hb.mono HB0.out.size))
      clear hb cS cI cT
      go_wp2
      go_ret
      exact ⟨ret1 HZ.out.symm, HB2.out⟩
    | true =>
      rw [hr] at HC
      have hln : len = ws.length := by rw [← hlm]; exact (rightP_t hr).1
      cases hi : belowB i ws.length with
      | false =>
        have HI := Lib.hid (show belowB i (len : Int) = false by rw [hln]; exact hi)
        clear hex hr hi hln
        go_enter Try.func20, Try.ntmps20
        go_wp2_with fail
        refine HC.out.mono ?_
        rintro e w2 ⟨rfl, hb⟩
        have HB2 := Lib.hid (HB0.out.trans (hb.mono HB0.out.size))
        have dS := Boxed.cell (show Boxed w2 _ 24 _ from heap_below HbS.out hb (heap_lt HbS.out))
        have dI := Boxed.cell (show Boxed w2 _ 3 _ from heap_below HbI.out hb (heap_lt HbI.out))
        have dT := Boxed.cell (show Boxed w2 _ 3 _ from heap_below HbT.out hb (heap_lt HbT.out))
        clear hb cS cI cT
        go_wp2_with (go_at_call 41; refine (HBL.out _ _ _).mono ?_; rintro e w' ⟨rfl, rfl⟩; rw [HI.out])
        go_ret
        exact ⟨ret1 HZ.out.symm, HB2.out⟩
      | true =>
        have hq : belowB tq k = false := by
          cases e : belowB tq k with
          | false => rfl
          | true => exact absurd ⟨hr, hi, e⟩ hex
        have HI := Lib.hid (show belowB i (len : Int) = true by rw [hln]; exact hi)
        have HT := Lib.hid hq
        have HI2 := Lib.hid (HBL.out i (len : Int))
        have HT2 := Lib.hid (HBL.out tq k)
        rw [HI.out] at HI2
        rw [HT.out] at HT2
        clear hex hr hi hln hq HBL
        go_enter Try.func20, Try.ntmps20
        go_wp2_with fail
        refine HC.out.mono ?_
        rintro e w2 ⟨rfl, hb⟩
        have HB2 := Lib.hid (HB0.out.trans (hb.mono HB0.out.size))
        have dS := Boxed.cell (show Boxed w2 _ 24 _ from heap_below HbS.out hb (heap_lt HbS.out))
        have dI := Boxed.cell (show Boxed w2 _ 3 _ from heap_below HbI.out hb (heap_lt HbI.out))
        have dT := Boxed.cell (show Boxed w2 _ 3 _ from heap_below HbT.out hb (heap_lt HbT.out))
        clear hb cS cI cT
        go_wp2_with (first
          | (go_at_call 41; refine (HI2.out _).mono ?_; clear HI2; rintro e w' ⟨rfl, rfl⟩)
          | (go_at_call 41; refine (HT2.out _).mono ?_; rintro e w' ⟨rfl, rfl⟩))
        go_ret
        exact ⟨ret1 HZ.out.symm, HB2.out⟩
  · obtain ⟨hr, hi, hq⟩ := Classical.not_not.1 hex
    clear hex
    have hln : len = ws.length := by rw [← hlm]; exact (rightP_t hr).1
    subst hln
    have hib := of_decide_eq_true hi
    obtain ⟨i0, rfl⟩ : ∃ i0 : Nat, i = (i0 : Int) := ⟨i.toNat, by omega⟩
    have hi0 : i0 < ws.length := by omega
    have HF : Hid (gainF ws.length F ms k i0 tq = gnS ms i0 tq (rowOf ws.length (F i0))) := Lib.hid (by unfold gainF; rw [if_pos ⟨hr, hi, hq⟩, Int.toNat_natCast])
    rw [hr] at HC
    have HI2 := Lib.hid (HBL.out i0 (ws.length : Int))
    have HT2 := Lib.hid (HBL.out tq k)
    rw [hi] at HI2
    rw [hq] at HT2
    have hma : a = some ⟨mb, off, none⟩ := HM.out.addr.resolve_left (by omega)
    subst hma
    have HMEM : Hid (∀ x ∈ rowOf ws.length (F i0), (∃ b : Nat, x.1 = (b : Int) ∧ b < ws.length) ∧ 0 ≤ x.2 ∧ x.2 ≤ 1099511627776) := Lib.hid (fun x hx => by
      obtain ⟨b, h1, h2, rfl⟩ := mem_rowOf.1 hx
      exact ⟨⟨b, rfl, h1⟩, by show 0 ≤ F i0 b; omega, HTab.out.hi i0 b⟩)
    have HLen : Hid ((rowOf ws.length (F i0)).length ≤ ws.length) := Lib.hid (rowOf_length _ _)
    have HNr : Hid (∀ W, Below w1.heap.size w1 W → Calls Try.prog 49 #[.pointer (some ⟨g, 0, none⟩), .int .i64 (i0 : Int)] W (SeqQPost w1.heap.size (rowOf ws.length (F i0)) W)) := Lib.hid (fun W hW => by
      have := near_q (i0 : Int) HH.out hW
      rwa [nearD_nat F hi0] at this)
    clear hr hi hq hib HBL
    generalize gainF ws.length F ms k i0 tq = res at *
    generalize rowOf ws.length (F i0) = D at *
    generalize ws.length = n at *
    refine (callsIn_wide (n := 3)).1 ?_
    refine callsIn_of_wp_marks Try.func20 rfl trivial ?_ rfl
    simp only [Try.ntmps20, List.size_toArray, List.length_cons, List.length_nil, Nat.reduceAdd, Nat.reduceSub, Array.replicate_succ, Array.replicate_zero, List.push_toArray, List.append_toArray, List.nil_append, List.cons_append]
    gi_wp2_with fail
    refine ⟨trivial, (callsIn_wide.2 HC.out).mono ?_⟩
    rintro e w2 ⟨rfl, hb⟩
    have HB2 := Lib.hid hb
    have bS := heap_below HbS.out hb (heap_lt HbS.out)
    have bI := heap_below HbI.out hb (heap_lt HbI.out)
    have bT := heap_below HbT.out hb (heap_lt HbT.out)
    have dS := Boxed.cell (show Boxed w2 _ 24 _ from bS)
    have dI := Boxed.cell (show Boxed w2 _ 3 _ from bI)
    have dT := Boxed.cell (show Boxed w2 _ 3 _ from bT)
    have z2 := hb.size
    have ba : Below w2.heap.size w2 (w2.alloc (.cells #[.int .i64 0] 2)) := (Below.refl _ _).alloc (Nat.le_refl _) _
    have HNr2 := Lib.hid (HNr.out _ (hb.trans (ba.mono z2)))
    have dI3 := Boxed.cell (show Boxed (w2.alloc (.cells #[.int .i64 0] 2)) _ 3 _ from heap_below bI ba (heap_lt bI))
    clear hb cS cI cT bS bI bT ba HNr
    gi_wp2_with (first
      | (refine ⟨trivial, ?_⟩; gi_at_call 41; refine (callsIn_wide.2 (HI2.out _)).mono ?_; clear HI2; rintro e w' ⟨rfl, rfl⟩)
      | (refine ⟨trivial, ?_⟩; gi_at_call 41; refine (callsIn_wide.2 (HT2.out _)).mono ?_; rintro e w' ⟨rfl, rfl⟩)
      | (refine ⟨trivial, ?_⟩; gi_at_call 49; refine (callsIn_wide.2 HNr2.out).mono ?_; rintro e w3 ⟨sv, rfl, hsq, hB3⟩))
    have z3 := hB3.size
    simp only [World.size_alloc] at z3
    have hB13 : Below w1.heap.size w1 w3 := (HB2.out.alloc z2 (.cells #[.int .i64 0] 2)).trans (hB3.mono (by simp; omega))
    have bG : Boxed w3 w2.heap.size 2 (.int .i64 0) := (hB3.block w2.heap.size (by simp)).trans (Boxed.new w2 2 _)
    have HFX := Lib.hid (fun (W : World) (hW : Below w1.heap.size w1 W) => And.intro (Boxed.cell (show Boxed W _ 24 _ from heap_below HbS.out hW (heap_lt HbS.out))) (And.intro (Boxed.cell (show Boxed W _ 3 _ from heap_below HbI.out hW (heap_lt HbI.out))) (And.intro (Boxed.cell (show Boxed W _ 3 _ from heap_below HbT.out hW (heap_lt HbT.out))) (HM.out.kept hW (Nat.le_refl _)))))
    obtain ⟨gf, lb, rfl, hen, hst⟩ := hsq
    clear dS dI dT dI3 hB3
    refine wpIn_rangeFunc_ownG rfl (by omega) (gf := gf) (lb := lb) rfl trivial hen
      (hst 2).stopsF belowK_t (belowK_b (by omega)) (Below.refl _ _) (fun _ => rfl)
      (fun pre W => Below w1.heap.size w1 W ∧ Boxed W w2.heap.size 2 (.int .i64 (gnS ms i0 tq (pre.map D.get))))
      (fun _ _ _ => False)
      (OwnFrom.and (ownFrom_below (Nat.le_refl _) (by omega)) (Own.from (boxed_own w2.heap.size 2 (fun pre : List (Fin D.length) => .int .i64 (gnS ms i0 tq (pre.map D.get)))) _))
      (fun _ _ _ _ _ hs _ _ => hs)
      ⟨hB13, bG⟩
      ?_ ?assign ?body ?done ?stop
    case assign =>
      intro l x W K hK
      unfold encP
      gi_wp2
      exact hK
    case body =>
      rintro l pre x W ⟨hB, hG⟩ hlt
      obtain ⟨⟨b, hb1, hb2⟩, hx0, hx1⟩ := HMEM.out _ (List.getElem_mem x.isLt)
      have hI : ∀ r, gnS ms i0 tq (pre.map D.get) + gn1 ms i0 tq D[x.val] = r → gnS ms i0 tq ((pre ++ [x]).map D.get) = r := fun r hr => by
        rw [List.map_append, List.map_cons, List.map_nil, gnS_snoc, List.get_eq_getElem, hr]
      have hbd := gnS_bd ms i0 tq (pre.map D.get) (fun y hy => by
        obtain ⟨j, _, rfl⟩ := List.mem_map.1 hy
        exact (HMEM.out _ (List.getElem_mem j.isLt)).2)
      rw [List.length_map] at hbd
      have hll := HLen.out
      have HS := Lib.hid (show gn1 ms i0 tq D[x.val] = (if ms.getD (D[x.val]).1.toNat 0 = tq then (D[x.val]).2 else 0) - (if ms.getD (D[x.val]).1.toNat 0 = ms.getD i0 0 then (D[x.val]).2 else 0) from rfl)
      have HI := Lib.hid hI
      clear hst hI bG hB13
      generalize gn1 ms i0 tq D[x.val] = gx at *
      generalize gnS ms i0 tq (pre.map D.get) = s at *
      generalize D[x.val] = p at *
      obtain ⟨p1, p2⟩ := p
      simp only at hb1 hx0 hx1 HS
      subst hb1
      rw [Int.toNat_natCast] at HS
      obtain ⟨cS, cI, cT, hmW⟩ := HFX.out W hB
      have cb := hmW.cell b hb2
      have ci := hmW.cell i0 hi0
      obtain ⟨y, hy⟩ : ∃ y, ms.getD b 0 = y := ⟨_, rfl⟩
      obtain ⟨z, hz⟩ : ∃ z, ms.getD i0 0 = z := ⟨_, rfl⟩
      rw [hy, hz] at HS
      rw [hy] at cb
      rw [hz] at ci
      have hib : (i0 : Int) < (n : Int) := by omega
      have hbb : (b : Int) < (n : Int) := by omega
      have HFY : Hid (∀ W, Below w1.heap.size w1 W → W.cell? ⟨w.heap.size, 0, none⟩ = some (.slice (some ⟨mb, off, none⟩) n cap) ∧ W.cell? ⟨w.heap.size + 1, 0, none⟩ = some (.int .i64 (i0 : Int)) ∧ W.cell? ⟨w.heap.size + 1 + 1, 0, none⟩ = some (.int .i64 tq) ∧ W.cell? ⟨mb, off + b, none⟩ = some (.int .i64 y) ∧ W.cell? ⟨mb, off + i0, none⟩ = some (.int .i64 z)) := Lib.hid (fun W hW => by
        obtain ⟨c1, c2, c3, c4⟩ := HFX.out W hW
        have e1 := c4.cell b hb2
        have e2 := c4.cell i0 hi0
        rw [hy] at e1
        rw [hz] at e2
        exact ⟨c1, c2, c3, e1, e2⟩)
      have HG := Lib.hid hG
      have HB := Lib.hid hB
      clear hy hz hmW hB hG
      have hw1 : IntKind.i64.wrap (s + p2) = s + p2 := IntWalk.i64_in _ (by omega)
      have hw2 : IntKind.i64.wrap (s - p2) = s - p2 := IntWalk.i64_in _ (by omega)
      have hw3 : IntKind.i64.wrap (s + p2 - p2) = s + p2 - p2 := IntWalk.i64_in _ (by omega)
      gi_wp2
      refine region_round_quiet rfl (by kernel_rfl) rfl (by kernel_rfl) ?_
      repeat (gi_big_quiet_step (fail))
      refine wpQuietIn_nil ?_
      intro _ hw'
      obtain ⟨nq, rfl⟩ := hw'
      clear cS cI cT cb ci
      have Hst : Hid (KeepsOthers W (W.drewN nq) ∧ Below w1.heap.size W (W.drewN nq) ∧ Below w1.heap.size w1 (W.drewN nq) ∧ Boxed (W.drewN nq) w2.heap.size 2 (.int .i64 s)) := Lib.hid ⟨⟨Nat.le_refl _, fun _ _ h _ => h⟩, ⟨rfl, rfl, rfl, Nat.le_refl _, fun _ _ => rfl⟩, HB.out.trans ⟨rfl, rfl, rfl, Nat.le_refl _, fun _ _ => rfl⟩, HG.out⟩
      generalize W.drewN nq = W1 at *
      have cG := Hst.out.2.2.2.cell
      have fG := Hst.out.2.2.2.frozen
      by_cases h1 : y = tq
      · have h1b : ((y : Int) == tq) = true := by simpa using h1
        gi_wp2
        have Hs2 : Hid (KeepsOthers W (W1.setCell ⟨w2.heap.size, 0, none⟩ (.int .i64 (s + p2))) ∧ Below w1.heap.size W (W1.setCell ⟨w2.heap.size, 0, none⟩ (.int .i64 (s + p2))) ∧ Below w1.heap.size w1 (W1.setCell ⟨w2.heap.size, 0, none⟩ (.int .i64 (s + p2))) ∧ Boxed (W1.setCell ⟨w2.heap.size, 0, none⟩ (.int .i64 (s + p2))) w2.heap.size 2 (.int .i64 (s + p2))) := Lib.hid ⟨Hst.out.1.trans (KeepsOthers.setCell _ _ _), Hst.out.2.1.setCell (p := ⟨w2.heap.size, 0, none⟩) z2 _, Hst.out.2.2.1.setCell (p := ⟨w2.heap.size, 0, none⟩) z2 _, Hst.out.2.2.2.set _⟩
        clear cG fG
        generalize W1.setCell ⟨w2.heap.size, 0, none⟩ (.int .i64 (s + p2)) = W2 at *
        obtain ⟨cS, cI, cT, cb, ci⟩ := HFY.out W2 Hs2.out.2.2.1
        refine region_round_quiet rfl (by kernel_rfl) rfl (by kernel_rfl) ?_
        repeat (gi_big_quiet_step (fail))
        refine wpQuietIn_nil ?_
        intro _ hw'
        obtain ⟨nr, rfl⟩ := hw'
        clear cS cI cT cb ci
        have Hs4 : Hid (KeepsOthers W (W2.drewN nr) ∧ Below w1.heap.size W (W2.drewN nr) ∧ Below w1.heap.size w1 (W2.drewN nr) ∧ Boxed (W2.drewN nr) w2.heap.size 2 (.int .i64 (s + p2))) := Lib.hid ⟨Hs2.out.1.trans ⟨Nat.le_refl _, fun _ _ h _ => h⟩, Hs2.out.2.1.trans ⟨rfl, rfl, rfl, Nat.le_refl _, fun _ _ => rfl⟩, Hs2.out.2.2.1.trans ⟨rfl, rfl, rfl, Nat.le_refl _, fun _ _ => rfl⟩, Hs2.out.2.2.2⟩
        generalize W2.drewN nr = W4 at *
        have cG := Hs4.out.2.2.2.cell
        have fG := Hs4.out.2.2.2.frozen
        by_cases h2 : y = z
        · have h2b : ((y : Int) == z) = true := by simpa using h2
          have HR := Lib.hid (HI.out s (by rw [HS.out, if_pos h1, if_pos h2]; omega))
          gi_wp2
          exact ⟨(Hs4.out.1.trans (KeepsOthers.setCell _ _ _)).from _, Hs4.out.2.1.setCell (p := ⟨w2.heap.size, 0, none⟩) z2 _, Hs4.out.2.2.1.setCell (p := ⟨w2.heap.size, 0, none⟩) z2 _, by rw [HR.out]; exact Hs4.out.2.2.2.set _⟩
        · have h2b : ((y : Int) == z) = false := by simpa using h2
          have HR := Lib.hid (HI.out (s + p2) (by rw [HS.out, if_pos h1, if_neg h2]; omega))
          gi_wp2
          exact ⟨Hs4.out.1.from _, Hs4.out.2.1, Hs4.out.2.2.1, by rw [HR.out]; exact Hs4.out.2.2.2⟩
      · have h1b : ((y : Int) == tq) = false := by simpa using h1
        gi_wp2
        clear cG fG
        obtain ⟨cS, cI, cT, cb, ci⟩ := HFY.out W1 Hst.out.2.2.1
        refine region_round_quiet rfl (by kernel_rfl) rfl (by kernel_rfl) ?_
        repeat (gi_big_quiet_step (fail))
        refine wpQuietIn_nil ?_
        intro _ hw'
        obtain ⟨nr, rfl⟩ := hw'
        clear cS cI cT cb ci
        have Hs4 : Hid (KeepsOthers W (W1.drewN nr) ∧ Below w1.heap.size W (W1.drewN nr) ∧ Below w1.heap.size w1 (W1.drewN nr) ∧ Boxed (W1.drewN nr) w2.heap.size 2 (.int .i64 (s))) := Lib.hid ⟨Hst.out.1.trans ⟨Nat.le_refl _, fun _ _ h _ => h⟩, Hst.out.2.1.trans ⟨rfl, rfl, rfl, Nat.le_refl _, fun _ _ => rfl⟩, Hst.out.2.2.1.trans ⟨rfl, rfl, rfl, Nat.le_refl _, fun _ _ => rfl⟩, Hst.out.2.2.2⟩
        generalize W1.drewN nr = W4 at *
        have cG := Hs4.out.2.2.2.cell
        have fG := Hs4.out.2.2.2.frozen
        by_cases h2 : y = z
        · have h2b : ((y : Int) == z) = true := by simpa using h2
          have HR := Lib.hid (HI.out (s - p2) (by rw [HS.out, if_neg h1, if_pos h2]; omega))
          gi_wp2
          exact ⟨(Hs4.out.1.trans (KeepsOthers.setCell _ _ _)).from _, Hs4.out.2.1.setCell (p := ⟨w2.heap.size, 0, none⟩) z2 _, Hs4.out.2.2.1.setCell (p := ⟨w2.heap.size, 0, none⟩) z2 _, by rw [HR.out]; exact Hs4.out.2.2.2.set _⟩
        · have h2b : ((y : Int) == z) = false := by simpa using h2
          have HR := Lib.hid (HI.out (s) (by rw [HS.out, if_neg h1, if_neg h2]; omega))
          gi_wp2
          exact ⟨Hs4.out.1.from _, Hs4.out.2.1, Hs4.out.2.2.1, by rw [HR.out]; exact Hs4.out.2.2.2⟩
    case done =>
      rintro E ys W hD rfl ⟨hB, hG⟩ hK
      rw [get_finRange] at hG
      have c1 := hG.cell
      gi_wp2
      refine ⟨by simp, .inl ⟨_, _, rfl, run_takeDeferred hK, ?_⟩⟩
      refine ⟨_, results_tmp rfl _ _ _, ?_, ((HB0.out.trans (hB.mono HB0.out.size)).trans (belowK_b (w := w) (Nat.le_refl _) _ E _ _ (by omega) hK rfl rfl))⟩
      exact ret1 HF.out.symm
    case stop =>
      rintro E c pre W hD hpre h hK
      exact h.elim
end Go.Proofs.Ytjpgkocffceeoaa
