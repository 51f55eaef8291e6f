/- Contract: what parts cut. -/
import Derived.Test.YtjpgkocffceeoaaZa
import Derived.Test.YtjpgkocffceeoaaAr
import Derived.Test.YtjpgkocffceeoaaGtm
set_option linter.unusedVariables false
set_option linter.unusedSectionVars false
namespace Go.Proofs.Ytjpgkocffceeoaa
open Go.RowKit Go.Shelf Rk

attribute [local go_sem] Oper.semAt_some

/-- What one pair adds to the cut. -/
def cu1 (ms : List Int) (x : Edg) : Int := if ms.getD x.1.toNat 0 = ms.getD x.2.1.toNat 0 then 0 else x.2.2
def cuS (ms : List Int) (l : List Edg) : Int := (l.map (cu1 ms)).sum
theorem cuS_snoc (ms : List Int) (l : List Edg) (x : Edg) : cuS ms (l ++ [x]) = cuS ms l + cu1 ms x := by simp [cuS]
theorem cuS_bd (ms : List Int) : ∀ l : List Edg, (∀ x ∈ l, 0 ≤ x.2.2 ∧ x.2.2 ≤ 1099511627776) → 0 ≤ cuS ms l ∧ cuS ms l ≤ 1099511627776 * (l.length : Int)
  | [], _ => by simp [cuS]
  | x :: l, h => by
    have h1 := cuS_bd ms l (fun y hy => h y (List.mem_cons_of_mem _ hy))
    have h2 := h x (List.mem_cons_self ..)
    have e : cuS ms (x :: l) = cu1 ms x + cuS ms l := by simp [cuS]
    have h3 : 0 ≤ cu1 ms x ∧ cu1 ms x ≤ x.2.2 := by unfold cu1; split <;> omega
    rw [e, List.length_cons]
    omega
theorem upTo_len (n : Nat) (F : Nat → Nat → Int) (k : Nat) : (upTo n F k).length ≤ k * n := by
  induction k with
  | zero => simp [upTo]
  | succ k ih =>
    have h1 := rowOf_length n (above ((k : Int) + 1) (F k))
    rw [upTo, List.length_append, List.length_map, Nat.succ_mul]
    unfold lateD
    omega
theorem mem_upTo {n : Nat} {F : Nat → Nat → Int} (k : Nat) {x : Edg} (h : x ∈ upTo n F k) : ∃ a b : Nat, a < k ∧ b < n ∧ a < b ∧ x = ((a : Int), (b : Int), F a b) ∧ 0 < F a b := by
  induction k with
  | zero => simp [upTo] at h
  | succ k ih =>
    rw [upTo, List.mem_append] at h
    rcases h with h | h
    · obtain ⟨a, b, h1, h2⟩ := ih h
      exact ⟨a, b, by omega, h2⟩
    · obtain ⟨p, hp, rfl⟩ := List.mem_map.1 h
      obtain ⟨b, h1, h2, rfl⟩ := mem_rowOf.1 hp
      unfold above at h2
      have hkb : k < b := by
        by_cases e : (b : Int) < (k : Int) + 1
        · rw [if_pos e] at h2; omega
        · omega
      rw [if_neg (by omega)] at h2
      refine ⟨k, b, by omega, h1, hkb, ?_, h2⟩
      show ((k : Int), (b : Int), above ((k : Int) + 1) (F k) b) = _
      unfold above
      rw [if_neg (by omega)]
/-- What parts cut. -/
def cutF (n : Nat) (F : Nat → Nat → Int) (ms : List Int) (k : Int) : Int := if rightP n ms k = true then cuS ms (edgesD n F) else 0
set_option maxRecDepth 100000 in
set_option maxHeartbeats 4000000 in
theorem cut_any {w : World} {g nb : Nat} {ws : List Int} {F : Nat → Nat → Int} (h : IsG w g nb ws F) (hn1000 : ws.length ≤ 1000) {a : Option Addr} {mb off len cap : Nat} {ms : List Int} (hm : IntsAt .i64 w.heap.size w a mb off len ms) (k : Int) :
    Calls Try.prog 18 #[.pointer (some ⟨g, 0, none⟩), .slice a len cap, .int .i64 k] w fun e w' => e = .returned (.int .i64 (cutF ws.length F ms k)) ∧ Below w.heap.size w w' := by
  have b0 : Below w.heap.size w (w.alloc (.cells #[.slice a len cap] 24)) := (Below.refl _ w).alloc (Nat.le_refl _) _
  have bS : Boxed (w.alloc (.cells #[.slice a len cap] 24)) w.heap.size 24 (.slice a len cap) := Boxed.new w 24 _
  obtain ⟨w1, hw1⟩ : ∃ w1, w.alloc (.cells #[.slice a len cap] 24) = w1 := ⟨_, rfl⟩
  have hz1 : w1.heap.size = w.heap.size + 1 := by rw [← hw1]; simp
  rw [hw1] at b0 bS
  have h1 := h.below b0
  have hm1 := (hm.kept b0 (Nat.le_refl _)).mono b0.size
  have HC := Lib.hid (cright_any (cap := cap) h1 hm1 (Nat.le_refl _) k)
  have HB0 := Lib.hid b0
  have HbS := Lib.hid bS
  have hlm := hm.length
  have cS := bS.cell
  have HH := Lib.hid h1
  have HM := Lib.hid hm1
  have HTab := Lib.hid h.tab
  clear h hm b0 bS h1 hm1
  cases hr : rightP ws.length ms k with
  | false =>
    have HZ : Hid (cutF ws.length F ms k = 0) := Lib.hid (if_neg (by rw [hr]; simp))
    rw [hr] at HC
    clear hr
    go_enter Try.func18, Try.ntmps18
    go_wp2_with fail
    refine HC.out.mono ?_
    rintro e w2 ⟨rfl, hb⟩
    have HB2 := Lib.hid (HB0.out.trans (hb.mono HB0.out.size))
    clear hb cS
    go_wp2
    go_ret
    exact ⟨ret1 HZ.out.symm, HB2.out⟩
  | true =>
    have HZ : Hid (cutF ws.length F ms k = cuS ms (edgesD ws.length F)) := Lib.hid (if_pos hr)
    rw [hr] at HC
    have hln : len = ws.length := by rw [← hlm]; exact (rightP_t hr).1
    subst hln
    have HMEM : Hid (∀ x ∈ edgesD ws.length F, ∃ a b : Nat, a < ws.length ∧ b < ws.length ∧ x = ((a : Int), (b : Int), F a b)) := Lib.hid (fun x hx => by
      obtain ⟨a, b, h1, h2, _, h3, _⟩ := mem_upTo _ hx
      exact ⟨a, b, h1, h2, h3⟩)
    have hlenD : (edgesD ws.length F).length ≤ 1000000 := Nat.le_trans (upTo_len _ _ _) (by have := Nat.mul_le_mul hn1000 hn1000; omega)
    have HED : Hid (∀ W, Below w1.heap.size w1 W → Calls Try.prog 48 #[.pointer (some ⟨g, 0, none⟩)] W (EPost w1.heap.size ws.length F W)) := Lib.hid (fun W hW => medges_any HH.out hW)
    clear hr
    generalize cutF ws.length F ms k = res at *
    generalize ws.length = n at *
    refine (callsIn_wide (n := 3)).1 ?_
    refine callsIn_of_wp_marks Try.func18 rfl trivial ?_ rfl
    simp only [Try.ntmps18, List.size_toArray, List.length_cons, List.length_nil, Nat.reduceAdd, Nat.reduceSub, Array.replicate_succ, Array.replicate_zero, List.push_toArray, List.append_toArray, List.nil_append, List.cons_append]
    gi_wp2_with fail
    refine ⟨trivial, (callsIn_wide.2 HC.out).mono ?_⟩
    rintro e w2 ⟨rfl, hb⟩
    have HB2 := Lib.hid hb
    have z2 := hb.size
    have ba : Below w2.heap.size w2 (w2.alloc (.cells #[.int .i64 0] 2)) := (Below.refl _ _).alloc (Nat.le_refl _) _
    have HE2 := Lib.hid (HED.out _ (hb.trans (ba.mono z2)))
    clear hb cS ba HED
    gi_wp2_with (refine ⟨trivial, ?_⟩; gi_at_call 48; refine (callsIn_wide.2 HE2.out).mono ?_; rintro e w3 ⟨sv, rfl, hsq, hB3⟩)
    have z3 := hB3.size
    simp only [World.size_alloc] at z3
    have hB13 : Below w1.heap.size w1 w3 := (HB2.out.alloc z2 (.cells #[.int .i64 0] 2)).trans (hB3.mono (by simp; omega))
    have bG : Boxed w3 w2.heap.size 2 (.int .i64 0) := (hB3.block w2.heap.size (by simp)).trans (Boxed.new w2 2 _)
    simp only [World.size_alloc] at hsq
    have HFX := Lib.hid (fun (W : World) (hW : Below w1.heap.size w1 W) => And.intro (Boxed.cell (show Boxed W _ 24 _ from heap_below HbS.out hW (heap_lt HbS.out))) (HM.out.kept hW (Nat.le_refl _)))
    obtain ⟨lb, rfl, hst0⟩ := hsq.stopsM 2 84 (by decide) (by decide)
    have hst := hst0.sub
    clear hB3 hst0
    generalize edgesD n F = D at *
    refine wpIn_rangeFunc_seqN rfl (by omega) (gf := 67) (lb := lb) rfl trivial (enters_of Try.func67 (by kernel_rfl) rfl)
      hst (by omega) (Nat.le_refl _) (Below.refl _ _) (fun _ => rfl)
      (fun pre W => w3.heap.size ≤ W.heap.size ∧ Below w1.heap.size w1 W ∧ Boxed W w2.heap.size 2 (.int .i64 (cuS ms (pre.map Subtype.val))))
      (fun _ _ _ => False)
      (fun s A B row hs hg hr => ⟨Nat.le_trans hs.1 hg.size, ownFrom_below (β := List {x : Edg // x ∈ D}) (Nat.le_refl _) (by omega) s A B row hs.2.1 hg hr, (Own.from (boxed_own w2.heap.size 2 (fun pre : List {x : Edg // x ∈ D} => .int .i64 (cuS ms (pre.map Subtype.val)))) w3.heap.size) s A B row hs.2.2 hg hr⟩)
      (fun _ _ _ _ _ hs _ _ => hs)
      ⟨Nat.le_refl _, hB13, bG⟩
      (fun x a' A => ∃ Bx, w3.heap.size ≤ Bx ∧ A.heap[Bx]? = some (.cells #[.int .i64 x.1.1, .int .i64 x.1.2.1, .int .i64 x.1.2.2] 84 (0, 0)) ∧ a' = { tmps := #[.pointer (some ⟨g, 0, none⟩), .slice a n cap, .int .i64 k, undef, .pointer (some ⟨w.heap.size, 0, none⟩), undef, .int .i64 0, .pointer (some ⟨w2.heap.size, 0, none⟩), .pointer (some ⟨Bx, 0, none⟩), .pointer (some ⟨g, 0, none⟩), .slice a n cap, .int .i64 k, .bool true, .bool false, .pointer (some ⟨g, 0, none⟩), .func (.func 67) #[] lb, .agg #[.int .i64 x.1.1, .int .i64 x.1.2.1, .int .i64 x.1.2.2], undef, undef, undef, undef, undef, undef, undef, undef, undef, undef, undef, undef, undef, undef, undef, undef], defers := [] })
      (fun x a' A l o o' hs hl ho hc => by
        obtain ⟨Bx, e1, e2, e3⟩ := hs
        exact ⟨Bx, e1, (World.putObj_heap_other (by intro e; subst e; rw [e2] at ho; cases ho; cases hc)).trans e2, e3⟩) ?assign ?body ?done ?stop
    case assign =>
      rintro l pre x W K ⟨hz, hB, hG⟩ hK
      unfold encE
      gi_wp2
      have zW := hB.size
      exact hK _ _ ((KeepsOthers.alloc _ _).from _) ⟨(Below.refl _ W).alloc zW _, Mid.alloc _ _ _ _ hz, KeepsT.alloc _ _ _ _⟩ ⟨by simp; omega, hB.alloc zW _, hG.alloc _⟩ ⟨W.heap.size, hz, World.alloc_heap_new W _, rfl⟩
    case body =>
      rintro l pre x a' W ⟨hz, hB, hG⟩ ⟨Bx, hBx, hXb, rfl⟩ hlt
      obtain ⟨a1, b1, ha1, hb1, hx⟩ := HMEM.out x.1 x.2
      obtain rfl : a = some ⟨mb, off, none⟩ := HM.out.addr.resolve_left (by omega)
      have hI : ∀ r, cuS ms (pre.map Subtype.val) + cu1 ms x.1 = r → cuS ms ((pre ++ [x]).map Subtype.val) = r := fun r hr => by
        rw [List.map_append, List.map_cons, List.map_nil, cuS_snoc, hr]
      have hbd := cuS_bd ms (pre.map Subtype.val) (fun y hy => by
        obtain ⟨q, _, rfl⟩ := List.mem_map.1 hy
        obtain ⟨a2, b2, _, _, e⟩ := HMEM.out q.1 q.2
        rw [e]; exact ⟨HTab.out.lo a2 b2, HTab.out.hi a2 b2⟩)
      rw [List.length_map] at hbd
      have hv := And.intro (HTab.out.lo a1 b1) (HTab.out.hi a1 b1)
      have HS : Hid (cu1 ms x.1 = if ms.getD a1 0 = ms.getD b1 0 then 0 else F a1 b1) := Lib.hid (by rw [hx]; simp [cu1])
      have HI := Lib.hid hI
      clear hst hI bG hB13
      generalize cu1 ms x.1 = gx at *
      generalize cuS ms (pre.map Subtype.val) = s at *
      rw [hx] at hXb ⊢
      clear hx
      generalize F a1 b1 = p2 at *
      dsimp only at hXb ⊢
      obtain ⟨cS, hmW⟩ := HFX.out W hB
      have ca := hmW.cell a1 ha1
      have cb := hmW.cell b1 hb1
      have x0 : W.cell? ⟨Bx, 0, none⟩ = some (.int .i64 (a1 : Int)) := heap_cell hXb rfl
      have x1 : W.cell? ⟨Bx, 1, none⟩ = some (.int .i64 (b1 : Int)) := heap_cell hXb rfl
      obtain ⟨y, hy⟩ : ∃ y, ms.getD a1 0 = y := ⟨_, rfl⟩
      obtain ⟨z, hz'⟩ : ∃ z, ms.getD b1 0 = z := ⟨_, rfl⟩
      rw [hy, hz'] at HS
      rw [hy] at ca
      rw [hz'] at cb
      have hib : (a1 : Int) < (n : Int) := by omega
      have hbb : (b1 : Int) < (n : Int) := by omega
      have HG := Lib.hid hG
      have HB := Lib.hid hB
      have HXb := Lib.hid hXb
      clear hy hz' hmW hB hG hXb
      have hw1 : IntKind.i64.wrap (s + p2) = s + p2 := IntWalk.i64_in _ (by omega)
      gi_wp2
      refine region_round_quiet rfl (by kernel_rfl) rfl (by kernel_rfl) ?_
      repeat (gi_big_quiet_step (fail))
      refine wpQuietIn_nil ?_
      intro _ hw'
      obtain ⟨nq, rfl⟩ := hw'
      clear cS ca cb x0 x1
      have z1w := HB.out.size
      have Hst : Hid (KeepsOthers W (W.drewN nq) ∧ (Below w1.heap.size W (W.drewN nq) ∧ Mid w3.heap.size w3.heap.size W (W.drewN nq)) ∧ Below w1.heap.size w1 (W.drewN nq) ∧ Boxed (W.drewN nq) w2.heap.size 2 (.int .i64 s) ∧ (W.drewN nq).heap[Bx]? = some (.cells #[.int .i64 (a1 : Int), .int .i64 (b1 : Int), .int .i64 p2] 84 (0, 0)) ∧ W.heap.size ≤ (W.drewN nq).heap.size) := Lib.hid ⟨⟨Nat.le_refl _, fun _ _ h _ => h⟩, ⟨⟨rfl, rfl, rfl, Nat.le_refl _, fun _ _ => rfl⟩, ⟨Nat.le_refl _, fun _ _ _ => rfl⟩⟩, HB.out.trans ⟨rfl, rfl, rfl, Nat.le_refl _, fun _ _ => rfl⟩, HG.out, HXb.out, Nat.le_refl _⟩
      have HKT : Hid (∀ lo, Mid lo w3.heap.size W (W.drewN nq) ∧ KeepsT 84 w3.heap.size W (W.drewN nq)) := Lib.hid (fun lo => ⟨⟨Nat.le_refl _, fun _ _ _ => rfl⟩, ⟨Nat.le_refl _, fun _ _ _ h _ => h⟩⟩)
      generalize W.drewN nq = W1 at *
      have cG := Hst.out.2.2.2.1.cell
      have fG := Hst.out.2.2.2.1.frozen
      have x2 : W1.cell? ⟨Bx, 2, none⟩ = some (.int .i64 p2) := heap_cell Hst.out.2.2.2.2.1 rfl
      have zz := Hst.out.2.2.2.2.2
      by_cases h1 : y = z
      · have h1b : ((y : Int) == z) = true := by simpa using h1
        have HR := Lib.hid (HI.out s (by rw [HS.out, if_pos h1]; omega))
        clear HS HI
        gi_wp2
        exact ⟨Hst.out.1.from _, ⟨Hst.out.2.1.1, (HKT.out _).1, (HKT.out 0).2⟩, by omega, Hst.out.2.2.1, by rw [HR.out]; exact Hst.out.2.2.2.1⟩
      · have h1b : ((y : Int) == z) = false := by simpa using h1
        have HR := Lib.hid (HI.out (s + p2) (by rw [HS.out, if_neg h1]))
        clear HS HI
        gi_wp2
        exact ⟨(Hst.out.1.trans (KeepsOthers.setCell _ _ _)).from _, ⟨Hst.out.2.1.1.setCell (p := ⟨w2.heap.size, 0, none⟩) z2 _, (HKT.out _).1.trans (Mid.set _ _ _ _ (.inl (by omega))), (HKT.out 0).2.trans (KeepsT.set _ _ _ _ (by omega))⟩, by simp [World.setCell]; omega, Hst.out.2.2.1.setCell (p := ⟨w2.heap.size, 0, none⟩) z2 _, by rw [HR.out]; exact Hst.out.2.2.2.1.set _⟩
    case done =>
      rintro E ys W hD hys ⟨hz, hB, hG⟩ hK
      rw [hys] at hG
      have c1 := hG.cell
      gi_wp2
      refine ⟨by simp, .inl ⟨_, _, rfl, run_takeDeferred hK, ?_⟩⟩
      refine ⟨_, results_tmp rfl _ _ _, ?_, ((HB0.out.trans (hB.mono HB0.out.size)).trans (belowK_b (w := w) (Nat.le_refl _) _ E _ _ (by omega) hK rfl rfl))⟩
      exact ret1 HZ.out.symm
    case stop =>
      rintro E c pre W hD hpre h hK
      exact h.elim
end Go.Proofs.Ytjpgkocffceeoaa
