/- Contracts: numbered, together, Lift, Shrink, small, kept, again, Levels, and levels gathered. -/
import Derived.Test.YtbjgfkiaoffhlaaCmA
import Derived.Test.YtbjgfkiaoffhlaaYh
import Derived.Test.YtbjgfkiaoffhlaaYd
import Derived.Test.YtbjgfkiaoffhlaaYf
import Derived.Test.YtbjgfkiaoffhlaaAr
import Derived.Deep.RegionHeld3
import Derived.Deep.Cut
import Derived.Test.YtbjgfkiaoffhlaaGbr
import Derived.Test.YtbjgfkiaoffhlaaCol
set_option linter.unusedVariables false
set_option linter.unusedSectionVars false
namespace Go.Proofs.Ytbjgfkiaoffhlaa
open Go.RowKit Go.Shelf Rk

set_option maxRecDepth 100000 in
set_option maxHeartbeats 2000000 in
theorem numbered_any {w : World} {a : Option Addr} {b off len cap : Nat} {ms : List Int} (hm : IntsAt .i64 w.heap.size w a b off len ms) (hr : mateR ms = true) (h4 : len ≤ 4096) :
    Calls Try.prog 44 #[.slice a len cap] w fun e w' => ∃ ib, e = .returned (.slice (some ⟨ib, 0, none⟩) len len) ∧ MtR w ib len (fun i => (inL ms).getD i 0) w' := by
  have hmk := madeInts w len h4
  have hl := hm.length
  have hR0 : MtR w w.heap.size len (fun i => (inS ms 0).1.getD i 0) (w.alloc (.cells (rowC len (fun _ => 0)) 3)) := ⟨World.alloc_heap_new w _, Nat.le_refl _, (Below.refl _ w).alloc (Nat.le_refl _) _⟩
  have HR0 := Lib.hid hR0
  have HM := Lib.hid hm
  have HMr := Lib.hid (mateR_iff.1 hr)
  rw [hl] at HMr
  have HBd := Lib.hid (fun k (hk : k ≤ len) => inS_bd hr k (by rw [hl]; exact hk))
  have HEnd : Hid ((inS ms len).1 = inL ms) := Lib.hid (by unfold inL; rw [hl])
  have hon : ∀ k, (inS ms k).2 ≤ k := fun k => by
    induction k with
    | zero => exact Nat.le_refl _
    | succ k ih =>
      by_cases h1 : ms.getD k 0 < (k : Int)
      · rw [(inS_lt ms h1).2]; omega
      · rw [(inS_ge ms h1).2]; omega
  have HOn := Lib.hid hon
  clear hm hr hl hR0 hon
  go_enter Try.func44, Try.ntmps44
  go_wp2
  go_loopw [4, 12] (fun o i wr => ∃ j : Nat, i = .int .i64 j ∧ o = .int .i64 ((inS ms j).2 : Nat) ∧ j ≤ len ∧ Hid (MtR w w.heap.size len (fun i => (inS ms j).1.getD i 0) wr)) (fun o i _ => len - (intOf i).toNat)
  case atStart => exact ⟨0, rfl, rfl, Nat.zero_le _, HR0⟩
  case round =>
    clear HR0 hmk
    obtain ⟨j, rfl, rfl, hj, HW⟩ := hrel
    by_cases hlt : j < len
    · have c0 := (HM.out.kept HW.out.below (Nat.le_refl _)).cell j hlt
      obtain rfl : a = some ⟨b, off, none⟩ := HM.out.addr.resolve_left (by omega)
      have hji : (j : Int) < (len : Int) := by omega
      obtain ⟨hm0, hm1, _⟩ := HMr.out j hlt
      obtain ⟨c, hc⟩ : ∃ c : Nat, ms.getD j 0 = (c : Int) := ⟨_, (Int.toNat_of_nonneg hm0).symm⟩
      have f1 := heap_frozen HW.out.row j
      obtain ⟨x9, c9⟩ : ∃ x9 : Int, wr.cell? ⟨w.heap.size, j, none⟩ = some (.int .i64 x9) := ⟨_, heap_cell HW.out.row (rowC_at (fun i => (inS ms j).1.getD i 0) hlt)⟩
      by_cases hlo : c < j
      · have hclo : (c : Int) < (j : Int) := by omega
        obtain ⟨hs1, hs2⟩ := inS_lt ms (k := j) (by rw [hc]; exact hclo)
        rw [hc, Int.toNat_natCast] at hs1
        obtain ⟨o, ho, _⟩ := HBd.out j (by omega) c hlo
        rw [ho] at hs1
        have hcl : c < len := by omega
        have hci : (c : Int) < (len : Int) := by omega
        have c1 : wr.cell? ⟨w.heap.size, c, none⟩ = some (.int .i64 (o : Int)) := by have := heap_cell HW.out.row (rowC_at (fun i => (inS ms j).1.getD i 0) hcl); rw [ho] at this; exact this
        have HN : Hid (MtR w w.heap.size len (fun i => (inS ms (j + 1)).1.getD i 0) (wr.setCell ⟨w.heap.size, j, none⟩ (.int .i64 (o : Int)))) := Lib.hid (by rw [inF_step ms (o : Int) hs1]; exact HW.out.set hlt _)
        have HS2 := Lib.hid hs2
        rw [hc] at c0
        clear hm0 hm1 hc hs1 hs2 ho HW
        generalize (inS ms j).2 = on at *
        go_wp2
        go_roundw
        case rel => exact ⟨j + 1, by go_num, by rw [HS2.out], by omega, HN⟩
        case measure => simp [intOf]; omega
      · have hclo : decide ((c : Int) < (j : Int)) = false := by simp; omega
        obtain ⟨hs1, hs2⟩ := inS_ge ms (k := j) (by rw [hc]; omega)
        have hon := HOn.out j
        have HN : Hid (MtR w w.heap.size len (fun i => (inS ms (j + 1)).1.getD i 0) (wr.setCell ⟨w.heap.size, j, none⟩ (.int .i64 ((inS ms j).2 : Int)))) := Lib.hid (by rw [inF_step ms _ hs1]; exact HW.out.set hlt _)
        have HS2 := Lib.hid hs2
        rw [hc] at c0
        clear hm0 hm1 hc hs1 hs2 HW
        generalize (inS ms j).2 = on at *
        go_wp2
        go_roundw
        case rel => exact ⟨j + 1, by go_num, by rw [HS2.out]; go_num, by omega, HN⟩
        case measure => simp [intOf]; omega
    · obtain rfl : j = len := by omega
      rw [HEnd.out] at HW
      go_wp2
      go_ret
      exact ⟨_, rfl, HW.out⟩
theorem getD_wts' {ws : List Int} (hw : ∀ x ∈ ws, 1 ≤ x ∧ x ≤ 1099511627776) {k : Nat} (h : k < ws.length) : 1 ≤ ws.getD k 0 ∧ ws.getD k 0 ≤ 1099511627776 := getD_wts hw h
set_option maxRecDepth 100000 in
set_option maxHeartbeats 2000000 in
theorem together_any {w : World} {g nb : Nat} {ws : List Int} {F : Nat → Nat → Int} (h : IsG w g nb ws F) {a : Option Addr} {b off len cap : Nat} {is : List Int} (hm : IntsAt .i64 w.heap.size w a b off len is) (hl : is.length = ws.length) (m : Nat) (hmle : m ≤ 4096) (hin : ∀ i, i < ws.length → ∃ o : Nat, is.getD i 0 = (o : Int) ∧ o < m) :
    Calls Try.prog 45 #[.pointer (some ⟨g, 0, none⟩), .slice a len cap, .int .i64 (m : Int)] w fun e w' => ∃ wb, e = .returned (.slice (some ⟨wb, 0, none⟩) m m) ∧ WtR w wb m (wtsT ws is ws.length) w' := by
  have hlen : len = ws.length := by rw [← hm.length, hl]
  have hsm := h.small
  subst hlen
  have HH := Lib.hid h
  have HM := Lib.hid hm
  have HIn := Lib.hid hin
  have hbd := Lib.hid (fun j hj => wtsT_bd is h.wts j hj)
  have hmk := madeRow w m hmle
  have hW0 : WtR w w.heap.size m (wtsT ws is 0) (w.alloc (.cells (rowC m (noTab 0)) 2)) := ⟨World.alloc_heap_new w _, Nat.le_refl _, (Below.refl _ w).alloc (Nat.le_refl _) _⟩
  have HW0 := Lib.hid hW0
  clear h hm hin hW0 hl
  generalize hn : ws.length = n at *
  go_enter Try.func45, Try.ntmps45
  go_wp2
  go_loopw [14] (fun i wr => ∃ j : Nat, i = .int .i64 j ∧ j ≤ n ∧ Hid (WtR w w.heap.size m (wtsT ws is j) wr)) (fun i _ => n - (intOf i).toNat)
  case atStart => exact ⟨0, rfl, Nat.zero_le _, HW0⟩
  case round =>
    clear HW0 hmk
    obtain ⟨j, rfl, hj, HW⟩ := hrel
    by_cases hlt : j < n
    · have hI := HM.out.kept HW.out.below (Nat.le_refl _)
      have hcell := hI.cell j hlt
      obtain rfl : a = some ⟨b, off, none⟩ := HM.out.addr.resolve_left (by omega)
      obtain ⟨p, hp, hpk⟩ := HIn.out j hlt
      rw [hp] at hcell
      have hS : wtsT ws is (j + 1) = upd (wtsT ws is j) p (wtsT ws is j p + ws.getD j 0) := by simp only [wtsT, hp, Int.toNat_natCast]
      have hb1 := hbd.out j (by omega) p
      have hx := getD_wts HH.out.wts (k := j) (by omega)
      have hwt : wtOf ws (j : Int) = ws.getD j 0 := by unfold wtOf; rw [if_pos ⟨by omega, by rw [hn]; omega⟩, Int.toNat_natCast]
      have HG : Hid (∀ W, Below wr.heap.size wr W → Calls Try.prog 43 #[.pointer (some ⟨g, 0, none⟩), .int .i64 (j : Int)] W fun e w' => e = .returned (.int .i64 (ws.getD j 0)) ∧ W = w') := Lib.hid (fun W hW => weight_lit (HH.out.below (HW.out.below.trans (hW.mono HW.out.below.size))) j hwt)
      have HS := Lib.hid hS
      generalize wtsT ws is j = f at *
      generalize ws.getD j 0 = x at *
      have s2 : wr.cell? ⟨w.heap.size, p, none⟩ = some (.int .i64 (f p)) := heap_cell HW.out.row (rowC_at f hpk)
      have s3 : wr.frozen? ⟨w.heap.size, p, none⟩ = false := heap_frozen HW.out.row p
      have hw : IntKind.i64.wrap (f p + x) = f p + x := IntWalk.i64_in _ (by omega)
      have hpi : (p : Int) < (m : Int) := by omega
      clear hI hp hS hwt
      go_wp2_with fail
      have HG1 := Lib.hid (HG.out _ (Below.refl _ _))
      have HG2 := Lib.hid (HG.out _ (Below.refl _ _).drew)
      have HS2 : Hid (WtR w w.heap.size m (wtsT ws is (j + 1)) ((wr.setCell ⟨w.heap.size, p, none⟩ (.int .i64 (f p + x))).drew)) := Lib.hid (by rw [HS.out]; exact (HW.out.set hpk _).on (Below.refl _ _).drew)
      clear HG
      go_region_with (first
        | (go_at_call 43; refine HG2.out.mono ?_; rintro e w' ⟨rfl, rfl⟩)
        | (go_at_call 43; refine HG1.out.mono ?_; rintro e w' ⟨rfl, rfl⟩))
      all_goals
        go_wp2
        go_roundw
        case rel => exact ⟨j + 1, by go_num, by omega, HS2⟩
        case measure => simp [intOf]; omega
    · obtain rfl : j = n := by omega
      go_wp2
      go_ret
      exact ⟨w.heap.size, rfl, HW.out⟩
/-- Each is in one that has a part. -/
def liftOk (ps is : List Int) (i : Nat) : Bool := decide (0 ≤ is.getD i 0 ∧ is.getD i 0 < (ps.length : Int))
def liftR (ps is : List Int) : Bool := (List.range is.length).all (liftOk ps is)
theorem liftR_iff {ps is : List Int} : liftR ps is = true ↔ ∀ i, i < is.length → 0 ≤ is.getD i 0 ∧ is.getD i 0 < (ps.length : Int) := by
  unfold liftR
  rw [List.all_eq_true]
  exact ⟨fun h i hi => of_decide_eq_true (h i (List.mem_range.2 hi)), fun h i hi => decide_eq_true (h i (List.mem_range.1 hi))⟩
theorem liftR_no {ps is : List Int} {j : Nat} (hj : j < is.length) (h : ¬ (0 ≤ is.getD j 0 ∧ is.getD j 0 < (ps.length : Int))) : liftR ps is = false := by
  cases e : liftR ps is with
  | false => rfl
  | true => exact absurd (liftR_iff.1 e j hj) h
def liftF (ps is : List Int) (i : Nat) : Int := ps.getD (is.getD i 0).toNat 0
def liftTo (ps is : List Int) (j : Nat) : Nat → Int := fun i => if i < j then liftF ps is i else 0
theorem liftTo_succ (ps is : List Int) (j : Nat) : liftTo ps is (j + 1) = upd (liftTo ps is j) j (liftF ps is j) := by
  funext c
  unfold liftTo upd
  by_cases e : c = j
  · rw [if_pos e, if_pos (by omega), e]
  · rw [if_neg e]
    by_cases h : c < j
    · rw [if_pos (show c < j + 1 by omega)]; exact (if_pos h).symm
    · rw [if_neg (show ¬ c < j + 1 by omega)]; exact (if_neg h).symm
def liftL (ps is : List Int) : List Int := matesL is.length (liftF ps is)
/-- What Lift leaves. -/
def LiftPost (ps is : List Int) (w : World) (e : Ending) (w' : World) : Prop :=
  Below w.heap.size w w' ∧ ((liftR ps is = false ∧ e = .returned (.tuple #[.slice none 0 0, .int .i64 4])) ∨
    (liftR ps is = true ∧ ∃ lb, e = .returned (.tuple #[.slice (some ⟨lb, 0, none⟩) is.length is.length, .int .i64 0]) ∧ IntsAt .i64 w'.heap.size w' (some ⟨lb, 0, none⟩) lb 0 is.length (liftL ps is) ∧ w.heap.size ≤ lb))
set_option maxRecDepth 100000 in
set_option maxHeartbeats 2000000 in
theorem lift_any {w : World} {a1 a2 : Option Addr} {b1 off1 len1 cap1 b2 off2 len2 cap2 : Nat} {ps is : List Int} (hp : IntsAt .i64 w.heap.size w a1 b1 off1 len1 ps) (hi : IntsAt .i64 w.heap.size w a2 b2 off2 len2 is) (h4 : len2 ≤ 4096) :
    Calls Try.prog 27 #[.slice a1 len1 cap1, .slice a2 len2 cap2] w (LiftPost ps is w) := by
  have hlp := hp.length
  have hli := hi.length
  have hsp := hp.small
  unfold maxLen at hsp
  have hmk := madeInts w len2 h4
  have hR0 : MtR w w.heap.size len2 (liftTo ps is 0) (w.alloc (.cells (rowC len2 (fun _ => 0)) 3)) := ⟨World.alloc_heap_new w _, Nat.le_refl _, (Below.refl _ w).alloc (Nat.le_refl _) _⟩
  have HR0 := Lib.hid hR0
  have HP := Lib.hid hp
  have HI := Lib.hid hi
  have HLP := Lib.hid hlp
  have HLI := Lib.hid hli
  have HNo : Hid (∀ j, j < len2 → ¬ (0 ≤ is.getD j 0 ∧ is.getD j 0 < (len1 : Int)) → liftR ps is = false) := Lib.hid (fun j hj h => liftR_no (by rw [hli]; exact hj) (by rw [hlp]; exact h))
  have HYes : Hid ((∀ j, j < len2 → 0 ≤ is.getD j 0 ∧ is.getD j 0 < (len1 : Int)) → liftR ps is = true) := Lib.hid (fun h => liftR_iff.2 (by rw [hli, hlp]; exact h))
  clear hp hi hlp hli hR0
  go_enter Try.func27, Try.ntmps27
  go_wp2
  go_loopw [14] (fun i wr => ∃ j : Nat, i = .int .i64 j ∧ j ≤ len2 ∧ Hid (∀ i, i < j → 0 ≤ is.getD i 0 ∧ is.getD i 0 < (len1 : Int)) ∧ Hid (MtR w w.heap.size len2 (liftTo ps is j) wr)) (fun i _ => len2 - (intOf i).toNat)
  case atStart => exact ⟨0, rfl, Nat.zero_le _, Lib.hid (fun i hi => absurd hi (Nat.not_lt_zero _)), HR0⟩
  case round =>
    clear HR0 hmk
    obtain ⟨j, rfl, hj, HJ, HW⟩ := hrel
    by_cases hlt : j < len2
    · have c0 := (HI.out.kept HW.out.below (Nat.le_refl _)).cell j hlt
      obtain rfl : a2 = some ⟨b2, off2, none⟩ := HI.out.addr.resolve_left (by omega)
      have hji : (j : Int) < (len2 : Int) := by omega
      have f1 := heap_frozen HW.out.row j
      obtain ⟨x9, c9⟩ : ∃ x9 : Int, wr.cell? ⟨w.heap.size, j, none⟩ = some (.int .i64 x9) := ⟨_, heap_cell HW.out.row (rowC_at (liftTo ps is j) hlt)⟩
      by_cases h1 : is.getD j 0 < 0
      · have d1 : decide (is.getD j 0 < 0) = true := by simpa using h1
        have hr := Lib.hid (HNo.out j hlt (by omega))
        have HB := Lib.hid HW.out.below
        clear h1 HW
        generalize is.getD j 0 = y at *
        go_wp2
        go_ret2
        exact ⟨HB.out, .inl ⟨hr.out, rfl⟩⟩
      · have d1 : decide (is.getD j 0 < 0) = false := by simpa using h1
        by_cases h2 : (len1 : Int) ≤ is.getD j 0
        · have d2 : decide ((len1 : Int) ≤ is.getD j 0) = true := by simpa using h2
          have hr := Lib.hid (HNo.out j hlt (by omega))
          have HB := Lib.hid HW.out.below
          clear h1 h2 HW
          generalize is.getD j 0 = y at *
          go_wp2
          go_ret2
          exact ⟨HB.out, .inl ⟨hr.out, rfl⟩⟩
        · have d2 : decide ((len1 : Int) ≤ is.getD j 0) = false := by simpa using h2
          have HJ2 : Hid (∀ i, i < j + 1 → 0 ≤ is.getD i 0 ∧ is.getD i 0 < (len1 : Int)) := Lib.hid (fun i hi => by
            by_cases e : i = j
            · subst e; omega
            · exact HJ.out i (by omega))
          obtain ⟨c, hc⟩ : ∃ c : Nat, is.getD j 0 = (c : Int) := ⟨_, (Int.toNat_of_nonneg (by omega)).symm⟩
          have hcl : c < len1 := by omega
          have hci : (c : Int) < (len1 : Int) := by omega
          have c1 := (HP.out.kept HW.out.below (Nat.le_refl _)).cell c hcl
          obtain rfl : a1 = some ⟨b1, off1, none⟩ := HP.out.addr.resolve_left (by omega)
          have HN : Hid (MtR w w.heap.size len2 (liftTo ps is (j + 1)) (wr.setCell ⟨w.heap.size, j, none⟩ (.int .i64 (ps.getD c 0)))) := Lib.hid (by
            rw [liftTo_succ, show liftF ps is j = ps.getD c 0 by unfold liftF; rw [hc, Int.toNat_natCast]]; exact HW.out.set hlt _)
          rw [hc] at c0 d1 d2
          clear h1 h2 hc HW HJ
          generalize ps.getD c 0 = y at *
          go_wp2
          go_roundw
          case rel => exact ⟨j + 1, by go_num, by omega, HJ2, HN⟩
          case measure => simp [intOf]; omega
    · obtain rfl : j = len2 := by omega
      have hI : IntsAt .i64 wr.heap.size wr (some ⟨w.heap.size, 0, none⟩) w.heap.size 0 j (liftL ps is) := by
        have := ints_rowC (HW.out.congr (f' := liftF ps is) (fun i hi => by unfold liftTo; rw [if_pos hi])).row (by omega) (fun i hi => by
          have h1 := HJ.out i hi
          have h2 : (is.getD i 0).toNat < ps.length := by rw [HLP.out]; omega
          unfold liftF
          rw [List.getD_eq_getElem?_getD, List.getElem?_eq_getElem h2]
          exact HP.out.fits _ (List.getElem_mem h2))
        unfold liftL
        rw [HLI.out]
        exact this
      have HIx := Lib.hid hI
      clear hI
      go_wp2
      go_ret2
      refine ⟨HW.out.below, .inr ⟨HYes.out HJ.out, _, by rw [HLI.out]; rfl, ?_, Nat.le_refl _⟩⟩
      rw [HLI.out]
      exact HIx.out
end Go.Proofs.Ytbjgfkiaoffhlaa

namespace Go.Proofs.Ytbjgfkiaoffhlaa
open Go.RowKit Go.Shelf Rk

attribute [local go_sem] Oper.semAt_some

/-- An object that is no part of a graph: no cells at all, or a row of one of E that doesn't begin with a number. -/
def OffO (E : TypeId → Prop) (o : Obj) : Prop := o.isCells = false ∨ ∃ cs t fr, o = .cells cs t fr ∧ E t ∧ ∀ k n, cs[0]? ≠ some (.int k n)
/-- Rows of E are none of a graph's. -/
structure OkE (E : TypeId → Prop) : Prop where
  e1 : ¬ E 87
  e2 : ¬ E 84
  e3 : ¬ E 130
theorem OffO.ne {E : TypeId → Prop} {o : Obj} (h : OffO E o) {cs : Array Value} {t : TypeId} {fr : Nat × Nat} (ht : ¬ E t) : o ≠ .cells cs t fr := by
  rintro rfl
  rcases h with h | ⟨cs', t', fr', h, h2, _⟩
  · cases h
  · injection h with _ h; exact ht (h ▸ h2)
theorem OffO.int {E : TypeId → Prop} {W : World} {b : Nat} {o : Obj} {k : IntKind} {n : Int} (h : OffO E o) (ho : W.heap[b]? = some o) (hc : W.cell? ⟨b, 0, none⟩ = some (.int k n)) : False := by
  rcases h with h | ⟨cs, t, fr, rfl, _, h⟩
  · cases o with
    | cells cs t fr => cases h
    | _ => simp [World.cell?, ho] at hc
  · have : cs[0]? = some (.int k n) := by simpa [World.cell?, ho] using hc
    exact h _ _ this
theorem ints_off {E : TypeId → Prop} {R : Nat → Prop} {w w' : World} {a : Option Addr} {b len : Nat} {k : IntKind} {zs : List Int} (h : IntsAt k w.heap.size w a b 0 len zs) (ht : Turned R w w') (hR : ∀ c, R c → ∀ o, w.heap[c]? = some o → OffO E o) : IntsAt k w'.heap.size w' a b 0 len zs := by
  refine h.turned ht ?_
  by_cases h0 : len = 0
  · exact .inl h0
  · refine .inr fun e => ?_
    have hb := h.below.resolve_left h0
    have ho : w.heap[b]? = some (w.heap[b]'hb) := Array.getElem?_eq_getElem hb
    exact (hR b e _ ho).int ho (h.cell 0 (by omega))
theorem IsG.off {E : TypeId → Prop} (hE : OkE E) {R : Nat → Prop} {w w' : World} {g nb : Nat} {ws : List Int} {F : Nat → Nat → Int} (h : IsG w g nb ws F) (ht : Turned R w w') (hR : ∀ c, R c → ∀ o, w.heap[c]? = some o → OffO E o) : IsG w' g nb ws F := by
  obtain ⟨wa, wc, wb, h1, h2⟩ := h.box
  obtain ⟨cs, h3⟩ := h.maps
  have hn : ¬ R nb := fun e => (hR nb e _ h3).ne hE.e2 rfl
  exact ⟨⟨wa, wc, wb, ht.old h1 (fun e => (hR g e _ h1).ne hE.e1 rfl), ints_off h2 ht hR⟩, ⟨cs, ht.old h3 hn⟩, fun i hi => (h.map i hi).turned ht hn (fun c hc o ho cs fr => (hR c hc o ho).ne hE.e3), h.tab, h.small, h.wts⟩
theorem okE_graph : OkE (fun t => t = 95) := ⟨by decide, by decide, by decide⟩
theorem Turned.of_grown {w w' : World} {row : Option Nat} (h : w.grownBy w' row) : Turned (fun k => some k = row) w w' := ⟨h.os, h.tape, h.output, h.size, fun k hk hn => h.block k hk hn⟩
/-- A graph stays where blocks that are no cells are turned. -/
theorem IsG.grown {w w' : World} {g nb : Nat} {ws : List Int} {F : Nat → Nat → Int} {row : Option Nat} (h : IsG w g nb ws F) (hg : w.grownBy w' row) (hr : ∀ r, row = some r → ∃ o : Obj, w.heap[r]? = some o ∧ o.isCells = false) : IsG w' g nb ws F :=
  h.off okE_graph (Turned.of_grown hg) (fun c hc o ho => by
    obtain ⟨o', h1, h2⟩ := hr c hc.symm
    rw [ho] at h1; cases h1; exact .inl h2)
theorem keepsT_turned {E : TypeId} {hi m : Nat} {A B : World} (h : Turned (fun c => c = m) A B) (hm : m < hi) : KeepsT E hi A B := ⟨h.size, fun k o h1 h2 _ => h.old h2 (by omega)⟩
/-- The three answers' cells. -/
structure Res3 (w W : World) : Prop where
  b4 : ∃ v : Option Addr, Boxed W w.heap.size 26 (.pointer v)
  b5 : ∃ v : Option Addr × Nat × Nat, Boxed W (w.heap.size + 1) 24 (.slice v.1 v.2.1 v.2.2)
  b6 : Boxed W (w.heap.size + 1 + 1) 45 (.int .i64 0)
  below : Below w.heap.size w W
theorem boxed_below {W W' : World} {b : Nat} {t : TypeId} {v : Value} (h : Boxed W b t v) (hb : Below W.heap.size W W') : Boxed W' b t v := heap_below h hb (heap_lt h)
theorem Res3.on {w W W' : World} (h : Res3 w W) (hb : Below W.heap.size W W') : Res3 w W' := by
  obtain ⟨v4, h4⟩ := h.b4
  obtain ⟨v5, h5⟩ := h.b5
  have h6 := h.b6
  exact ⟨⟨v4, boxed_below h4 hb⟩, ⟨v5, boxed_below h5 hb⟩, boxed_below h6 hb, h.below.trans (hb.mono h.below.size)⟩
theorem Res3.start (w : World) : Res3 w (((w.alloc (.cells #[.pointer none] 26)).alloc (.cells #[.slice none 0 0] 24)).alloc (.cells #[.int .i64 0] 45)) := by
  refine ⟨⟨none, ?_⟩, ⟨(none, 0, 0), ?_⟩, ?_, (((Below.refl _ w).alloc (Nat.le_refl _) _).alloc (by simp) _).alloc (by simp; omega) _⟩
  · exact ((Boxed.new w _ (.pointer none)).alloc _).alloc _
  · exact (by have := Boxed.new (w.alloc (.cells #[.pointer none] 26)) 24 (.slice none 0 0); simp only [World.size_alloc] at this; exact this.alloc _)
  · exact (by have := Boxed.new ((w.alloc (.cells #[.pointer none] 26)).alloc (.cells #[.slice none 0 0] 24)) 45 (.int .i64 0); simp only [World.size_alloc] at this; exact this)
/-- All three answers are given. -/
theorem Res3.give {w W : World} (h : Res3 w W) (x4 x5 x6 : Value) :
    Boxed (((W.setCell ⟨w.heap.size, 0, none⟩ x4).setCell ⟨w.heap.size + 1, 0, none⟩ x5).setCell ⟨w.heap.size + 1 + 1, 0, none⟩ x6) w.heap.size 26 x4 ∧
    Boxed (((W.setCell ⟨w.heap.size, 0, none⟩ x4).setCell ⟨w.heap.size + 1, 0, none⟩ x5).setCell ⟨w.heap.size + 1 + 1, 0, none⟩ x6) (w.heap.size + 1) 24 x5 ∧
    Boxed (((W.setCell ⟨w.heap.size, 0, none⟩ x4).setCell ⟨w.heap.size + 1, 0, none⟩ x5).setCell ⟨w.heap.size + 1 + 1, 0, none⟩ x6) (w.heap.size + 1 + 1) 45 x6 ∧
    Below w.heap.size w (((W.setCell ⟨w.heap.size, 0, none⟩ x4).setCell ⟨w.heap.size + 1, 0, none⟩ x5).setCell ⟨w.heap.size + 1 + 1, 0, none⟩ x6) := by
  obtain ⟨v4, h4⟩ := h.b4
  obtain ⟨v5, h5⟩ := h.b5
  have h6 := h.b6
  exact ⟨((h4.set _).other (by omega) _).other (by omega) _, ((h5.other (by omega) _).set _).other (by omega) _, ((h6.other (by omega) _).other (by omega) _).set _,
    ((h.below.setCell (p := ⟨w.heap.size, 0, none⟩) (Nat.le_refl _) _).setCell (p := ⟨w.heap.size + 1, 0, none⟩) (by show w.heap.size ≤ w.heap.size + 1; omega) _).setCell (p := ⟨w.heap.size + 1 + 1, 0, none⟩) (by show w.heap.size ≤ w.heap.size + 1 + 1; omega) _⟩
/-- What Shrink leaves. -/
def ShrinkPost (ws : List Int) (F : Nat → Nat → Int) (ms : List Int) (w : World) (e : Ending) (w' : World) : Prop :=
  Below w.heap.size w w' ∧ ((shrE ws F ms ≠ 0 ∧ e = .returned (.tuple #[.pointer none, .slice none 0 0, .int .i64 (shrE ws F ms)])) ∨
    (shrE ws F ms = 0 ∧ ∃ g nb ib, e = .returned (.tuple #[.pointer (some ⟨g, 0, none⟩), .slice (some ⟨ib, 0, none⟩) ws.length ws.length, .int .i64 0]) ∧ IsG w' g nb (wsS ws ms) (shrF ws F ms) ∧ IntsAt .i64 w'.heap.size w' (some ⟨ib, 0, none⟩) ib 0 ws.length (inL ms) ∧ w.heap.size ≤ g ∧ w.heap.size ≤ nb ∧ w.heap.size ≤ ib))
set_option maxRecDepth 100000 in
set_option maxHeartbeats 4000000 in
theorem shrink_wrong {w : World} {g nb : Nat} {ws : List Int} {F : Nat → Nat → Int} (h : IsG w g nb ws F) {a : Option Addr} {b off len cap : Nat} {ms : List Int} (hm : IntsAt .i64 w.heap.size w a b off len ms) (hE : ms.length ≠ ws.length ∨ mateR ms = false) :
    Calls Try.prog 24 #[.pointer (some ⟨g, 0, none⟩), .slice a len cap] w (ShrinkPost ws F ms w) := by
  have hv : shrE ws F ms = 1 := if_pos hE
  have HPst : Hid (∀ W, Below w.heap.size w W → ShrinkPost ws F ms w (.returned (.tuple #[.pointer none, .slice none 0 0, .int .i64 1])) W) := Lib.hid (fun W hW => ⟨hW, .inl ⟨by rw [hv]; decide, by rw [hv]⟩⟩)
  have HS0 := Lib.hid (Res3.start w)
  have HLe := Lib.hid (fun W (hW : Below w.heap.size w W) => glen_any (h.below hW))
  have HRt := Lib.hid (fun W (hW : Below w.heap.size w W) => mright_any (cap := cap) (hm.kept hW (Nat.le_refl _)))
  have hl := hm.length
  clear h hm hv
  refine (callsIn_wide (n := 3)).1 ?_
  refine callsIn_of_wp_marks Try.func24 rfl trivial ?_ rfl
  simp only [Try.ntmps24, List.size_toArray, List.length_cons, List.length_nil, Nat.reduceAdd, Nat.reduceSub, Array.replicate_succ, Array.replicate_zero, List.push_toArray, List.append_toArray, List.nil_append, List.cons_append]
  refine wpIn_wide.2 ?_
  go_upto_region 1 with fail
  obtain ⟨w1, hw1⟩ : ∃ w1, (((w.alloc (.cells #[.pointer none] 26)).alloc (.cells #[.slice none 0 0] 24)).alloc (.cells #[.int .i64 0] 45)) = w1 := ⟨_, rfl⟩
  rw [hw1] at HS0 ⊢
  have HLe1 := Lib.hid (HLe.out _ HS0.out.below)
  have HRt1 := Lib.hid (HRt.out _ HS0.out.below)
  clear hw1 HLe HRt
  obtain ⟨v4, h4⟩ := HS0.out.b4
  obtain ⟨v5, h5⟩ := HS0.out.b5
  have h6 := HS0.out.b6
  have c4 := h4.cell
  have f4 := h4.frozen
  have c5 := (h5.other (B' := w.heap.size) (by omega) (.pointer none)).cell
  have f5 := (h5.other (B' := w.heap.size) (by omega) (.pointer none)).frozen
  have c6 := ((h6.other (B' := w.heap.size) (by omega) (.pointer none)).other (B' := w.heap.size + 1) (by omega) (.slice none 0 0)).cell
  have f6 := ((h6.other (B' := w.heap.size) (by omega) (.pointer none)).other (B' := w.heap.size + 1) (by omega) (.slice none 0 0)).frozen
  have HG := Lib.hid (HS0.out.give (.pointer none) (.slice none 0 0) (.int .i64 1))
  clear h4 h5 h6
  by_cases hne : len = ws.length
  · have hr : mateR ms = false := hE.resolve_left (fun e => e (by omega))
    rw [hr] at HRt1
    subst hne
    clear hE hr hl
    generalize ws.length = n at *
    have hd : ((n : Int) != (n : Int)) = false := by simp
    go_wp2_with (first
      | (go_at_call 31; refine HLe1.out.mono ?_; rintro e w' ⟨rfl, rfl⟩)
      | (go_at_call 16; refine HRt1.out.mono ?_; rintro e w' ⟨rfl, rfl⟩))
    obtain ⟨q4, q5, q6, hb⟩ := HG.out
    refine ⟨.tuple #[.pointer none, .slice none 0 0, .int .i64 1], by simp [results, Try.f24, go_sem, q4.cell, q5.cell, q6.cell], HPst.out _ hb⟩
  · have hd : ((len : Int) == (ws.length : Int)) = false := by simp; omega
    have hd2 : ((len : Int) != (ws.length : Int)) = true := by simp; omega
    clear hE hl hne
    generalize ws.length = n at *
    go_wp2_with (first
      | (go_at_call 31; refine HLe1.out.mono ?_; rintro e w' ⟨rfl, rfl⟩))
    obtain ⟨q4, q5, q6, hb⟩ := HG.out
    refine ⟨.tuple #[.pointer none, .slice none 0 0, .int .i64 1], by simp [results, Try.f24, go_sem, q4.cell, q5.cell, q6.cell], HPst.out _ hb⟩
/-- Behind the numbering. -/
structure Sh1 (w : World) (ib bx n : Nat) (is : List Int) (W : World) : Prop where
  res : Res3 w W
  row : IntsAt .i64 W.heap.size W (some ⟨ib, 0, none⟩) ib 0 n is
  box : Boxed W bx 24 (.slice (some ⟨ib, 0, none⟩) n n)
theorem Sh1.on {w : World} {ib bx n : Nat} {is : List Int} {W W' : World} (h : Sh1 w ib bx n is W) (hb : Below W.heap.size W W') : Sh1 w ib bx n is W' :=
  ⟨h.res.on hb, (h.row.kept hb (Nat.le_refl _)).mono hb.size, boxed_below h.box hb⟩
theorem Sh1.on_alloc {w : World} {ib bx n : Nat} {is : List Int} {W : World} (h : Sh1 w ib bx n is W) (o : Obj) : Sh1 w ib bx n is (W.alloc o) := h.on ((Below.refl _ _).alloc (Nat.le_refl _) _)
theorem Sh1.on_drew {w : World} {ib bx n : Nat} {is : List Int} {W : World} (h : Sh1 w ib bx n is W) : Sh1 w ib bx n is W.drew := h.on (Below.refl _ _).drew
theorem box_thru {W W' : World} {v : Value} {t : TypeId} (hb : Below (W.alloc (.cells #[v] t)).heap.size (W.alloc (.cells #[v] t)) W') : Boxed W' W.heap.size t v := boxed_below (Boxed.new W t v) hb
theorem box_thru' {W0 W W' : World} {v : Value} {t : TypeId} (hX : W.heap = (W0.alloc (.cells #[v] t)).heap) (hb : Below W.heap.size W W') : Boxed W' W0.heap.size t v :=
  boxed_below (W := W) (show W.heap[W0.heap.size]? = _ by rw [hX]; exact Boxed.new W0 t v) hb
/-- What New answers, in one. -/
theorem new_one {zs : List Int} {w : World} {e : Ending} {w' : World} (h : NewPost zs w e w') : Below w.heap.size w w' ∧ ∃ p, e = .returned (.tuple #[.pointer p, .int .i64 (newE zs)]) ∧ Hid (newE zs = 0 → ∃ g nb, p = some ⟨g, 0, none⟩ ∧ IsG w' g nb zs noTab ∧ w.heap.size ≤ g ∧ w.heap.size ≤ nb) := by
  obtain ⟨hb, ⟨h1, rfl⟩ | ⟨h1, g, nb, rfl, h2, h3, h4⟩⟩ := h
  · exact ⟨hb, _, rfl, Lib.hid (fun e => absurd e h1)⟩
  · exact ⟨hb, _, by rw [h1], Lib.hid (fun _ => ⟨g, nb, rfl, h2, h3, h4⟩)⟩
theorem okE_ptr : OkE (fun t => t = 26) := ⟨by decide, by decide, by decide⟩
theorem IsG.setPtr {w : World} {g nb sb : Nat} {ws : List Int} {F : Nat → Nat → Int} {q : Option Addr} {v : Value} (h : IsG w g nb ws F) (hb : Boxed w sb 26 (.pointer q)) : IsG (w.setCell ⟨sb, 0, none⟩ v) g nb ws F :=
  h.off okE_ptr (Turned.set w sb 0 v) (fun c hc o ho => by
    subst hc
    rw [show w.heap[c]? = _ from hb] at ho
    cases ho
    exact .inr ⟨_, _, _, rfl, rfl, fun k n e => by simp at e⟩)
theorem okE_errno : OkE (fun t => t = 45) := ⟨by decide, by decide, by decide⟩
theorem okE_ints : OkE (fun t => t = 24) := ⟨by decide, by decide, by decide⟩
theorem IsG.setSl {w : World} {g nb sb : Nat} {ws : List Int} {F : Nat → Nat → Int} {a : Option Addr} {l c : Nat} {v : Value} (h : IsG w g nb ws F) (hb : Boxed w sb 24 (.slice a l c)) : IsG (w.setCell ⟨sb, 0, none⟩ v) g nb ws F :=
  h.off okE_ints (Turned.set w sb 0 v) (fun c hc o ho => by
    subst hc
    rw [show w.heap[c]? = _ from hb] at ho
    cases ho
    exact .inr ⟨_, _, _, rfl, rfl, fun k n e => by simp at e⟩)
/-- A cell that holds 0 is no weight. -/
theorem IsG.setErr {w : World} {g nb sb : Nat} {ws : List Int} {F : Nat → Nat → Int} {v : Value} (h : IsG w g nb ws F) (hb : Boxed w sb 45 (.int .i64 0)) : IsG (w.setCell ⟨sb, 0, none⟩ v) g nb ws F := by
  have ht := Turned.set w sb 0 v
  obtain ⟨wa, wc, wb, h1, h2⟩ := h.box
  obtain ⟨cs, h3⟩ := h.maps
  have hne : ∀ b cs' t fr, t ≠ 45 → w.heap[b]? = some (.cells cs' t fr) → ¬ b = sb := fun b cs' t fr ht2 hc e => by
    subst e
    rw [show w.heap[b]? = _ from hb] at hc
    cases hc; exact ht2 rfl
  refine ⟨⟨wa, wc, wb, ht.old h1 (hne _ _ _ _ (by decide) h1), h2.turned ht ?_⟩, ⟨cs, ht.old h3 (hne _ _ _ _ (by decide) h3)⟩, fun i hi => (h.map i hi).turned ht (hne _ _ _ _ (by decide) h3) (fun c hc o ho cs' fr e => by subst e; exact hne _ _ _ _ (by decide) ho hc), h.tab, h.small, h.wts⟩
  by_cases h0 : ws.length = 0
  · exact .inl h0
  · refine .inr fun e => ?_
    subst e
    have c1 := h2.cell 0 (by omega)
    have hw := getD_wts' h.wts (k := 0) (by omega)
    rw [show (0 : Nat) + 0 = 0 from rfl, hb.cell] at c1
    injection c1 with c1
    injection c1 with _ c1
    omega
/-- Behind the making. -/
def Sh2 (w : World) (ib bx n : Nat) (is : List Int) (w3 : World) (zs : List Int) (sb : Nat) (p : Option Addr) (W : World) : Prop :=
  Sh1 w ib bx n is W ∧ Boxed W sb 26 (.pointer p) ∧ w3.heap.size ≤ sb ∧ (newE zs = 0 → ∃ g nb, p = some ⟨g, 0, none⟩ ∧ IsG W g nb zs noTab ∧ w3.heap.size ≤ g ∧ w3.heap.size ≤ nb)
theorem sh2_new {w : World} {ib bx n : Nat} {is : List Int} {w3 : World} {zs : List Int} {p : Option Addr} {w6 : World} {X : Nat} (hX : Sh1 w ib bx n is w3) (hS : Below w3.heap.size w3 w6) (hz : w3.heap.size ≤ X) (hN : newE zs = 0 → ∃ g nb, p = some ⟨g, 0, none⟩ ∧ IsG w6 g nb zs noTab ∧ X ≤ g ∧ X ≤ nb) :
    Sh2 w ib bx n is w3 zs w6.heap.size p (w6.alloc (.cells #[.pointer p] 26)) :=
  ⟨hX.on (hS.alloc hS.size _), Boxed.new w6 _ _, hS.size, fun e => by
    obtain ⟨g, nb, e1, h1, h2, h3⟩ := hN e
    exact ⟨g, nb, e1, h1.below ((Below.refl _ _).alloc (Nat.le_refl _) _), Nat.le_trans hz h2, Nat.le_trans hz h3⟩⟩
theorem sh2_set {w : World} {ib bx n : Nat} {is : List Int} {w3 : World} {zs : List Int} {p : Option Addr} {w6 : World} {X sb : Nat} (hX : Sh1 w ib bx n is w3) (hS : Below w3.heap.size w3 w6) (hz : w3.heap.size ≤ X) (hN : newE zs = 0 → ∃ g nb, p = some ⟨g, 0, none⟩ ∧ IsG w6 g nb zs noTab ∧ X ≤ g ∧ X ≤ nb) (hB : Boxed w6 sb 26 (.pointer none)) (hb : w3.heap.size ≤ sb) :
    Sh2 w ib bx n is w3 zs sb p (w6.setCell ⟨sb, 0, none⟩ (.pointer p)) :=
  ⟨hX.on (hS.setCell (p := ⟨sb, 0, none⟩) hb _), hB.set _, hb, fun e => by
    obtain ⟨g, nb, e1, h1, h2, h3⟩ := hN e
    exact ⟨g, nb, e1, h1.setPtr hB, Nat.le_trans hz h2, Nat.le_trans hz h3⟩⟩
/-- Between two pairs of things. -/
structure ShI (w : World) (ib bx n : Nat) (is : List Int) (w4 : World) (zs : List Int) (sb g nb : Nat) (Fp : Nat → Nat → Int) (W : World) : Prop where
  size : w4.heap.size ≤ W.heap.size
  one : Sh1 w ib bx n is W
  box : Boxed W sb 26 (.pointer (some ⟨g, 0, none⟩))
  isG : IsG W g nb zs Fp
theorem ShI.on {w : World} {ib bx n : Nat} {is : List Int} {w4 : World} {zs : List Int} {sb g nb : Nat} {Fp : Nat → Nat → Int} {W W' : World} (h : ShI w ib bx n is w4 zs sb g nb Fp W) (hb : Below W.heap.size W W') : ShI w ib bx n is w4 zs sb g nb Fp W' :=
  ⟨Nat.le_trans h.size hb.size, h.one.on hb, boxed_below h.box hb, h.isG.below hb⟩
theorem grown_other {W W' : World} {row : Option Nat} {b : Nat} {t : TypeId} {v : Value} (h : Boxed W b t v) (hg : W.grownBy W' row) (hr : ∀ r, row = some r → ∃ o : Obj, W.heap[r]? = some o ∧ o.isCells = false) : Boxed W' b t v :=
  (hg.block b (heap_lt h) (fun e => by obtain ⟨o, h1, h2⟩ := hr b e.symm; rw [show W.heap[b]? = _ from h] at h1; cases h1; cases h2)).trans h
theorem Sh1.grown {w : World} {ib bx n : Nat} {is : List Int} {W W' : World} {row : Option Nat} (h : Sh1 w ib bx n is W) (hg : W.grownBy W' row) (hr : ∀ r, row = some r → w.heap.size ≤ r ∧ ∃ o : Obj, W.heap[r]? = some o ∧ o.isCells = false) : Sh1 w ib bx n is W' := by
  obtain ⟨v4, h4⟩ := h.res.b4
  obtain ⟨v5, h5⟩ := h.res.b5
  have h6 := h.res.b6
  have hr2 := fun r e => (hr r e).2
  exact ⟨⟨⟨v4, grown_other h4 hg hr2⟩, ⟨v5, grown_other h5 hg hr2⟩, grown_other h6 hg hr2, h.res.below.grown hg h.res.below.size (fun k e => (hr k e).1)⟩,
    ints_off (E := fun _ => False) h.row (Turned.of_grown hg) (fun c hc o ho => by obtain ⟨o', h1, h2⟩ := hr2 c hc.symm; rw [ho] at h1; cases h1; exact .inl h2), grown_other h.box hg hr2⟩
/-- What turns the new graph's maps leaves the rest. -/
theorem Sh1.maps {w : World} {ib bx n g nb : Nat} {is : List Int} {W W' : World} {zs : List Int} {Fp : Nat → Nat → Int} (h : Sh1 w ib bx n is W) (hG : IsG W g nb zs Fp) (ht : Turned (fun c => c = nb) W W') (hn : w.heap.size ≤ nb) (hz : n = 0 ∨ 0 < zs.length) : Sh1 w ib bx n is W' := by
  obtain ⟨cs, h3⟩ := hG.maps
  have hne : ∀ b t v, t ≠ 84 → Boxed W b t v → Boxed W' b t v := fun b t v ht2 hb => ht.old hb (fun e => by subst e; rw [show W.heap[b]? = _ from hb] at h3; cases h3; exact ht2 rfl)
  obtain ⟨v4, h4⟩ := h.res.b4
  obtain ⟨v5, h5⟩ := h.res.b5
  have h6 := h.res.b6
  refine ⟨⟨⟨v4, hne _ _ _ (by decide) h4⟩, ⟨v5, hne _ _ _ (by decide) h5⟩, hne _ _ _ (by decide) h6, below_turned h.res.below ht (fun i hi e => by omega) h.res.below.size⟩, h.row.turned ht ?_, hne _ _ _ (by decide) h.box⟩
  by_cases h0 : n = 0
  · exact .inl h0
  · refine .inr fun e => ?_
    subst e
    have c1 := h.row.cell 0 (by omega)
    obtain ⟨p, t, cs', k1, k2, _⟩ := hG.map 0 (hz.resolve_left h0)
    have c2 : W.cell? ⟨ib, 0 + 0, none⟩ = some (.pointer p) := heap_cell k1 k2
    rw [c1] at c2
    cases c2
/-- All three answers are given, and the call is to end. -/
structure ShX (w : World) (v : Int) (W : World) : Prop where
  q4 : Boxed W w.heap.size 26 (.pointer none)
  q5 : Boxed W (w.heap.size + 1) 24 (.slice none 0 0)
  q6 : Boxed W (w.heap.size + 1 + 1) 45 (.int .i64 v)
  below : Below w.heap.size w W
theorem ShX.grown {w : World} {v : Int} {W W' : World} {row : Option Nat} (h : ShX w v W) (hg : W.grownBy W' row) (hr : ∀ r, row = some r → w.heap.size ≤ r ∧ ∃ o : Obj, W.heap[r]? = some o ∧ o.isCells = false) : ShX w v W' := by
  have hr2 := fun r e => (hr r e).2
  exact ⟨grown_other h.q4 hg hr2, grown_other h.q5 hg hr2, grown_other h.q6 hg hr2, h.below.grown hg h.below.size (fun k e => (hr k e).1)⟩
theorem ShI.grown {w : World} {ib bx n : Nat} {is : List Int} {w4 : World} {zs : List Int} {sb g nb : Nat} {Fp : Nat → Nat → Int} {W W' : World} {row : Option Nat} (h : ShI w ib bx n is w4 zs sb g nb Fp W) (hg : W.grownBy W' row) (hr : ∀ r, row = some r → w.heap.size ≤ r ∧ ∃ o : Obj, W.heap[r]? = some o ∧ o.isCells = false) : ShI w ib bx n is w4 zs sb g nb Fp W' :=
  ⟨Nat.le_trans h.size hg.size, h.one.grown hg hr, grown_other h.box hg (fun r e => (hr r e).2), h.isG.grown hg (fun r e => (hr r e).2)⟩
theorem ShI.join {w : World} {ib bx n : Nat} {is : List Int} {w4 : World} {zs : List Int} {sb g nb : Nat} {Fp Fq : Nat → Nat → Int} {W W' : World} (h : ShI w ib bx n is w4 zs sb g nb Fp W) (hG : IsG W' g nb zs Fq) (ht : Turned (fun c => c = nb) W W') (hn : w.heap.size ≤ nb) (hz : n = 0 ∨ 0 < zs.length) : ShI w ib bx n is w4 zs sb g nb Fq W' := by
  obtain ⟨cs, h3⟩ := h.isG.maps
  refine ⟨Nat.le_trans h.size ht.size, h.one.maps h.isG ht hn hz, ht.old h.box (fun e => ?_), hG⟩
  subst e; rw [show W.heap[sb]? = _ from h.box] at h3; cases h3
theorem mid_turned {lo hi m : Nat} {A B : World} (h : Turned (fun c => c = m) A B) (hm : m < lo) (hh : hi ≤ A.heap.size) : Mid lo hi A B := ⟨h.size, fun k h1 h2 => h.block k (by omega) (by omega)⟩
theorem from_turned {b m : Nat} {A B : World} (h : Turned (fun c => c = m) A B) (hm : m < b) : KeepsFrom b A B := ⟨h.size, fun k o h1 h2 h3 => h.old h2 (by omega)⟩
end Go.Proofs.Ytbjgfkiaoffhlaa

namespace Go.Proofs.Ytbjgfkiaoffhlaa
open Go.RowKit Go.Shelf Rk

attribute [local go_sem] Oper.semAt_some

set_option maxRecDepth 100000 in
set_option maxHeartbeats 4000000 in
theorem shrink_right {w : World} {g nb : Nat} {ws : List Int} {F : Nat → Nat → Int} (h : IsG w g nb ws F) {a : Option Addr} {b off len cap : Nat} {ms : List Int} (hm : IntsAt .i64 w.heap.size w a b off len ms) (h0 : a = none → len = 0 ∧ cap = 0) (hl : ms.length = ws.length) (hr : mateR ms = true) :
    Calls Try.prog 24 #[.pointer (some ⟨g, 0, none⟩), .slice a len cap] w (ShrinkPost ws F ms w) := by
  have hlen : len = ws.length := by rw [← hm.length, hl]
  subst hlen
  have hsm := h.small
  obtain ⟨m, hmm⟩ : ∃ m, onesN ms = m := ⟨_, rfl⟩
  have hmle : m ≤ 4096 := by have := ones_le (ms := ms); omega
  have HP1 : Hid (∀ W v, Below w.heap.size w W → v ≠ 0 → shrE ws F ms = v → ShrinkPost ws F ms w (.returned (.tuple #[.pointer none, .slice none 0 0, .int .i64 v])) W) := Lib.hid (fun W v hW hv he => ⟨hW, .inl ⟨by rw [he]; exact hv, by rw [he]⟩⟩)
  have HP2 : Hid (∀ W, shrE ws F ms = 0 → Below w.heap.size w W → ∀ g' nb' ib, IsG W g' nb' (wsS ws ms) (shrF ws F ms) → IntsAt .i64 W.heap.size W (some ⟨ib, 0, none⟩) ib 0 ws.length (inL ms) → w.heap.size ≤ g' → w.heap.size ≤ nb' → w.heap.size ≤ ib → ShrinkPost ws F ms w (.returned (.tuple #[.pointer (some ⟨g', 0, none⟩), .slice (some ⟨ib, 0, none⟩) ws.length ws.length, .int .i64 0])) W) := Lib.hid (fun W he hW g' nb' ib k1 k2 k3 k4 k5 => ⟨hW, .inr ⟨he, g', nb', ib, rfl, k1, k2, k3, k4, k5⟩⟩)
  have HV1 : Hid (newE (wsS ws ms) ≠ 0 → shrE ws F ms = newE (wsS ws ms)) := Lib.hid (fun e => by
    unfold shrE
    rw [if_neg (by rw [hr]; simp [hl]), if_pos (.inl e)]
    rcases newE_cases (zs := wsS ws ms) (by rw [wsS_length, hmm]; omega) with h | h
    · exact absurd h e
    · exact h.symm)
  have HV2 : Hid (newE (wsS ws ms) = 0 → shrO ws F ms = none → shrE ws F ms = 23) := Lib.hid (fun e1 e2 => by
    unfold shrE
    rw [if_neg (by rw [hr]; simp [hl]), if_pos (.inr e2)])
  have HV3 : Hid (newE (wsS ws ms) = 0 → ∀ F', shrO ws F ms = some F' → shrE ws F ms = 0 ∧ shrF ws F ms = F') := Lib.hid (fun e1 F' e2 => by
    unfold shrE shrF
    rw [if_neg (by rw [hr]; simp [hl]), if_neg (by rw [e2]; simp [e1]), e2]
    exact ⟨rfl, rfl⟩)
  have HO : Hid (shrO ws F ms = shJ m (inL ms) (edgesD ws.length F) noTab) := Lib.hid (by unfold shrO; rw [hmm])
  have HZl : Hid ((wsS ws ms).length = m) := Lib.hid (by rw [wsS_length, hmm])
  have hil := inL_length ms
  rw [hl] at hil
  have HIB : Hid (∀ i, i < ws.length → ∃ o : Nat, (inL ms).getD i 0 = (o : Int) ∧ o < m) := Lib.hid (fun i hi => by rw [← hmm]; exact in_bd hr (by omega))
  have HS0 := Lib.hid (Res3.start w)
  have HLe := Lib.hid (fun W (hW : Below w.heap.size w W) => glen_any (h.below hW))
  have HRt : Hid (∀ W, Below w.heap.size w W → Calls Try.prog 16 #[.slice a ws.length cap] W fun e w' => e = .returned (.bool true) ∧ W = w') := Lib.hid (fun W hW => by have := mright_any (cap := cap) (hm.kept hW (Nat.le_refl _)); rw [hr] at this; exact this)
  have HNm := Lib.hid (fun W (hW : Below w.heap.size w W) => numbered_any (cap := cap) ((hm.kept hW (Nat.le_refl _)).mono hW.size) hr hsm)
  have HCn := Lib.hid (fun W (hW : Below w.heap.size w W) => mcount_any (cap := cap) ((hm.kept hW (Nat.le_refl _)).mono hW.size) h0 (by omega))
  rw [← ones_left hr, hmm] at HCn
  have HTg : Hid (∀ ib bx W, Sh1 w ib bx ws.length (inL ms) W → Calls Try.prog 45 #[.pointer (some ⟨g, 0, none⟩), .slice (some ⟨ib, 0, none⟩) ws.length ws.length, .int .i64 (m : Int)] W fun e w' => ∃ wb, e = .returned (.slice (some ⟨wb, 0, none⟩) m m) ∧ IntsAt .i64 w'.heap.size w' (some ⟨wb, 0, none⟩) wb 0 m (wsS ws ms) ∧ Below W.heap.size W w') := Lib.hid (fun ib bx W hW => (together_any (cap := ws.length) (h.below hW.res.below) hW.row hil m hmle HIB.out).mono (by
    rintro e w' ⟨wb, rfl, hw⟩
    refine ⟨wb, rfl, ?_, hw.below⟩
    have := ints_rowC hw.row (by omega) (fun i _ => by
      have := wtsT_bd (inL ms) h.wts ws.length (Nat.le_refl _) i
      have h1 : IntKind.i64.min = -9223372036854775808 := by decide
      have h2 : IntKind.i64.max = 9223372036854775807 := by decide
      show (decide (IntKind.i64.min ≤ _) && decide (_ ≤ IntKind.i64.max)) = true
      rw [h1, h2, Bool.and_eq_true, decide_eq_true_eq, decide_eq_true_eq]
      omega)
    unfold wsS
    rw [hmm]
    exact this))
  have HED : Hid (∀ W, Below w.heap.size w W → Calls Try.prog 46 #[.pointer (some ⟨g, 0, none⟩)] W (EPost w.heap.size ws.length F W)) := Lib.hid (fun W hW => medges_any h hW)
  have HMEM : Hid (∀ x ∈ edgesD ws.length F, ∃ a b : Nat, a < ws.length ∧ b < ws.length ∧ x = ((a : Int), (b : Int), F a b)) := Lib.hid (fun x hx => by
    have : ∀ k, x ∈ upTo ws.length F k → k ≤ ws.length → ∃ a b : Nat, a < ws.length ∧ b < ws.length ∧ x = ((a : Int), (b : Int), F a b) := fun k => by
      induction k with
      | zero => intro h; simp [upTo] at h
      | succ k ih =>
        intro h hk
        rw [upTo, List.mem_append] at h
        rcases h with h | h
        · exact ih h (by omega)
        · obtain ⟨p, hp, rfl⟩ := List.mem_map.1 h
          obtain ⟨b, h1, h2, rfl⟩ := mem_rowOf.1 hp
          refine ⟨k, b, by omega, h1, ?_⟩
          show ((k : Int), (b : Int), above ((k : Int) + 1) (F k) b) = _
          unfold above at h2 ⊢
          by_cases e : (b : Int) < (k : Int) + 1
          · rw [if_pos e] at h2; omega
          · rw [if_neg e]
    exact this _ hx (Nat.le_refl _))
  clear h hm h0 hl hr hmm
  obtain ⟨is, hls⟩ : ∃ is, inL ms = is := ⟨_, rfl⟩
  rw [hls] at hil HO HIB HTg HP2
  have HIl := Lib.hid hil
  have HIs := Lib.hid hls
  clear hls hil
  generalize wsS ws ms = zs at *
  generalize shrE ws F ms = sE at *
  generalize shrF ws F ms = sF at *
  generalize shrO ws F ms = sO at *
  generalize ShrinkPost ws F ms w = Post at *
  generalize hD : edgesD ws.length F = D at *
  generalize ws.length = n at *
  have HDe := Lib.hid hD
  clear hD
  refine (callsIn_wide (n := 3)).1 ?_
  refine callsIn_of_wp_marks Try.func24 rfl trivial ?_ rfl
  simp only [Try.ntmps24, List.size_toArray, List.length_cons, List.length_nil, Nat.reduceAdd, Nat.reduceSub, Array.replicate_succ, Array.replicate_zero, List.push_toArray, List.append_toArray, List.nil_append, List.cons_append]
  refine wpIn_wide.2 ?_
  go_upto_region 1 with fail
  obtain ⟨w1, hw1⟩ : ∃ w1, (((w.alloc (.cells #[.pointer none] 26)).alloc (.cells #[.slice none 0 0] 24)).alloc (.cells #[.int .i64 0] 45)) = w1 := ⟨_, rfl⟩
  have hz1 : w.heap.size + 1 + 1 + 1 ≤ w1.heap.size := by rw [← hw1]; simp
  rw [hw1] at HS0 ⊢
  have HLe1 := Lib.hid (HLe.out _ HS0.out.below)
  have HRt1 := Lib.hid (HRt.out _ HS0.out.below)
  have HNm1 := Lib.hid (HNm.out _ HS0.out.below)
  clear hw1 HLe HRt HNm
  have hd : ((n : Int) != (n : Int)) = false := by simp
  go_upto_region 4 with (first
    | (go_at_call 31; refine HLe1.out.mono ?_; rintro e w' ⟨rfl, rfl⟩)
    | (go_at_call 16; refine HRt1.out.mono ?_; rintro e w' ⟨rfl, rfl⟩)
    | (go_at_call 44; refine HNm1.out.mono ?_; clear HNm1; rintro e w2 ⟨ib, rfl, hMt⟩; have HMt := Lib.hid hMt; clear hMt))
  have hX3 : Sh1 w ib w2.heap.size n is (w2.alloc (.cells #[.slice (some ⟨ib, 0, none⟩) n n] 24)) := by
    have hb2 := HMt.out.below
    have hb3 : Below w1.heap.size w1 (w2.alloc (.cells #[.slice (some ⟨ib, 0, none⟩) n n] 24)) := hb2.alloc hb2.size _
    have hb23 : Below w2.heap.size w2 (w2.alloc (.cells #[.slice (some ⟨ib, 0, none⟩) n n] 24)) := (Below.refl _ w2).alloc (Nat.le_refl _) _
    refine ⟨HS0.out.on hb3, ?_, Boxed.new w2 _ _⟩
    have hI := ints_rowC HMt.out.row (by omega) (fun i hi => by
      obtain ⟨o, ho, ho2⟩ := HIB.out i hi
      show (Lit.int .i64 ((inL ms).getD i 0)).wf = true
      rw [HIs.out, ho]
      exact wf_nat o (by omega))
    have e : matesL n (fun i => (inL ms).getD i 0) = is := by
      rw [HIs.out]
      apply List.ext_getElem
      · rw [matesL_length, HIl.out]
      · intro i h1 h2
        simp [matesL, List.getD_eq_getElem?_getD, h2]
    rw [show ((List.range n).map (fun i => (inL ms).getD i 0)) = is from e] at hI
    exact (hI.kept hb23 (Nat.le_refl _)).mono hb23.size
  have hib : w1.heap.size ≤ ib := HMt.out.new
  have hz2 : w1.heap.size ≤ w2.heap.size := HMt.out.below.size
  obtain ⟨w3, hw3⟩ : ∃ w3, (w2.alloc (.cells #[.slice (some ⟨ib, 0, none⟩) n n] 24)) = w3 := ⟨_, rfl⟩
  rw [hw3] at hX3 ⊢
  have HX3 := Lib.hid hX3
  clear hX3 hw3 HMt HS0 HLe1 HRt1 hd
  obtain ⟨bx, hbx⟩ : ∃ bx, w2.heap.size = bx := ⟨_, rfl⟩
  rw [hbx] at HX3 hz2 ⊢
  clear hbx w2
  go_cut [8, 9] from 30 to 38 (fun s8 s9 wx => ∃ (sb : Nat) (p : Option Addr), s8 = .pointer (some ⟨sb, 0, none⟩) ∧ s9 = .int .i64 (newE zs) ∧ Hid (Sh2 w ib bx n is w3 zs sb p wx))
  case first =>
    have hSc : ∀ W, Below w3.heap.size w3 W → W.cell? ⟨bx, 0, none⟩ = some (.slice (some ⟨ib, 0, none⟩) n n) := fun W hW => (HX3.out.on hW).box.cell
    have HCn1 : Hid (∀ W, Below w3.heap.size w3 W → Calls Try.prog 20 #[.slice a n cap] W fun e w' => e = .returned (.int .i64 (m : Int)) ∧ Below W.heap.size W w') := Lib.hid (fun W hW => HCn.out W (HX3.out.on hW).res.below)
    have HTg1 := Lib.hid (fun W (hW : Below w3.heap.size w3 W) => HTg.out ib bx W (HX3.out.on hW))
    clear HP1 HP2 HV1 HV2 HV3 HO HMEM HED HTg HCn hib hz1 hz2
    go_region_held3 (fun W => Below w3.heap.size w3 W) (first | assumption | exact Below.refl _ _ | exact (Below.refl _ _).drew | exact Below.drew (by assumption) | exact (show Below w3.heap.size w3 _ by assumption).alloc (by first | exact Nat.le_refl _ | exact hz4 | exact hz5 | exact hz6) _ | exact (show Below w3.heap.size w3 _ by assumption).setCell (p := ⟨_, 0, none⟩) (by first | exact Nat.le_refl _ | exact hz4 | exact hz5 | exact hz6) _) (first
      | (go_at_call 20; refine (HCn1.out _ (by assumption)).mono ?_; rintro e w4 ⟨rfl, hb⟩; have hS4 : Below w3.heap.size w3 w4 := Below.trans (show Below w3.heap.size w3 _ by assumption) (hb.mono (show Below w3.heap.size w3 _ by assumption).size); have hz4 := hS4.size; (first | (have HSB := Lib.hid (box_thru' (W0 := w3) (v := .pointer none) (t := 26) (by rfl) hb)) | skip); clear hb)
      | (go_at_call 45; refine (HTg1.out _ (by assumption)).mono ?_; rintro e w5 ⟨wb, rfl, hIz, hb⟩; have hS5 : Below w3.heap.size w3 w5 := Below.trans (show Below w3.heap.size w3 _ by assumption) (hb.mono (show Below w3.heap.size w3 _ by assumption).size); have hz5 := hS5.size; (first | (have HSB := Lib.hid (boxed_below HSB.out hb)) | (have HSB := Lib.hid (box_thru hb)) | skip); have HIz := Lib.hid hIz; clear hb hIz)
      | (go_at_call 35; refine (new_any (zs := zs) (by first | exact HIz.out | exact (HIz.out.kept ((Below.refl _ _).alloc (Nat.le_refl _) _) (Nat.le_refl _)).mono ((Below.refl _ _).alloc (Nat.le_refl _) _).size) (fun e => by cases e)).mono ?_; rintro e w6 hnp; obtain ⟨hb, p, rfl, HNp⟩ := new_one hnp; have hS6 : Below w3.heap.size w3 w6 := Below.trans (show Below w3.heap.size w3 _ by assumption) (hb.mono (show Below w3.heap.size w3 _ by assumption).size); have hz6 := hS6.size; (first | (have HSB := Lib.hid (boxed_below HSB.out hb); have csb := HSB.out.cell; have fsb := HSB.out.frozen) | (have HSB := Lib.hid (box_thru hb); have csb := HSB.out.cell; have fsb := HSB.out.frozen) | skip); have HB6 := Lib.hid hb; clear hb hnp))
    all_goals
      go_wp2_with fail
      go_meet
      first
        | exact ⟨_, _, rfl, rfl, Lib.hid (sh2_new HX3.out hS6 hz5 HNp.out)⟩
        | exact ⟨_, _, rfl, rfl, Lib.hid (sh2_set HX3.out hS6 hz5 HNp.out HSB.out hz4)⟩
        | exact ⟨_, _, rfl, rfl, Lib.hid (sh2_set HX3.out hS6 hz5 HNp.out HSB.out (Nat.le_refl _))⟩
        | exact ⟨_, _, rfl, rfl, Lib.hid (sh2_set HX3.out hS6 (Nat.le_trans hz5 (by simp)) HNp.out HSB.out hz5)⟩
  case rest =>
    clear HCn HTg
    obtain ⟨sb, p, rfl, rfl, HS⟩ := hcut
    by_cases hN : newE zs = 0
    · obtain ⟨g', nb', rfl, hG, hg', hn'⟩ := HS.out.2.2.2 hN
      have HE := Lib.hid (HED.out _ HS.out.1.res.below)
      have hV2 := HV2.out hN
      have hV3 := HV3.out hN
      have HV2' := Lib.hid hV2
      have HV3' := Lib.hid hV3
      rw [hN]
      have hsb : w3.heap.size ≤ sb := HS.out.2.2.1
      have H1 := Lib.hid HS.out.1
      have H2 := Lib.hid HS.out.2.1
      have HG := Lib.hid hG
      clear HS HV1 HV2 HV3 HED hV2 hV3 hG hN
      go_wp2_with (go_at_call 46; refine HE.out.mono ?_; rintro e w4 ⟨sv, rfl, hsq, hB4⟩)
      have z3 := H1.out.res.below.size
      have z30 := HX3.out.res.below.size
      have z4 := hB4.size
      have hX4 : ShI w ib bx n is w4 zs sb g' nb' noTab w4 := ⟨Nat.le_refl _, H1.out.on hB4, boxed_below H2.out hB4, HG.out.below hB4⟩
      have hgl := HG.out.lt
      have hbl := heap_lt H2.out
      have hbxl := heap_lt H1.out.box
      obtain ⟨lb, rfl, hst0⟩ := hsq.stopsM 2 95 (by decide) (by decide)
      rw [HDe.out] at hst0
      have hst := hst0.sub
      have HX4 := Lib.hid hX4
      have hnz : n = 0 ∨ 0 < zs.length := by
        by_cases e : n = 0
        · exact .inl e
        · obtain ⟨o, _, ho⟩ := HIB.out 0 (by omega)
          exact .inr (by rw [HZl.out]; omega)
      have HNz := Lib.hid hnz
      have hn3 : w.heap.size ≤ nb' := by omega
      clear hB4 hst0 hX4 H1 H2 HG hnz hsq HE
      refine (wpIn_wide (n := 3)).1 ?_
      refine wpIn_rangeFunc_seqN rfl (by omega) (gf := 66) (lb := lb) rfl trivial (enters_of Try.func66 (by kernel_rfl) rfl)
        hst (by omega) (Nat.le_refl _) (Below.refl _ _) (fun _ => rfl)
        (fun pre W => ∃ Fp, Hid (shJ m is (pre.map Subtype.val) noTab = some Fp) ∧ ShI w ib bx n is w4 zs sb g' nb' Fp W)
        (fun c pre W => c = .ret ∧ Hid (shJ m is (pre.map Subtype.val) noTab = none) ∧ ShX w 23 W)
        (fun s A B row hs hg hr => by obtain ⟨Fp, h1, h2⟩ := hs; exact ⟨Fp, h1, h2.grown hg (fun r e => ⟨by have := (hr r e).1; omega, (hr r e).2⟩)⟩)
        (fun c s A B row hs hg hr => ⟨hs.1, hs.2.1, hs.2.2.grown hg (fun r e => ⟨by have := (hr r e).1; omega, (hr r e).2⟩)⟩)
        ⟨noTab, Lib.hid rfl, HX4.out⟩
        (fun x a' A => ∃ Bx, w4.heap.size ≤ Bx ∧ A.heap[Bx]? = some (.cells #[.int .i64 x.1.1, .int .i64 x.1.2.1, .int .i64 x.1.2.2] 95 (0, 0)) ∧ a' = { tmps := #[.pointer (some ⟨g, 0, none⟩), .slice a n cap, undef, undef, .pointer (some ⟨w.heap.size, 0, none⟩), .pointer (some ⟨w.heap.size + 1, 0, none⟩), .pointer (some ⟨w.heap.size + 1 + 1, 0, none⟩), .pointer (some ⟨bx, 0, none⟩), .pointer (some ⟨sb, 0, none⟩), .int .i64 0, .pointer (some ⟨Bx, 0, none⟩), undef, undef, undef, .pointer (some ⟨g, 0, none⟩), .bool false, .bool false, .slice a n cap, .int .i64 n, .pointer (some ⟨g, 0, none⟩), .int .i64 n, .bool false, .bool false, .bool false, .slice a n cap, .bool true, .bool false, .bool false, .slice a n cap, .slice (some ⟨ib, 0, none⟩) n n, u30, u31, u32, u33, u34, u35, u36, u37, u38, .int .i64 0, .bool false, undef, .pointer (some ⟨g, 0, none⟩), .func (.func 66) #[] lb, .agg #[.int .i64 x.1.1, .int .i64 x.1.2.1, .int .i64 x.1.2.2], undef, undef, undef, undef, undef, undef, undef, undef, undef, undef, undef, undef, undef, undef, undef, undef, undef, undef, undef, undef, undef, undef, undef, undef], defers := [] })
        (fun x a' A l o o' hs hl ho hc => by
          obtain ⟨Bx, e1, e2, e3⟩ := hs
          exact ⟨Bx, e1, (World.putObj_heap_other (by intro e; subst e; rw [e2] at ho; cases ho; cases hc)).trans e2, e3⟩) ?assign ?body ?done ?stop
      case assign =>
        rintro l pre x W K ⟨Fp, hF, hI⟩ hK
        unfold encE
        gi_wp2
        have hz := hI.size
        exact hK _ _ ((KeepsOthers.alloc _ _).from _) ⟨(Below.refl _ W).alloc (by omega) _, Mid.alloc _ _ _ _ hz, KeepsT.alloc _ _ _ _⟩ ⟨Fp, hF, hI.on ((Below.refl _ W).alloc (Nat.le_refl _) _)⟩ ⟨W.heap.size, hz, World.alloc_heap_new W _, rfl⟩
      case body =>
        rintro l pre x a' W ⟨Fp, hF, hI⟩ ⟨Bx, hBx, hXb, rfl⟩ hlt
        obtain ⟨a1, b1, ha1, hb1, hx⟩ := HMEM.out x.1 x.2
        obtain ⟨o1, ho1, hm1⟩ := HIB.out a1 ha1
        obtain ⟨o2, ho2, hm2⟩ := HIB.out b1 hb1
        have hJ : shJ m is ((pre ++ [x]).map Subtype.val) noTab = shS m is ((a1 : Int), (b1 : Int), F a1 b1) Fp := by
          rw [List.map_append, List.map_cons, List.map_nil, shJ_snoc m is _ _ _ _ hF.out, hx]
        have hS : shS m is ((a1 : Int), (b1 : Int), F a1 b1) Fp = if (o1 : Int) = (o2 : Int) then some Fp else if joinE m Fp (o1 : Int) (o2 : Int) (F a1 b1) = 0 then some (joinF m Fp (o1 : Int) (o2 : Int) (F a1 b1)) else none := by
          unfold shS
          simp only [Int.toNat_natCast, ho1, ho2]
        rw [hS] at hJ
        have HJn := Lib.hid (join_any hI.isG (o1 : Int) (o2 : Int) (F a1 b1))
        unfold JoinPost at HJn
        rw [HZl.out] at HJn
        rw [hx] at hXb ⊢
        dsimp only at hXb ⊢
        generalize F a1 b1 = p2 at *
        have cr1 := hI.one.row.cell a1 ha1
        have cr2 := hI.one.row.cell b1 hb1
        rw [ho1, Nat.zero_add] at cr1
        rw [ho2, Nat.zero_add] at cr2
        have x0 : W.cell? ⟨Bx, 0, none⟩ = some (.int .i64 (a1 : Int)) := heap_cell hXb rfl
        have x1 : W.cell? ⟨Bx, 1, none⟩ = some (.int .i64 (b1 : Int)) := heap_cell hXb rfl
        have x2 : W.cell? ⟨Bx, 2, none⟩ = some (.int .i64 p2) := heap_cell hXb rfl
        have cb := hI.one.box.cell
        have cs := hI.box.cell
        have hib : (a1 : Int) < (n : Int) := by omega
        have hbb : (b1 : Int) < (n : Int) := by omega
        have HI := Lib.hid hI
        have HXb := Lib.hid hXb
        have HJ := Lib.hid hJ
        have zW := hI.size
        clear hx hF hI hJ hS hst hXb ho1 ho2
        gi_wp2
        refine region_round_quiet rfl (by kernel_rfl) rfl (by kernel_rfl) ?_
        repeat (gi_big_quiet_step (fail))
        refine wpQuietIn_nil ?_
        intro _ hw'
        obtain ⟨nq, rfl⟩ := hw'
        clear cr1 cr2 x0 x1 x2 cb cs
        have HI2 : Hid (ShI w ib bx n is w4 zs sb g' nb' Fp (W.drewN nq)) := Lib.hid (HI.out.on ⟨rfl, rfl, rfl, Nat.le_refl _, fun _ _ => rfl⟩)
        have HXb2 : Hid ((W.drewN nq).heap[Bx]? = some (.cells #[.int .i64 (a1 : Int), .int .i64 (b1 : Int), .int .i64 p2] 95 (0, 0))) := HXb
        have HJn2 := Lib.hid (join_any HI2.out.isG (o1 : Int) (o2 : Int) p2)
        unfold JoinPost at HJn2
        rw [HZl.out] at HJn2
        have HKB : Hid (∀ W', Turned (fun c => c = nb') (W.drewN nq) W' → KeepsFrom w4.heap.size W W' ∧ Below w.heap.size W W' ∧ Mid wc.heap.size w4.heap.size W W' ∧ KeepsT 95 w4.heap.size W W') := Lib.hid (fun W' hT => by
          have hT' : Turned (fun c => c = nb') W W' := ⟨hT.os, hT.tape, hT.output, hT.size, hT.block⟩
          exact ⟨from_turned hT' (by omega), (Below.refl _ W).trans (below_turned (Below.refl w.heap.size W) hT' (fun i hi e => by omega) (by omega)), mid_turned hT' (by omega) zW, keepsT_turned hT' (by omega)⟩)
        have HKB0 := Lib.hid (HKB.out _ (Turned.refl _ _))
        have zW2 := HI2.out.size
        clear HI HJn HXb zW
        generalize W.drewN nq = W1 at *
        have cs := HI2.out.box.cell
        have x2 : W1.cell? ⟨Bx, 2, none⟩ = some (.int .i64 p2) := heap_cell HXb2.out rfl
        by_cases h1 : o1 = o2
        · subst h1
          have hd1 : ((o1 : Int) == (o1 : Int)) = true := by simp
          have HJ1 := Lib.hid (HJ.out.trans (if_pos rfl))
          clear HJ
          gi_wp2
          exact ⟨HKB0.out.1, HKB0.out.2, Fp, HJ1, HI2.out⟩
        · have hd1 : ((o1 : Int) == (o2 : Int)) = false := beq_false_of_ne (by omega)
          have HJ1 := Lib.hid (HJ.out.trans (if_neg (by omega)))
          have hje := joinE_cases m Fp p2 hm1 hm2 h1
          have HJe := Lib.hid hje
          clear HJ hje h1
          gi_wp2_with fail
          refine ⟨trivial, (CallsIn.inRound l (callsIn_wide.2 HJn2.out)).mono ?_⟩
          rintro e W2 ⟨rfl, hG2, hT2⟩
          have HG2 := Lib.hid hG2
          have HT2 := Lib.hid hT2
          clear hG2 hT2
          rcases HJe.out with he | he
          · have HJ2 := Lib.hid (HJ1.out.trans (if_pos he))
            rw [he]
            have hI3 := HI2.out.join HG2.out HT2.out hn3 HNz.out
            have HI3 := Lib.hid hI3
            clear hI3 he
            gi_wp2
            obtain ⟨k1, k2, k3, k4⟩ := HKB.out _ HT2.out
            exact ⟨k1, ⟨k2, k3, k4⟩, _, HJ2, HI3.out⟩
          · have HJ2 := Lib.hid (HJ1.out.trans (if_neg (by rw [he]; decide)))
            rw [he]
            have hI3 := HI2.out.one.maps HI2.out.isG HT2.out hn3 HNz.out
            obtain ⟨v4, h4⟩ := hI3.res.b4
            obtain ⟨v5, h5⟩ := hI3.res.b5
            have h6 := hI3.res.b6
            have c4 := h4.cell
            have f4 := h4.frozen
            have c5 := (h5.other (B' := w.heap.size) (by omega) (.pointer none)).cell
            have f5 := (h5.other (B' := w.heap.size) (by omega) (.pointer none)).frozen
            have c6 := ((h6.other (B' := w.heap.size) (by omega) (.pointer none)).other (B' := w.heap.size + 1) (by omega) (.slice none 0 0)).cell
            have f6 := ((h6.other (B' := w.heap.size) (by omega) (.pointer none)).other (B' := w.heap.size + 1) (by omega) (.slice none 0 0)).frozen
            have HGv := Lib.hid (hI3.res.give (.pointer none) (.slice none 0 0) (.int .i64 23))
            have hz2' := HT2.out.size
            clear h4 h5 h6 hI3 he
            gi_wp2
            obtain ⟨k1, k2, k3, k4⟩ := HKB.out _ HT2.out
            obtain ⟨q4, q5, q6, hb⟩ := HGv.out
            refine ⟨(((KeepsFrom.trans k1 ((KeepsOthers.setCell _ _ _).from _)).trans ((KeepsOthers.setCell _ _ _).from _)).trans ((KeepsOthers.setCell _ _ _).from _)), ⟨((k2.setCell (p := ⟨w.heap.size, 0, none⟩) (Nat.le_refl _) _).setCell (p := ⟨w.heap.size + 1, 0, none⟩) (by show w.heap.size ≤ w.heap.size + 1; omega) _).setCell (p := ⟨w.heap.size + 1 + 1, 0, none⟩) (by show w.heap.size ≤ w.heap.size + 1 + 1; omega) _, ((k3.trans (Mid.set _ _ _ _ (.inl (by omega)))).trans (Mid.set _ _ _ _ (.inl (by omega)))).trans (Mid.set _ _ _ _ (.inl (by omega))), ((k4.trans (KeepsT.set _ _ _ _ (by omega))).trans (KeepsT.set _ _ _ _ (by omega))).trans (KeepsT.set _ _ _ _ (by omega))⟩, rfl, HJ2, ⟨q4, q5, q6, hb⟩⟩
      case done =>
        rintro E ys W hD hys ⟨Fp, hF, hI⟩ hK
        rw [hys] at hF
        have hJ := hF.out
        rw [← HO.out] at hJ
        obtain ⟨he, hFe⟩ := HV3'.out Fp hJ
        have HHe := Lib.hid he
        have HFe := Lib.hid hFe
        have HI := Lib.hid hI
        have HK := Lib.hid hK
        clear hF hI hK hst hJ he hFe
        have cs := HI.out.box.cell
        have cb := HI.out.one.box.cell
        obtain ⟨v4, h4⟩ := HI.out.one.res.b4
        obtain ⟨v5, h5⟩ := HI.out.one.res.b5
        have h6 := HI.out.one.res.b6
        have c4 := h4.cell
        have f4 := h4.frozen
        have c5 := (h5.other (B' := w.heap.size) (by omega) (.pointer (some ⟨g', 0, none⟩))).cell
        have f5 := (h5.other (B' := w.heap.size) (by omega) (.pointer (some ⟨g', 0, none⟩))).frozen
        have c6 := ((h6.other (B' := w.heap.size) (by omega) (.pointer (some ⟨g', 0, none⟩))).other (B' := w.heap.size + 1) (by omega) (.slice (some ⟨ib, 0, none⟩) n n)).cell
        have f6 := ((h6.other (B' := w.heap.size) (by omega) (.pointer (some ⟨g', 0, none⟩))).other (B' := w.heap.size + 1) (by omega) (.slice (some ⟨ib, 0, none⟩) n n)).frozen
        have HGv := Lib.hid (HI.out.one.res.give (.pointer (some ⟨g', 0, none⟩)) (.slice (some ⟨ib, 0, none⟩) n n) (.int .i64 0))
        have h9 : W.heap[E]? = some (.deferred (some [])) := HK.out
        have hK9 : ((((W.setCell ⟨w.heap.size, 0, none⟩ (.pointer (some ⟨g', 0, none⟩))).setCell ⟨w.heap.size + 1, 0, none⟩ (.slice (some ⟨ib, 0, none⟩) n n)).setCell ⟨w.heap.size + 1 + 1, 0, none⟩ (.int .i64 0)).drew).heap[E]? = some (.deferred (some [])) :=
          (Turned.set _ _ _ _).old ((Turned.set _ _ _ _).old ((Turned.set _ _ _ _).old h9 (by omega)) (by omega)) (by omega)
        have hG9 : IsG ((((W.setCell ⟨w.heap.size, 0, none⟩ (.pointer (some ⟨g', 0, none⟩))).setCell ⟨w.heap.size + 1, 0, none⟩ (.slice (some ⟨ib, 0, none⟩) n n)).setCell ⟨w.heap.size + 1 + 1, 0, none⟩ (.int .i64 0)).drew) g' nb' zs Fp := by
          obtain ⟨v4', h4'⟩ := HI.out.one.res.b4
          obtain ⟨v5', h5'⟩ := HI.out.one.res.b5
          exact (((HI.out.isG.setPtr h4').setSl (h5'.other (by omega) _)).setErr ((h6.other (by omega) _).other (by omega) _)).below ((Below.refl _ _).drew)
        have hI9 : IntsAt .i64 ((((W.setCell ⟨w.heap.size, 0, none⟩ (.pointer (some ⟨g', 0, none⟩))).setCell ⟨w.heap.size + 1, 0, none⟩ (.slice (some ⟨ib, 0, none⟩) n n)).setCell ⟨w.heap.size + 1 + 1, 0, none⟩ (.int .i64 0)).drew).heap.size ((((W.setCell ⟨w.heap.size, 0, none⟩ (.pointer (some ⟨g', 0, none⟩))).setCell ⟨w.heap.size + 1, 0, none⟩ (.slice (some ⟨ib, 0, none⟩) n n)).setCell ⟨w.heap.size + 1 + 1, 0, none⟩ (.int .i64 0)).drew) (some ⟨ib, 0, none⟩) ib 0 n is :=
          (((HI.out.one.row.turned (Turned.set _ _ _ _) (.inr (fun e : ib = w.heap.size => by omega))).turned (Turned.set _ _ _ _) (.inr (fun e : ib = w.heap.size + 1 => by omega))).turned (Turned.set _ _ _ _) (.inr (fun e : ib = w.heap.size + 1 + 1 => by omega))).kept ((Below.refl _ _).drew) (Nat.le_refl _)
        have HK9 := Lib.hid (And.intro hK9 (And.intro hG9 hI9))
        clear h4 h5 h6 h9 hK9 hG9 hI9
        go_upto_region 14 with fail
        go_region
        obtain ⟨q4, q5, q6, hb⟩ := HGv.out
        obtain ⟨hK9, hG9, hI9⟩ := HK9.out
        have hb9 := hb.drew
        replace q4 : Boxed ((((W.setCell ⟨w.heap.size, 0, none⟩ (.pointer (some ⟨g', 0, none⟩))).setCell ⟨w.heap.size + 1, 0, none⟩ (.slice (some ⟨ib, 0, none⟩) n n)).setCell ⟨w.heap.size + 1 + 1, 0, none⟩ (.int .i64 0)).drew) w.heap.size _ _ := q4
        replace q5 : Boxed ((((W.setCell ⟨w.heap.size, 0, none⟩ (.pointer (some ⟨g', 0, none⟩))).setCell ⟨w.heap.size + 1, 0, none⟩ (.slice (some ⟨ib, 0, none⟩) n n)).setCell ⟨w.heap.size + 1 + 1, 0, none⟩ (.int .i64 0)).drew) (w.heap.size + 1) _ _ := q5
        replace q6 : Boxed ((((W.setCell ⟨w.heap.size, 0, none⟩ (.pointer (some ⟨g', 0, none⟩))).setCell ⟨w.heap.size + 1, 0, none⟩ (.slice (some ⟨ib, 0, none⟩) n n)).setCell ⟨w.heap.size + 1 + 1, 0, none⟩ (.int .i64 0)).drew) (w.heap.size + 1 + 1) _ _ := q6
        generalize ((((W.setCell ⟨w.heap.size, 0, none⟩ (.pointer (some ⟨g', 0, none⟩))).setCell ⟨w.heap.size + 1, 0, none⟩ (.slice (some ⟨ib, 0, none⟩) n n)).setCell ⟨w.heap.size + 1 + 1, 0, none⟩ (.int .i64 0)).drew) = W9 at *
        have HQ := Lib.hid (And.intro q4 (And.intro q5 (And.intro q6 hb9)))
        have HK9' := Lib.hid (And.intro hK9 (And.intro hG9 hI9))
        clear q4 q5 q6 hb hb9 hK9 hG9 hI9 HGv HK9 cs cb c4 f4 c5 f5 c6 f6
        go_wp2
        obtain ⟨q4, q5, q6, hb9⟩ := HQ.out
        obtain ⟨hK9, hG9, hI9⟩ := HK9'.out
        have hg9 := grownBy_putObj' W9 E (.deferred none)
        have hr9 : ∀ r, some E = some r → ∃ o : Obj, W9.heap[r]? = some o ∧ o.isCells = false := fun r e => by cases e; exact ⟨_, hK9, rfl⟩
        have p4 := (grown_other q4 hg9 hr9).cell
        have p5 := (grown_other q5 hg9 hr9).cell
        have p6 := (grown_other q6 hg9 hr9).cell
        have hbE := hb9.trans (belowK_b (w := w) (Nat.le_refl _) _ E _ (.deferred none) (by omega) hK9 rfl rfl)
        refine ⟨by simp, .inl ⟨_, _, rfl, run_takeDeferred hK9, ?_⟩⟩
        refine ⟨.tuple #[.pointer (some ⟨g', 0, none⟩), .slice (some ⟨ib, 0, none⟩) n n, .int .i64 0], by simp [results, Try.f24, go_sem, p4, p5, p6], ?_⟩
        exact HP2.out _ HHe.out hbE g' nb' ib (by rw [HFe.out]; exact hG9.grown hg9 hr9) (ints_off (E := fun _ => False) hI9 (Turned.of_grown hg9) (fun c hc o ho => by obtain ⟨o', h1, h2⟩ := hr9 c hc.symm; rw [ho] at h1; cases h1; exact .inl h2)) (by omega) (by omega) (by omega)
      case stop =>
        rintro E c pre W hD hpre ⟨rfl, hF, hX⟩ hK
        have hno := shJ_none m is hpre hF.out
        rw [← HO.out] at hno
        have he := HV2'.out hno
        have q4 := (grown_other hX.q4 (grownBy_putObj' W E (.deferred none)) (fun r e => by cases e; exact ⟨_, hK, rfl⟩)).cell
        have q5 := (grown_other hX.q5 (grownBy_putObj' W E (.deferred none)) (fun r e => by cases e; exact ⟨_, hK, rfl⟩)).cell
        have q6 := (grown_other hX.q6 (grownBy_putObj' W E (.deferred none)) (fun r e => by cases e; exact ⟨_, hK, rfl⟩)).cell
        have hb := hX.below.trans (belowK_b (w := w) (Nat.le_refl _) _ E _ (.deferred none) (by omega) hK rfl rfl)
        gi_wp2
        refine ⟨by simp, .inl ⟨_, _, rfl, run_takeDeferred hK, ?_⟩⟩
        exact ⟨.tuple #[.pointer none, .slice none 0 0, .int .i64 23], by simp [results, Try.f24, go_sem, q4, q5, q6], HP1.out _ _ hb (by decide) he⟩
    · have hdN : (newE zs == 0) = false := by simpa using hN
      have hdN2 : (newE zs != 0) = true := by simpa using hN
      have hP := fun W hW => HP1.out W _ hW hN (HV1.out hN)
      have HP := Lib.hid hP
      obtain ⟨v4, h4⟩ := HS.out.1.res.b4
      obtain ⟨v5, h5⟩ := HS.out.1.res.b5
      have h6 := HS.out.1.res.b6
      have c4 := h4.cell
      have f4 := h4.frozen
      have c5 := (h5.other (B' := w.heap.size) (by omega) (.pointer none)).cell
      have f5 := (h5.other (B' := w.heap.size) (by omega) (.pointer none)).frozen
      have c6 := ((h6.other (B' := w.heap.size) (by omega) (.pointer none)).other (B' := w.heap.size + 1) (by omega) (.slice none 0 0)).cell
      have f6 := ((h6.other (B' := w.heap.size) (by omega) (.pointer none)).other (B' := w.heap.size + 1) (by omega) (.slice none 0 0)).frozen
      have HG := Lib.hid (HS.out.1.res.give (.pointer none) (.slice none 0 0) (.int .i64 (newE zs)))
      clear h4 h5 h6 hP hN
      go_wp2_with fail
      obtain ⟨q4, q5, q6, hb⟩ := HG.out
      refine ⟨.tuple #[.pointer none, .slice none 0 0, .int .i64 (newE zs)], by simp [results, Try.f24, go_sem, q4.cell, q5.cell, q6.cell], HP.out _ hb⟩
end Go.Proofs.Ytbjgfkiaoffhlaa

namespace Go.Proofs.Ytbjgfkiaoffhlaa
open Go.RowKit

/-- Nothing was turned but what is no cells, and rows of E. -/
def KpO (E : TypeId → Prop) (A B : World) : Prop := Turned (fun c => ∀ o, A.heap[c]? = some o → OffO E o) A B
theorem KpO.refl (E : TypeId → Prop) (A : World) : KpO E A A := ⟨rfl, rfl, rfl, Nat.le_refl _, fun _ _ _ => rfl⟩
theorem KpO.trans {E : TypeId → Prop} {A B C : World} (h : KpO E A B) (k : KpO E B C) : KpO E A C :=
  ⟨k.os.trans h.os, k.tape.trans h.tape, k.output.trans h.output, Nat.le_trans h.size k.size, fun c hc hn => by
    have e := h.block c hc hn
    exact (k.block c (Nat.lt_of_lt_of_le hc h.size) (fun hb => hn (fun o ho => hb o (e.trans ho)))).trans e⟩
theorem KpO.of_below {E : TypeId → Prop} {A B : World} (h : Below A.heap.size A B) : KpO E A B := ⟨h.os, h.tape, h.output, h.size, fun c hc _ => h.block c hc⟩
theorem KpO.grown {E : TypeId → Prop} {A B : World} {row : Option Nat} (hg : A.grownBy B row) (hr : ∀ r, row = some r → ∀ o, A.heap[r]? = some o → OffO E o) : KpO E A B :=
  ⟨hg.os, hg.tape, hg.output, hg.size, fun c hc hn => hg.block c hc (fun e => hn (hr c e.symm))⟩
theorem KpO.put {E : TypeId → Prop} {A : World} {l : Nat} {o o' : Obj} (ho : A.heap[l]? = some o) (hc : o.isCells = false) : KpO E A (A.putObj l o') :=
  KpO.grown (grownBy_putObj' A l o') (fun r e o2 h2 => by cases e; rw [ho] at h2; cases h2; exact .inl hc)
/-- A block that is no row of E stays. -/
theorem KpO.boxed {E : TypeId → Prop} {A B : World} (h : KpO E A B) {b : Nat} {t : TypeId} {v : Value} (hb : Boxed A b t v) (ht : ¬ E t) : Boxed B b t v :=
  h.old hb (fun hR => (hR _ hb).ne ht rfl)
theorem KpO.cells {E : TypeId → Prop} {A B : World} (h : KpO E A B) {b : Nat} {t : TypeId} {cs : Array Value} {fr : Nat × Nat} (hb : A.heap[b]? = some (.cells cs t fr)) (ht : ¬ E t) : B.heap[b]? = some (.cells cs t fr) :=
  h.old hb (fun hR => (hR _ hb).ne ht rfl)

/-- An iterator whose elements lie in memory: a round is told what lies there, and turns nothing but rows of E. -/
def SeqW {α : Type} (F : Fence) (n : Nat) (P : Program) (g : Nat) (lb : Array Value) (encs : α → Array Value) (E : TypeId → Prop) (El : List α → α → World → Prop) (N : Nat) (w : World) : Prop :=
  ∀ (l : Nat) (J Jx : List α → World → Prop) (W : World), Below w.heap.size w W → OwnFrom W.heap.size J → OwnFrom W.heap.size Jx →
    (∀ pre x A, J pre A → El pre x A → pre.length < N → YieldAt F (n - 1) P l (encs x) A fun e B => KpO E A B ∧ ((e = .returned (.bool true) ∧ J (pre ++ [x]) B) ∨ (e = .returned (.bool false) ∧ Jx (pre ++ [x]) B))) →
    J [] W → CallsIn F n P g (#[.func (.yield l) #[] #[]] ++ lb) W fun e B => (∃ v, e = .returned v) ∧ ((∃ xs : List α, xs.length = N ∧ J xs B) ∨ (∃ pre : List α, pre.length ≤ N ∧ Jx pre B))
variable {F : Fence} {n : Nat} {P : Program}
theorem wpIn_rangeFunc_seqW {α : Type} {g : Operand} {ps : Array Tmp} {assign body : Code} {Q : Exit → Act → World → Prop} {a : Act} {w : World}
    (hro : F.round = none) (h1 : 1 ≤ n) {gf : Nat} {lb : Array Value} (hg : a.eval g = .func (.func gf) #[] lb) (hFg : F.fn gf) (eg : ∀ args w, (callFunc gf args).run P w = .ok (.enter gf args) w)
    {encs : α → Array Value} {E : TypeId → Prop} {El : List α → α → World → Prop} {N : Nat} {w0 : World} (hseq : SeqW F (n - 1) P gf lb encs E El N w0)
    (hb0 : Below w0.heap.size w0 w) (hps : ∀ x, (encs x).size = ps.size)
    (I : List α → World → Prop) (Ix : Code → List α → World → Prop) (hI : OwnFrom w.heap.size I) (hIx : ∀ c, OwnFrom w.heap.size (Ix c)) (h0 : I [] w) (Ax : List α → α → Act → World → Prop)
    (hAx : ∀ (pre : List α) (x : α) (a' : Act) (A : World) (l : Nat) (o o' : Obj), Ax pre x a' A → w.heap.size ≤ l → A.heap[l]? = some o → o.isCells = false → Ax pre x a' (A.putObj l o'))
    (hassign : ∀ (l : Nat) (pre : List α) (x : α) (W : World) (K : Act → World → Prop), I pre W → El pre x W → (∀ a' B, KeepsFrom w.heap.size W B → KpO E W B → I pre B → Ax pre x a' B → K a' B) →
      assign.wpIn (F.inRound l) (n - 1 - 1) P (Exit.then K (fun _ _ _ => False)) { tmps := (ps.zip (encs x)).foldl (fun t (p, v) => t.setIfInBounds p v) a.tmps, defers := [] } W)
    (hbody : ∀ (l : Nat) (pre : List α) (x : α) (a' : Act) (W : World), I pre W → Ax pre x a' W → pre.length < N → body.wpIn (F.inRound l) (n - 1 - 1) P (turnPost w.heap.size (KpO E) I Ix (pre ++ [x]) W) a' W)
    (hdone : ∀ (D : Nat) (xs : List α) (W : World), w.heap.size ≤ D → xs.length = N → I xs W → W.heap[D]? = some (.deferred (some [])) → Q .normal { a with defers := { target := .collected D, args := #[] } :: a.defers } W)
    (hstop : ∀ (D : Nat) (c : Code) (pre : List α) (W : World), w.heap.size ≤ D → pre.length ≤ N → Ix c pre W → W.heap[D]? = some (.deferred (some [])) → c.wpIn F n P Q { a with defers := { target := .collected D, args := #[] } :: a.defers } W) :
    (Code.rangeFunc g ps assign body).wpIn F n P Q a w := by
  refine wpIn_rangeFunc fun fn hfn => ?_
  rw [hro]
  let rec0 : Loop := { state := .ready, pending := none, fn, tmps := a.tmps, params := ps, assign, body, defers := w.heap.size }
  have hstart : Laid w.heap.size rec0 ((w.alloc (.deferred (some []))).alloc (.loop rec0)) :=
    ⟨heap_alloc (heap_new _ rfl) _, heap_new _ (by simp)⟩
  have hI1 : I [] ((w.alloc (.deferred (some []))).alloc (.loop rec0)) := hI.alloc _ (hI.alloc _ h0)
  have hb1 : Below w0.heap.size w0 ((w.alloc (.deferred (some []))).alloc (.loop rec0)) := hb0.trans ((((Below.refl _ w).alloc (Nat.le_refl _) _).alloc (by simp) _).mono hb0.size)
  have hent := run_enterLoop_outer (P := P) (w := w) fn a.tmps ps assign body
  have hz1 : ((w.alloc (.deferred (some []))).alloc (.loop rec0)).heap.size = w.heap.size + 2 := by simp
  generalize (w.alloc (.deferred (some []))).alloc (.loop rec0) = W1 at *
  refine ⟨w.heap.size + 1, _, W1, { target := .fn (.func gf) lb, args := #[.func (.yield (w.heap.size + 1)) #[] #[]] }, W1, gf, #[.func (.yield (w.heap.size + 1)) #[] #[]] ++ lb, W1, hent, ?_, ?_, ?_, fun _ => h1, ?_⟩
  · simp only [resolve, hg]
    simp [go_sem]
  · intro f' hf'
    simp [Target.leads] at hf'
    subst hf'
    exact hFg
  · simp [invoke, go_sem, eg]
  · refine (hseq (w.heap.size + 1) (fun pre W => I pre W ∧ Laid w.heap.size rec0 W) (fun pre W => ∃ c, Ix c pre W ∧ Laid w.heap.size { rec0 with state := .done, pending := some c } W) W1 hb1
      (fun s A B row hs hg' hr => ⟨hI s A B row hs.1 hg' (fun r e => ⟨by have := (hr r e).1; omega, (hr r e).2⟩), laid_own hs.2 hg' (Nat.le_refl _) (fun r e => ⟨by have := (hr r e).1; omega, (hr r e).2⟩)⟩)
      (fun s A B row hs hg' hr => by obtain ⟨c, h1, h2⟩ := hs; exact ⟨c, hIx c s A B row h1 hg' (fun r e => ⟨by have := (hr r e).1; omega, (hr r e).2⟩), laid_own h2 hg' (Nat.le_refl _) (fun r e => ⟨by have := (hr r e).1; omega, (hr r e).2⟩)⟩) ?_ ⟨hI1, hstart⟩).mono ?_
    · -- one round
      rintro pre x A0 ⟨hi0, hl0⟩ hel hN
      refine ⟨fn, _, assign, body, run_yield (P := P) (args := encs x) hl0.record (hps x), roundIn_of_wpIn hfn (hassign _ pre x A0 _ hi0 hel fun a' A hk0 hkp0 hi hax => ?_)⟩
      have hl := hl0.keeps hk0
      refine ⟨_, run_beginRound hl.record rfl, ?_⟩
      have hl2 := hl.put { rec0 with state := .busy }
      have hk2 : KpO E A0 (A.putObj (w.heap.size + 1) (.loop { rec0 with state := .busy })) := hkp0.trans (KpO.put hl.record rfl)
      have hi2 := hI.putObj (.loop { rec0 with state := .busy }) hi (by omega) hl.record rfl
      have ha2 := hAx pre x a' A _ _ (.loop { rec0 with state := .busy }) hax (Nat.le_succ _) hl.record rfl
      refine wpIn_mono (hbody _ pre x a' _ hi2 ha2 hN) ?_
      have leave : ∀ (jump : Option Code) (B : World), KeepsFrom w.heap.size (A.putObj (w.heap.size + 1) (.loop { rec0 with state := .busy })) B → KpO E (A.putObj (w.heap.size + 1) (.loop { rec0 with state := .busy })) B →
          (Instr.endRound (w.heap.size + 1) jump).run P B = .ok (.bool jump.isNone) (B.putObj (w.heap.size + 1) (.loop { rec0 with state := if jump.isNone then .ready else .done, pending := jump })) ∧
          Laid w.heap.size { rec0 with state := .busy } B ∧ KpO E A0 (B.putObj (w.heap.size + 1) (.loop { rec0 with state := if jump.isNone then .ready else .done, pending := jump })) := by
        intro jump B hk hkp
        have hl3 := hl2.keeps hk
        have h5 := run_endRound (P := P) jump hl3.record
        exact ⟨h5, hl3, (hk2.trans hkp).trans (KpO.put hl3.record rfl)⟩
      rintro e a3 B hp
      cases e with
      | normal =>
        obtain ⟨hk, hkp, hi3⟩ := hp
        obtain ⟨h5, h6, h7⟩ := leave none B hk hkp
        exact ⟨_, _, h5, h7, .inl ⟨rfl, hI.putObj _ hi3 (by omega) h6.record rfl, h6.put rec0⟩⟩
      | ret =>
        obtain ⟨hk, hkp, hi3⟩ := hp
        obtain ⟨h5, h6, h7⟩ := leave (some .ret) B hk hkp
        exact ⟨_, _, h5, h7, .inr ⟨rfl, .ret, (hIx _).putObj _ hi3 (by omega) h6.record rfl, h6.put _⟩⟩
      | exit id =>
        obtain ⟨hk, hkp, hi3⟩ := hp
        obtain ⟨h5, h6, h7⟩ := leave (some (.exit id)) B hk hkp
        exact ⟨_, _, h5, h7, .inr ⟨rfl, .exit id, (hIx _).putObj _ hi3 (by omega) h6.record rfl, h6.put _⟩⟩
      | goto t =>
        obtain ⟨hk, hkp, hi3⟩ := hp
        obtain ⟨h5, h6, h7⟩ := leave (some (.goto t)) B hk hkp
        exact ⟨_, _, h5, h7, .inr ⟨rfl, .goto t, (hIx _).putObj _ hi3 (by omega) h6.record rfl, h6.put _⟩⟩
      | panic ch => exact hp.elim
      | outgrown => exact hp.elim
    · -- behind the iterator
      rintro e B ⟨⟨v, rfl⟩, (⟨xs, h2, h3, h4⟩ | ⟨pre, h2, c, h3, h4⟩)⟩
      · exact ⟨none, _, run_endLoop (P := P) h4.record (by simp [rec0]), hdone _ xs _ (Nat.le_refl _) h2 (hI.putObj _ h3 (by omega) h4.record rfl) (h4.put _).defers⟩
      · exact ⟨some c, _, run_endLoop (P := P) h4.record (by simp), hstop _ c pre _ (Nat.le_refl _) h2 ((hIx c).putObj _ h3 (by omega) h4.record rfl) (h4.put _).defers⟩
end Go.Proofs.Ytbjgfkiaoffhlaa

namespace Go.Proofs.Ytbjgfkiaoffhlaa
open Go.RowKit

/-- A box whose slice a loop's body gathers; other boxes that stay. -/
structure Bag (hi Bo : Nat) (tS tE : TypeId) (sz : Nat) (bs : List (Nat × TypeId × Value)) (n₀ : Nat) (w0 : World) (k : Nat) (xs : List Value) (W : World) (v : Value) : Prop where
  box : Boxed W Bo tS v
  row : Gath W hi tE sz v k xs
  oth : ∀ x ∈ bs, Boxed W x.1 x.2.1 x.2.2
  below : Below n₀ w0 W
  size : hi ≤ W.heap.size
def BagI (hi Bo : Nat) (tS tE : TypeId) (sz : Nat) (bs : List (Nat × TypeId × Value)) (n₀ : Nat) (w0 : World) (k : Nat) (xs : List Value) (W : World) : Prop := ∃ v, Bag hi Bo tS tE sz bs n₀ w0 k xs W v
theorem Bag.turned {hi Bo : Nat} {tS tE : TypeId} {sz : Nat} {bs : List (Nat × TypeId × Value)} {n₀ : Nat} {w0 W W' : World} {k : Nat} {xs : List Value} {v : Value} {row : Option Nat} (h : Bag hi Bo tS tE sz bs n₀ w0 k xs W v) (hn : n₀ ≤ hi)
    (hg : W.grownBy W' row) (hr : ∀ r, row = some r → hi ≤ r ∧ ∃ o : Obj, W.heap[r]? = some o ∧ o.isCells = false) : Bag hi Bo tS tE sz bs n₀ w0 k xs W' v :=
  ⟨boxed_kept h.box hg (fun r e => (hr r e).2), gath_kept h.row hg (fun r e => (hr r e).2), fun x hx => boxed_kept (h.oth x hx) hg (fun r e => (hr r e).2),
    h.below.grown hg (by have := h.size; omega) (fun r e => by have := (hr r e).1; omega), Nat.le_trans h.size hg.size⟩
theorem Bag.appended {hi Bo : Nat} {tS tE : TypeId} {sz : Nat} {bs : List (Nat × TypeId × Value)} {n₀ : Nat} {w0 W w1 : World} {k : Nat} {xs ys : List Value} {v v' : Value} {tmp : Obj} {row : Option Nat}
    (h : Bag hi Bo tS tE sz bs n₀ w0 k xs W v) (hBo : n₀ ≤ Bo) (hhi : Bo < hi) (hbs : ∀ x ∈ bs, x.1 ≠ Bo ∧ x.1 < hi)
    (hown : w1.ownsRow hi tE sz v' (k + 1) ys) (hgrow : (W.alloc tmp).grownBy w1 row) (hrow : ∀ g, row = some g → hi ≤ g ∧ ∃ o : Obj, (W.alloc tmp).heap[g]? = some o ∧ o.isCells = true) :
    Boxed w1 Bo tS v ∧ Bag hi Bo tS tE sz bs n₀ w0 (k + 1) ys (w1.setCell ⟨Bo, 0, none⟩ v') v' ∧ KeepsOthers W (w1.setCell ⟨Bo, 0, none⟩ v') ∧ Below n₀ W (w1.setCell ⟨Bo, 0, none⟩ v') := by
  have hs := h.size
  have hne : ∀ j, j < hi → some j ≠ row := fun j hj e => by have := (hrow j e.symm).1; omega
  have hb1 : Boxed w1 Bo tS v := (h.box.alloc tmp).kept hgrow (hne _ (by omega))
  have hset := grownBy_setCell' w1 Bo v'
  have hown2 : (w1.setCell ⟨Bo, 0, none⟩ v').ownsRow hi tE sz v' (k + 1) ys := by
    refine hown.kept hset ?_
    rcases hown.2 with ⟨rfl, _⟩ | ⟨g, cap, cur, rfl, hg, _⟩
    · exact .inl rfl
    · refine .inr fun e => ?_
      have : g = Bo := by simpa [Value.ownBlock] using e
      omega
  have hbw : Below n₀ W (w1.setCell ⟨Bo, 0, none⟩ v') := (((Below.refl n₀ W).alloc (by omega) tmp).grown hgrow (by simp; omega) (fun g e => by have := (hrow g e).1; omega)).setCell (p := ⟨Bo, 0, none⟩) hBo v'
  refine ⟨hb1, ⟨hb1.set v', .inr hown2, fun x hx => ?_, h.below.trans hbw, ?_⟩, ?_, hbw⟩
  · exact (((h.oth x hx).alloc tmp).kept hgrow (hne _ (hbs x hx).2)).kept hset (fun e => (hbs x hx).1 (by cases e; rfl))
  · have h1 := hgrow.size
    have h2 := hset.size
    simp at h1
    omega
  · refine ((KeepsOthers.alloc W tmp).trans (KeepsOthers.of_grownBy hgrow fun j o ej hj => ?_)).trans (KeepsOthers.setCell _ _ _)
    obtain ⟨_, o', ho', hc'⟩ := hrow j ej
    rw [hj] at ho'; cases ho'; exact hc'
/-- As 'wpListIn_append_gath'; what is turned is its own row. -/
theorem wpListIn_append_gathO {F : Fence} {n : Nat} {P : Program} (w : World) {ops : Array Oper} {rest : List Oper} {o : Oper} {a : Act} {Q : Exit → Act → World → Prop}
    (hg : o.guard = none) (s x : Operand) (t : TypeId) (hop : o.op = Op.call { callee := Callee.builtin Builtin.append, args := #[s, x], argTypes := #[t, t] })
    (base : Nat) (e : TypeId) (i : TypeInfo) (z : Value) (size bytes : Nat) (h1 : P.underlying t = some (.slice e)) (h2 : P.info? e = some i) (h3 : i.zero = some z) (h4 : i.size = size) (h5 : i.bytes = bytes) (h6 : z.cells.size = size) (h7 : 0 < size)
    (v : Value) (k : Nat) (xs : List Value) (hs : a.eval s = v) (hown : Gath w base e size v k xs) (ad : Addr) (m c : Nat) (news : List Value) (hx : a.eval x = .slice (some ad) m c) (hn : news.length = m * size)
    (hc : ∀ j u, news[j]? = some u → w.cell? (ad.add j) = some u) (h1c : ∀ u ∈ news, u.oneCell' = true) (hm : 0 < m) (b1 : k + m ≤ maxLen) (b2 : (k + m) * bytes ≤ 140737488355328) (b3 : base ≤ w.heap.size)
    (hK : ∀ v' w' row, w'.ownsRow base e size v' (k + m) (xs ++ news) → w.grownBy w' row → (∀ g, row = some g → v.ownBlock = some g ∧ w.ownsRow base e size v k xs) → wpListIn F n P ops Q rest (a.put o.dst v') w') :
    wpListIn F n P ops Q (o :: rest) a w := by
  rcases hown with ⟨rfl, rfl, ao, rfl⟩ | hown
  · refine wpListIn_plain hg fun K hK' => ?_
    cases ao with
    | some b =>
      obtain ⟨v', w', hrun, r1, r2⟩ := run_append_arg_grows (P := P) w t o.type e i z size bytes h1 h2 h3 h4 h5 h6 h7 b 0 0 [] (by simp) (fun j u hj => by simp at hj) ad m c news hn hc (by omega) b1 b2
      unfold Oper.wpIn
      refine ⟨?_, ?_⟩
      · simp [Oper.about, hop, resolve, Target.leads, Sem.run_pure]
      · rw [Oper.semAt_plain F _ _ (by rw [hop]; intro c hc'; cases hc')]
        simp [execOp, hop, resolve, invoke, builtin, hs, hx, hrun, Result.andThen]
        exact hK' _ _ (hK v' w' none (ownsRow_base r1 b3) r2 (fun g hg => by cases hg))
    | none =>
      obtain ⟨v', w', hrun, r1, r2, r3⟩ := run_append_own (P := P) w base t o.type e i z size bytes h1 h2 h3 h4 h5 h6 h7 (.slice none 0 0) 0 [] (World.ownsRow_nil _ _ _ _) ad m c news hn hc h1c b1 b2 b3
      unfold Oper.wpIn
      refine ⟨?_, ?_⟩
      · simp [Oper.about, hop, resolve, Target.leads, Sem.run_pure]
      · rw [Oper.semAt_plain F _ _ (by rw [hop]; intro c hc'; cases hc')]
        simp [execOp, hop, resolve, invoke, builtin, hs, hx, hrun, Result.andThen]
        exact hK' _ _ (hK v' w' _ r1 r2 (fun g hg => by simp [Value.ownBlock] at hg))
  · refine wpListIn_append_own w hg s x t hop base e i z size bytes h1 h2 h3 h4 h5 h6 h7 v k xs hs hown ad m c news hx hn hc h1c b1 b2 b3 ?_
    intro v' w' r1 r2 r3
    refine hK v' w' _ r1 r2 (fun g hg => ⟨hg, hown⟩)
end Go.Proofs.Ytbjgfkiaoffhlaa

namespace Go.Proofs.Ytbjgfkiaoffhlaa
open Go.RowKit Go.Shelf Rk

attribute [local go_sem] Oper.semAt_some

theorem shrink_any {w : World} {g nb : Nat} {ws : List Int} {F : Nat → Nat → Int} (h : IsG w g nb ws F) {a : Option Addr} {b off len cap : Nat} {ms : List Int} (hm : IntsAt .i64 w.heap.size w a b off len ms) (h0 : a = none → len = 0 ∧ cap = 0) :
    Calls Try.prog 24 #[.pointer (some ⟨g, 0, none⟩), .slice a len cap] w (ShrinkPost ws F ms w) := by
  by_cases hE : ms.length ≠ ws.length ∨ mateR ms = false
  · exact shrink_wrong h hm hE
  · refine shrink_right h hm h0 (by omega) ?_
    cases e : mateR ms with
    | true => rfl
    | false => exact absurd (.inr e) hE
/-- What a level's call leaves. -/
def SmallPost (least : Int) (ws : List Int) (F : Nat → Nat → Int) (w : World) (e : Ending) (w' : World) : Prop :=
  Below w.heap.size w w' ∧ ((nextD least ws F = none ∧ e = .returned (.tuple #[.pointer none, .slice none 0 0, .bool false])) ∨
    ∃ d, nextD least ws F = some d ∧ ∃ g nb ib, e = .returned (.tuple #[.pointer (some ⟨g, 0, none⟩), .slice (some ⟨ib, 0, none⟩) ws.length ws.length, .bool true]) ∧ IsG w' g nb d.ws d.F ∧ IntsAt .i64 w'.heap.size w' (some ⟨ib, 0, none⟩) ib 0 ws.length d.ins ∧ w.heap.size ≤ g ∧ w.heap.size ≤ nb ∧ w.heap.size ≤ ib)
set_option maxRecDepth 100000 in
set_option maxHeartbeats 4000000 in
theorem small_any {w : World} {g nb : Nat} {ws : List Int} {F : Nat → Nat → Int} (h : IsG w g nb ws F) (least : Int) :
    Calls Try.prog 70 #[.pointer (some ⟨g, 0, none⟩), .int .i64 least] w (SmallPost least ws F w) := by
  have HLe := Lib.hid (glen_any h)
  have HLe' : Hid (∀ W, Below w.heap.size w W → Calls Try.prog 31 #[.pointer (some ⟨g, 0, none⟩)] W fun e w' => e = .returned (.int .i64 (ws.length : Int)) ∧ W = w') := Lib.hid (fun W hW => glen_any (h.below hW))
  by_cases hle : (ws.length : Int) ≤ least
  · have HN := Lib.hid (show nextD least ws F = none from if_pos hle)
    have hd : decide ((ws.length : Int) ≤ least) = true := by simpa using hle
    clear h hle
    generalize hn : ws.length = n at *
    go_enter Try.func70, Try.ntmps70
    go_wp2_with fail
    refine HLe.out.mono ?_
    rintro e w' ⟨rfl, rfl⟩
    go_wp2
    go_ret3
    exact ⟨Below.refl _ _, .inl ⟨HN.out, rfl⟩⟩
  · have hd : decide ((ws.length : Int) ≤ least) = false := by simp; omega
    have HHv := Lib.hid (heavy_any h)
    have HSh : Hid (∀ pb W, Below w.heap.size w W → IntsAt .i64 W.heap.size W (some ⟨pb, 0, none⟩) pb 0 ws.length (heavyF ws.length F) → Calls Try.prog 24 #[.pointer (some ⟨g, 0, none⟩), .slice (some ⟨pb, 0, none⟩) ws.length ws.length] W (ShrinkPost ws F (heavyF ws.length F) W)) := Lib.hid (fun pb W hW hI => shrink_any (h.below hW) hI (fun e => by cases e))
    have HN1 : Hid (shrE ws F (heavyF ws.length F) ≠ 0 → nextD least ws F = none) := Lib.hid (fun e => by unfold nextD; rw [if_neg hle, if_pos (.inl e)])
    have HN2 : Hid (onesN (heavyF ws.length F) = ws.length → nextD least ws F = none) := Lib.hid (fun e => by unfold nextD; rw [if_neg hle, if_pos (.inr e)])
    have HN3 : Hid (shrE ws F (heavyF ws.length F) = 0 → onesN (heavyF ws.length F) ≠ ws.length → nextD least ws F = some ⟨wsS ws (heavyF ws.length F), shrF ws F (heavyF ws.length F), inL (heavyF ws.length F)⟩) := Lib.hid (fun e1 e2 => by unfold nextD; rw [if_neg hle, if_neg (fun e => e.elim (fun e => e e1) e2)])
    have HWl : Hid ((wsS ws (heavyF ws.length F)).length = onesN (heavyF ws.length F)) := Lib.hid (wsS_length _ _)
    clear h hle
    unfold ShrinkPost at HSh
    generalize wsS ws (heavyF ws.length F) = zs at *
    generalize shrE ws F (heavyF ws.length F) = sE at *
    generalize shrF ws F (heavyF ws.length F) = sF at *
    generalize onesN (heavyF ws.length F) = m at *
    generalize inL (heavyF ws.length F) = is at *
    unfold SmallPost
    generalize nextD least ws F = nd at *
    generalize ws.length = n at *
    generalize heavyF n F = hv at *
    go_enter Try.func70, Try.ntmps70
    go_wp2_with fail
    refine HLe.out.mono ?_
    rintro e w' ⟨rfl, rfl⟩
    go_wp2_with fail
    refine HHv.out.mono ?_
    rintro e w1 ⟨pb, rfl, hI, hpb, hb1⟩
    have HB1 := Lib.hid hb1
    have HI1 := Lib.hid hI
    clear hI hpb hb1 HHv
    go_wp2_with fail
    refine (HSh.out pb _ HB1.out HI1.out).mono ?_
    rintro e w2 ⟨hb2, ⟨hE, rfl⟩ | ⟨hE, g', nb', ib, rfl, hG, hI, h1, h2, h3⟩⟩
    · have HB2 := Lib.hid (HB1.out.trans (hb2.mono HB1.out.size))
      have HNo := Lib.hid (HN1.out hE)
      have hd2 : (sE != 0) = true := by simpa using hE
      have hd3 : (sE == 0) = false := by simpa using hE
      clear hE hb2 HSh
      go_wp2
      go_ret3
      exact ⟨HB2.out, .inl ⟨HNo.out, rfl⟩⟩
    · have HB2 := Lib.hid (HB1.out.trans (hb2.mono HB1.out.size))
      have HG := Lib.hid hG
      have HI2 := Lib.hid hI
      have z1 := HB1.out.size
      have HH := Lib.hid (And.intro h1 (And.intro h2 h3))
      have HL1 := Lib.hid (glen_any hG)
      rw [HWl.out] at HL1
      have HL2 := Lib.hid (HLe'.out _ HB2.out)
      clear hb2 hG hI h1 h2 h3 HSh HLe HLe'
      by_cases hm : m = n
      · have HNo := Lib.hid (HN2.out hm)
        subst hm
        have hd2 : ((m : Int) == (m : Int)) = true := by simp
        go_wp2_with fail
        refine HL1.out.mono ?_
        rintro e w' ⟨rfl, rfl⟩
        go_wp2_with fail
        refine HL2.out.mono ?_
        rintro e w' ⟨rfl, rfl⟩
        go_wp2
        go_ret3
        exact ⟨HB2.out, .inl ⟨HNo.out, rfl⟩⟩
      · have HSo := Lib.hid (HN3.out hE hm)
        have hd2 : ((m : Int) == (n : Int)) = false := beq_false_of_ne (by omega)
        clear hm
        go_wp2_with fail
        refine HL1.out.mono ?_
        rintro e w' ⟨rfl, rfl⟩
        go_wp2_with fail
        refine HL2.out.mono ?_
        rintro e w' ⟨rfl, rfl⟩
        go_wp2
        go_ret3
        obtain ⟨h1, h2, h3⟩ := HH.out
        exact ⟨HB2.out, .inr ⟨_, HSo.out, g', nb', ib, rfl, HG.out, HI2.out, by omega, by omega, by omega⟩⟩
/-- A function that makes a graph again. -/
def IsK (W : World) (v : Value) (n₀ lo : Nat) (ws : List Int) (F : Nat → Nat → Int) : Prop :=
  ∃ B3 B5 wb sv, v = .func (.func 82) #[] #[.pointer (some ⟨B3, 0, none⟩), .pointer (some ⟨B5, 0, none⟩)] ∧ Boxed W B3 22 (.slice (some ⟨wb, 0, none⟩) ws.length ws.length) ∧ W.heap[wb]? = some (.cells (rowC ws.length (fun i => ws.getD i 0)) 2 (0, 0)) ∧
    Boxed W B5 93 sv ∧ IsE W sv n₀ lo ws.length F ∧ Tab ws.length F ∧ ws.length ≤ 4096 ∧ (∀ x ∈ ws, 1 ≤ x ∧ x ≤ 1099511627776) ∧ lo ≤ wb ∧ lo ≤ B3 ∧ lo ≤ B5
theorem IsE.low {W : World} {v : Value} {n₀ lo lo' n : Nat} {F : Nat → Nat → Int} (h : IsE W v n₀ lo n F) (h1 : n₀ ≤ lo') (h2 : lo' ≤ lo) : IsE W v n₀ lo' n F := by
  obtain ⟨Bl, lb, cs, e, k1, k2, k3, k4, k5, k6, k7, k8⟩ := h
  exact ⟨Bl, lb, cs, e, k1, k2, k3, fun a ha => by obtain ⟨u, q1, q2, q3⟩ := k4 a ha; exact ⟨u, q1, q2, q3.mono h2⟩, k5, h1, by omega, by omega⟩
theorem IsE.below {W W' : World} {v : Value} {n₀ lo n : Nat} {F : Nat → Nat → Int} (h : IsE W v n₀ lo n F) (hb : Below W.heap.size W W') : IsE W' v n₀ lo n F := by
  obtain ⟨Bl, lb, cs, e, k1, k2, k3, k4, k5, k6, k7, k8⟩ := h
  exact ⟨Bl, lb, cs, e, heap_below k1 hb (heap_lt k1), heap_below k2 hb (heap_lt k2), k3, fun a ha => by obtain ⟨u, q1, q2, q3⟩ := k4 a ha; exact ⟨u, q1, q2.below hb, q3⟩, k5, k6, k7, k8⟩
theorem IsK.below {W W' : World} {v : Value} {n₀ lo : Nat} {ws : List Int} {F : Nat → Nat → Int} (h : IsK W v n₀ lo ws F) (hb : Below W.heap.size W W') : IsK W' v n₀ lo ws F := by
  obtain ⟨B3, B5, wb, sv, e, k1, k2, k3, k4, k5⟩ := h
  exact ⟨B3, B5, wb, sv, e, boxed_below k1 hb, heap_below k2 hb (heap_lt k2), boxed_below k3 hb, k4.below hb, k5⟩
/-- While the weights are taken. -/
structure KR (w : World) (n : Nat) (f : Nat → Int) (W : World) : Prop where
  row : W.heap[w.heap.size]? = some (.cells (rowC n f) 2 (0, 0))
  box : Boxed W (w.heap.size + 1) 22 (.slice (some ⟨w.heap.size, 0, none⟩) n n)
  below : Below w.heap.size w W
def wsTo (ws : List Int) (j : Nat) : Nat → Int := fun i => if i < j then ws.getD i 0 else 0
theorem wsTo_succ (ws : List Int) (j : Nat) : wsTo ws (j + 1) = upd (wsTo ws j) j (ws.getD j 0) := by
  funext c
  unfold wsTo upd
  by_cases e : c = j
  · rw [if_pos e, if_pos (by omega), e]
  · rw [if_neg e]
    by_cases h : c < j
    · rw [if_pos (show c < j + 1 by omega)]; exact (if_pos h).symm
    · rw [if_neg (show ¬ c < j + 1 by omega)]; exact (if_neg h).symm
theorem KR.set {w : World} {n j : Nat} {f : Nat → Int} {W : World} (h : KR w n f W) (hj : j < n) (v : Int) : KR w n (upd f j v) (W.setCell ⟨w.heap.size, j, none⟩ (.int .i64 v)) := by
  have h1 := heap_set h.row j (.int .i64 v)
  rw [rowC_set f hj v] at h1
  have hne : w.heap.size + 1 ≠ w.heap.size := by omega
  exact ⟨h1, heap_other h.box hne _ _, h.below.setCell (p := ⟨w.heap.size, j, none⟩) (Nat.le_refl _) _⟩
theorem KR.on {w : World} {n : Nat} {f : Nat → Int} {W W' : World} (h : KR w n f W) (hb : Below W.heap.size W W') : KR w n f W' := ⟨heap_below h.row hb (heap_lt h.row), boxed_below h.box hb, h.below.trans (hb.mono h.below.size)⟩
theorem wsTo_all (ws : List Int) : rowC ws.length (wsTo ws ws.length) = rowC ws.length (fun i => ws.getD i 0) := by
  unfold rowC
  congr 1
  exact List.map_congr_left (fun i hi => by rw [show wsTo ws ws.length i = ws.getD i 0 from if_pos (List.mem_range.1 hi)])
set_option maxRecDepth 100000 in
set_option maxHeartbeats 4000000 in
theorem kept_any {w : World} {g nb : Nat} {ws : List Int} {F : Nat → Nat → Int} (h : IsG w g nb ws F) :
    Calls Try.prog 68 #[.pointer (some ⟨g, 0, none⟩)] w fun e w' => ∃ v lo, e = .returned v ∧ IsK w' v w.heap.size lo ws F ∧ w.heap.size ≤ lo ∧ Below w.heap.size w w' := by
  have HG := Lib.hid h
  have hsm := h.small
  have HLe := Lib.hid (glen_any h)
  have HED : Hid (∀ W, Below w.heap.size w W → Calls Try.prog 46 #[.pointer (some ⟨g, 0, none⟩)] W (EPost w.heap.size ws.length F W)) := Lib.hid (fun W hW => medges_any h hW)
  have hw := h.wts
  have HWt : Hid (∀ W j, Below w.heap.size w W → j < ws.length → Calls Try.prog 43 #[.pointer (some ⟨g, 0, none⟩), .int .i64 (j : Int)] W fun e w' => e = .returned (.int .i64 (ws.getD j 0)) ∧ W = w') := Lib.hid (fun W j hW hj => weight_lit (h.below hW) j (by unfold wtOf; rw [if_pos ⟨by omega, by omega⟩, Int.toNat_natCast]))
  have HW := Lib.hid hw
  have HTb := Lib.hid h.tab
  unfold IsK
  have hmk := madeRow w ws.length hsm
  clear h hw
  generalize hn : ws.length = n at *
  go_enter Try.func68, Try.ntmps68
  go_wp2_with fail
  refine HLe.out.mono ?_
  rintro e w' ⟨rfl, rfl⟩
  go_upto_region 2 with fail
  have hR0 : KR w n (wsTo ws 0) ((w.alloc (.cells (rowC n (noTab 0)) 2)).alloc (.cells #[.slice (some ⟨w.heap.size, 0, none⟩) n n] 22)) := by
    refine ⟨heap_alloc (World.alloc_heap_new w _) _, ?_, ((Below.refl _ w).alloc (Nat.le_refl _) _).alloc (by simp) _⟩
    have := Boxed.new (w.alloc (.cells (rowC n (noTab 0)) 2)) 22 (.slice (some ⟨w.heap.size, 0, none⟩) n n)
    rwa [World.size_alloc] at this
  obtain ⟨w1, hw1⟩ : ∃ w1, ((w.alloc (.cells (rowC n (noTab 0)) 2)).alloc (.cells #[.slice (some ⟨w.heap.size, 0, none⟩) n n] 22)) = w1 := ⟨_, rfl⟩
  rw [hw1] at hR0 ⊢
  have HR0 := Lib.hid hR0
  have c3 := hR0.box.cell
  clear hR0 hw1 hmk
  go_wp2
  go_loopw [11] (fun i wr => ∃ j : Nat, i = .int .i64 j ∧ j ≤ n ∧ Hid (KR w n (wsTo ws j) wr)) (fun i _ => n - (intOf i).toNat)
  case atStart => exact ⟨0, rfl, Nat.zero_le _, HR0⟩
  case round =>
    clear HR0 c3
    obtain ⟨j, rfl, hj, HR⟩ := hrel
    by_cases hlt : j < n
    · have hji : (j : Int) < (n : Int) := by omega
      have c3 := HR.out.box.cell
      have c1 := heap_cell HR.out.row (rowC_at (wsTo ws j) hlt)
      have f1 := heap_frozen HR.out.row j
      have HG1 := Lib.hid (HWt.out wr j HR.out.below hlt)
      have HG2 := Lib.hid (HWt.out wr.drew j HR.out.below.drew hlt)
      have HR2 : Hid (KR w n (wsTo ws (j + 1)) ((wr.setCell ⟨w.heap.size, j, none⟩ (.int .i64 (ws.getD j 0))).drew)) := Lib.hid (by rw [wsTo_succ]; exact (HR.out.set hlt _).on (Below.refl _ _).drew)
      clear HR
      generalize ws.getD j 0 = x at *
      go_wp2_with fail
      go_region_with (first
        | (go_at_call 43; refine HG2.out.mono ?_; rintro e w' ⟨rfl, rfl⟩)
        | (go_at_call 43; refine HG1.out.mono ?_; rintro e w' ⟨rfl, rfl⟩))
      all_goals
        go_wp2
        go_roundw
        case rel => exact ⟨j + 1, by go_num, by omega, HR2⟩
        case measure => simp [intOf]; omega
    · obtain rfl : j = n := by omega
      have HE := Lib.hid (HED.out _ HR.out.below)
      go_wp2_with fail
      refine HE.out.mono ?_
      rintro e w4 ⟨sv, rfl, hsq, hB4⟩
      have hR4 := HR.out.on hB4
      obtain ⟨lq, hlq⟩ : ∃ lq, sv = .func (.func 66) #[] lq := by obtain ⟨Bl, lb', cs, h1, _⟩ := hsq; exact ⟨_, h1⟩
      subst hlq
      have HF : Hid (∃ v lo, (Ending.returned (.func (.func 82) #[] #[.pointer (some ⟨w.heap.size + 1, 0, none⟩), .pointer (some ⟨w4.heap.size, 0, none⟩)])) = .returned v ∧ IsK (w4.alloc (.cells #[.func (.func 66) #[] lq] 93)) v w.heap.size lo ws F ∧ w.heap.size ≤ lo ∧ Below w.heap.size w (w4.alloc (.cells #[.func (.func 66) #[] lq] 93))) := by
        have hb5 := (Below.refl w4.heap.size w4).alloc (Nat.le_refl _) (.cells #[.func (.func 66) #[] lq] 93)
        have hR5 := hR4.on hb5
        have hz4 := hR4.below.size
        have hzr := HR.out.below.size
        have hrow := hR5.row
        rw [← hn, wsTo_all] at hrow
        subst hn
        exact Lib.hid ⟨_, w.heap.size, rfl, ⟨_, _, _, _, rfl, hR5.box, hrow, Boxed.new w4 _ _, (hsq.below hb5).low (Nat.le_refl _) hzr, HTb.out, hsm, HW.out, Nat.le_refl _, by omega, hz4⟩, Nat.le_refl _, hR5.below⟩
      unfold IsK at HF
      rw [hn] at HF
      clear hsq hB4 hR4 HR
      go_wp2
      go_ret
      exact HF.out
end Go.Proofs.Ytbjgfkiaoffhlaa

namespace Go.Proofs.Ytbjgfkiaoffhlaa
open Go.RowKit Go.Shelf Rk

attribute [local go_sem] Oper.semAt_some

theorem mid_turned' {lo hi m : Nat} {A B : World} (h : Turned (fun c => c = m) A B) (hm : hi ≤ m) (hh : hi ≤ A.heap.size) : Mid lo hi A B := ⟨h.size, fun k h1 h2 => h.block k (by omega) (by omega)⟩
/-- Between two pairs of things. -/
structure AgI (w w4 : World) (zs : List Int) (sb g nb : Nat) (Fp : Nat → Nat → Int) (W : World) : Prop where
  size : w4.heap.size ≤ W.heap.size
  box : Boxed W sb 26 (.pointer (some ⟨g, 0, none⟩))
  isG : IsG W g nb zs Fp
  below : Below w.heap.size w W
theorem AgI.on {w w4 : World} {zs : List Int} {sb g nb : Nat} {Fp : Nat → Nat → Int} {W W' : World} (h : AgI w w4 zs sb g nb Fp W) (hb : Below W.heap.size W W') : AgI w w4 zs sb g nb Fp W' :=
  ⟨Nat.le_trans h.size hb.size, boxed_below h.box hb, h.isG.below hb, h.below.trans (hb.mono h.below.size)⟩
theorem AgI.grown {w w4 : World} {zs : List Int} {sb g nb : Nat} {Fp : Nat → Nat → Int} {W W' : World} {row : Option Nat} (h : AgI w w4 zs sb g nb Fp W) (hg : W.grownBy W' row) (hr : ∀ r, row = some r → w.heap.size ≤ r ∧ ∃ o : Obj, W.heap[r]? = some o ∧ o.isCells = false) : AgI w w4 zs sb g nb Fp W' :=
  ⟨Nat.le_trans h.size hg.size, grown_other h.box hg (fun r e => (hr r e).2), h.isG.grown hg (fun r e => (hr r e).2), h.below.grown hg h.below.size (fun k e => (hr k e).1)⟩
theorem AgI.join {w w4 : World} {zs : List Int} {sb g nb : Nat} {Fp Fq : Nat → Nat → Int} {W W' : World} (h : AgI w w4 zs sb g nb Fp W) (hG : IsG W' g nb zs Fq) (ht : Turned (fun c => c = nb) W W') (hn : w.heap.size ≤ nb) : AgI w w4 zs sb g nb Fq W' := by
  obtain ⟨cs, h3⟩ := h.isG.maps
  refine ⟨Nat.le_trans h.size ht.size, ht.old h.box (fun e => ?_), hG, below_turned h.below ht (fun i hi e => by omega) h.below.size⟩
  subst e; rw [show W.heap[sb]? = _ from h.box] at h3; cases h3
theorem newE_ok {ws : List Int} (hl : ws.length ≤ 4096) (hw : ∀ x ∈ ws, 1 ≤ x ∧ x ≤ 1099511627776) : newE ws = 0 := by
  unfold newE
  rw [if_neg (by omega), if_pos (List.all_eq_true.2 (fun x hx => may_mk (hw x hx).1 (hw x hx).2))]
theorem rowC_ws {ws : List Int} (hl : ws.length ≤ 4096) (hw : ∀ x ∈ ws, 1 ≤ x ∧ x ≤ 1099511627776) {w : World} {wb : Nat} (h : w.heap[wb]? = some (.cells (rowC ws.length (fun i => ws.getD i 0)) 2 (0, 0))) : IntsAt .i64 w.heap.size w (some ⟨wb, 0, none⟩) wb 0 ws.length ws := by
  have hI := ints_rowC h (by omega) (fun i hi => by
    have := getD_wts hw hi
    have h1 : IntKind.i64.min = -9223372036854775808 := by decide
    have h2 : IntKind.i64.max = 9223372036854775807 := by decide
    show (decide (IntKind.i64.min ≤ _) && decide (_ ≤ IntKind.i64.max)) = true
    rw [h1, h2, Bool.and_eq_true, decide_eq_true_eq, decide_eq_true_eq]
    omega)
  have e : (List.range ws.length).map (fun i => ws.getD i 0) = ws := by
    apply List.ext_getElem
    · simp
    · intro i h1 h2
      simp [List.getD_eq_getElem?_getD, h2]
  rw [e] at hI
  exact hI
set_option maxRecDepth 100000 in
set_option maxHeartbeats 4000000 in
theorem again_any {w : World} {v : Value} {n₀ lo : Nat} {ws : List Int} {F : Nat → Nat → Int} (h : IsK w v n₀ lo ws F) (hlo : lo ≤ w.heap.size) :
    ∃ lb, v = .func (.func 82) #[] lb ∧ Calls Try.prog 82 lb w fun e w' => ∃ g nb, e = .returned (.pointer (some ⟨g, 0, none⟩)) ∧ IsG w' g nb ws F ∧ w.heap.size ≤ g ∧ w.heap.size ≤ nb ∧ Below w.heap.size w w' := by
  obtain ⟨B3, B5, wb, sv, rfl, hB3, hwb, hB5, hE, ht, hsm, hw, _⟩ := h
  refine ⟨_, rfl, ?_⟩
  have HNw := Lib.hid (new_any (cap := ws.length) (rowC_ws hsm hw hwb) (fun e => by cases e))
  have HE0 := Lib.hid (newE_ok hsm hw)
  have hn0 : n₀ ≤ lo := by obtain ⟨_, _, _, _, _, _, _, _, _, h, _⟩ := hE; exact h
  have HJf := Lib.hid (jf_all ht)
  obtain ⟨lq, rfl, hst0⟩ := hE.stopsM 2 95 (by decide) (by decide)
  have hst := hst0.sub
  have HMEM : Hid (∀ x ∈ edgesD ws.length F, ∃ a b : Nat, x = ((a : Int), (b : Int), F a b)) := Lib.hid (fun x hx => by
    obtain ⟨a, b, _, _, h, _⟩ := edges_mem hx
    exact ⟨a, b, h⟩)
  have c0 := hB3.cell
  have HB5 := Lib.hid hB5
  clear hE ht hw hwb hB3 hB5 hst0
  generalize edgesD ws.length F = D at *
  generalize hn : ws.length = n at *
  refine (callsIn_wide (n := 3)).1 ?_
  refine callsIn_of_wp_marks Try.func82 rfl trivial ?_ rfl
  simp only [Try.ntmps82, List.size_toArray, List.length_cons, List.length_nil, Nat.reduceAdd, Nat.reduceSub, Array.replicate_succ, Array.replicate_zero, List.push_toArray, List.append_toArray, List.nil_append, List.cons_append]
  refine wpIn_wide.2 ?_
  go_wp2_with fail
  refine HNw.out.mono ?_
  rintro e w3 ⟨hb, ⟨h1, _⟩ | ⟨_, g, nb, rfl, hG, hg, hnb⟩⟩
  · exact absurd HE0.out h1
  have hb3 := hb.alloc hb.size (.cells #[.pointer (some ⟨g, 0, none⟩)] 26)
  have HX0 : Hid (AgI w (w3.alloc (.cells #[.pointer (some ⟨g, 0, none⟩)] 26)) ws w3.heap.size g nb noTab (w3.alloc (.cells #[.pointer (some ⟨g, 0, none⟩)] 26))) := Lib.hid ⟨Nat.le_refl _, Boxed.new w3 _ _, hG.below ((Below.refl _ _).alloc (Nat.le_refl _) _), hb3⟩
  have c5 := (boxed_below HB5.out hb3).cell
  have z3 := hb.size
  have hgl := hG.lt
  clear hb hG hb3 HNw
  go_wp2_with fail
  obtain ⟨w4, hw4⟩ : ∃ w4, (w3.alloc (.cells #[.pointer (some ⟨g, 0, none⟩)] 26)) = w4 := ⟨_, rfl⟩
  have z4 : w4.heap.size = w3.heap.size + 1 := by rw [← hw4]; simp
  rw [hw4] at HX0 ⊢
  generalize hsb : w3.heap.size = sb at *
  clear c5 c0 HB5
  refine (wpIn_wide (n := 3)).1 ?_
  refine wpIn_rangeFunc_seqN rfl (by omega) (gf := 66) (lb := lq) rfl trivial (enters_of Try.func66 (by kernel_rfl) rfl)
    hst (by omega) (by omega) HX0.out.below (fun _ => rfl)
    (fun pre W => AgI w w4 ws sb g nb (jf n (pre.map Subtype.val) noTab) W)
    (fun _ _ _ => False)
    (fun s A B row hs hg' hr => hs.grown hg' (fun r e => ⟨by have := (hr r e).1; omega, (hr r e).2⟩))
    (fun _ _ _ _ _ hs _ _ => hs)
    HX0.out
    (fun x a' A => ∃ Bx, w4.heap.size ≤ Bx ∧ A.heap[Bx]? = some (.cells #[.int .i64 x.1.1, .int .i64 x.1.2.1, .int .i64 x.1.2.2] 95 (0, 0)) ∧ a' = { tmps := #[.pointer (some ⟨B3, 0, none⟩), .pointer (some ⟨B5, 0, none⟩), .pointer none, .pointer (some ⟨sb, 0, none⟩), .int .i64 0, .pointer (some ⟨Bx, 0, none⟩), .tuple #[.pointer (some ⟨g, 0, none⟩), .int .i64 0], .slice (some ⟨wb, 0, none⟩) n n, .tuple #[.pointer (some ⟨g, 0, none⟩), .int .i64 0], .pointer (some ⟨g, 0, none⟩), .int .i64 0, .func (.func 66) #[] lq, .agg #[.int .i64 x.1.1, .int .i64 x.1.2.1, .int .i64 x.1.2.2], undef, undef, undef, undef, undef, undef, undef, undef, undef], defers := [] })
    (fun x a' A l o o' hs hl ho hc => by
      obtain ⟨Bx, e1, e2, e3⟩ := hs
      exact ⟨Bx, e1, (World.putObj_heap_other (by intro e; subst e; rw [e2] at ho; cases ho; cases hc)).trans e2, e3⟩) ?assign ?body ?done ?stop
  case assign =>
    rintro l pre x W K hI hK
    unfold encE
    gi_wp2
    have hz := hI.size
    exact hK _ _ ((KeepsOthers.alloc _ _).from _) ⟨(Below.refl _ W).alloc (by omega) _, Mid.alloc _ _ _ _ (by omega), KeepsT.alloc _ _ _ _⟩ (hI.on ((Below.refl _ W).alloc (Nat.le_refl _) _)) ⟨W.heap.size, hz, World.alloc_heap_new W _, rfl⟩
  case body =>
    rintro l pre x a' W hI ⟨Bx, hBx, hXb, rfl⟩ hlt
    obtain ⟨a1, b1, hx⟩ := HMEM.out x.1 x.2
    have HJn := Lib.hid (join_any hI.isG (a1 : Int) (b1 : Int) (F a1 b1))
    have HS : Hid (jf n ((pre ++ [x]).map Subtype.val) noTab = joinF n (jf n (pre.map Subtype.val) noTab) (a1 : Int) (b1 : Int) (F a1 b1)) := Lib.hid (by rw [List.map_append, List.map_cons, List.map_nil, jf_snoc, hx])
    unfold JoinPost at HJn
    rw [hn] at HJn
    rw [hx] at hXb ⊢
    dsimp only at hXb ⊢
    generalize F a1 b1 = p2 at *
    have x0 : W.cell? ⟨Bx, 0, none⟩ = some (.int .i64 (a1 : Int)) := heap_cell hXb rfl
    have x1 : W.cell? ⟨Bx, 1, none⟩ = some (.int .i64 (b1 : Int)) := heap_cell hXb rfl
    have x2 : W.cell? ⟨Bx, 2, none⟩ = some (.int .i64 p2) := heap_cell hXb rfl
    have cs := hI.box.cell
    have HI := Lib.hid hI
    have zW := hI.size
    clear hx hI hst hXb
    gi_wp2_with fail
    refine ⟨trivial, (CallsIn.inRound l (callsIn_wide.2 HJn.out)).mono ?_⟩
    rintro e W2 ⟨rfl, hG2, hT2⟩
    have HG2 := Lib.hid hG2
    have HT2 := Lib.hid hT2
    clear hG2 hT2
    gi_wp2
    exact ⟨from_turned HT2.out (by omega), ⟨below_turned (Below.refl _ W) HT2.out (fun i hi e => by omega) (by omega), mid_turned' HT2.out (by omega) (by omega), keepsT_turned HT2.out (by omega)⟩, by show AgI _ _ _ _ _ _ (jf n ((pre ++ [x]).map Subtype.val) noTab) _; rw [HS.out]; exact HI.out.join HG2.out HT2.out hnb⟩
  case done =>
    rintro E ys W hD hys hI hK
    rw [hys, HJf.out] at hI
    have cs := hI.box.cell
    have HI := Lib.hid hI
    have HK := Lib.hid hK
    clear hI hK hst
    go_wp2
    have hK := HK.out
    have hg9 := grownBy_putObj' W E (.deferred none)
    have hr9 : ∀ r, some E = some r → ∃ o : Obj, W.heap[r]? = some o ∧ o.isCells = false := fun r e => by cases e; exact ⟨_, hK, rfl⟩
    refine ⟨by simp, .inl ⟨_, _, rfl, run_takeDeferred hK, ?_⟩⟩
    refine ⟨_, results_tmp rfl _ _ _, g, nb, rfl, HI.out.isG.grown hg9 hr9, hg, hnb, HI.out.below.trans (belowK_b (w := w) (Nat.le_refl _) _ E _ (.deferred none) (by omega) hK rfl rfl)⟩
  case stop =>
    rintro E c pre W hD hpre h hK
    exact h.elim
end Go.Proofs.Ytbjgfkiaoffhlaa

namespace Go.Proofs.Ytbjgfkiaoffhlaa
open Go.RowKit Go.Shelf Rk

attribute [local go_sem] Oper.semAt_some

/-- Rows of E are nothing that a graph that is kept needs. -/
structure OkK (E : TypeId → Prop) : Prop where
  g : OkE E
  k1 : ¬ E 22
  k2 : ¬ E 2
  k3 : ¬ E 93
  k4 : ¬ E 115
  k5 : ¬ E 109
  k6 : ¬ E 82
  k7 : ¬ E 3
theorem IsSeq.off {E : TypeId → Prop} (hE : OkK E) {A B : World} {v : Value} {n₀ : Nat} {D : List (Int × Int)} (h : IsSeq A v n₀ D) (k : KpO E A B) : IsSeq B v n₀ D := by
  obtain ⟨B1, B2, p, t, s, h1, h2, h3, h4, h5, h6, h7, h8⟩ := h
  exact ⟨B1, B2, p, t, s, h1, k.cells h2 hE.k6, k.cells h3 hE.k7, h4.spared k (fun c hc o ho cs fr => (hc o ho).ne hE.g.e3), h5, h6, h7, Nat.le_trans h8 k.size⟩
theorem IsE.off {E : TypeId → Prop} (hE : OkK E) {A B : World} {v : Value} {n₀ lo n : Nat} {F : Nat → Nat → Int} (h : IsE A v n₀ lo n F) (k : KpO E A B) : IsE B v n₀ lo n F := by
  obtain ⟨Bl, lb, cs, e, k1, k2, k3, k4, k5, k6, k7, k8⟩ := h
  exact ⟨Bl, lb, cs, e, k.cells k1 hE.k4, k.cells k2 hE.k5, k3, fun a ha => by obtain ⟨u, q1, q2, q3⟩ := k4 a ha; exact ⟨u, q1, q2.off hE k, q3⟩, k5, k6, k7, k8⟩
theorem IsK.off {E : TypeId → Prop} (hE : OkK E) {A B : World} {v : Value} {n₀ lo : Nat} {ws : List Int} {F : Nat → Nat → Int} (h : IsK A v n₀ lo ws F) (k : KpO E A B) : IsK B v n₀ lo ws F := by
  obtain ⟨B3, B5, wb, sv, e, k1, k2, k3, k4, k5⟩ := h
  exact ⟨B3, B5, wb, sv, e, k.boxed k1 hE.k1, k.cells k2 hE.k2, k.boxed k3 hE.k3, k4.off hE k, k5⟩
theorem IsK.lt {A : World} {v : Value} {n₀ lo : Nat} {ws : List Int} {F : Nat → Nat → Int} (h : IsK A v n₀ lo ws F) : lo ≤ A.heap.size := by
  obtain ⟨B3, B5, wb, sv, e, k1, k2, k3, k4, _, _, _, k5, k6, k7⟩ := h
  have := heap_lt k1
  omega
/-- A level in memory. -/
def LvAt (A : World) (x : Value × Value) (d : LvD) : Prop :=
  ∃ g nb ib, x = (.pointer (some ⟨g, 0, none⟩), .slice (some ⟨ib, 0, none⟩) d.ins.length d.ins.length) ∧ IsG A g nb d.ws d.F ∧ IntsAt .i64 A.heap.size A (some ⟨ib, 0, none⟩) ib 0 d.ins.length d.ins
theorem LvAt.off {E : TypeId → Prop} (hE : OkE E) {A B : World} {x : Value × Value} {d : LvD} (h : LvAt A x d) (k : KpO E A B) : LvAt B x d := by
  obtain ⟨g, nb, ib, e, h1, h2⟩ := h
  exact ⟨g, nb, ib, e, h1.off hE k (fun c hc => hc), ints_off h2 k (fun c hc => hc)⟩
def ElL (D : List LvD) (pre : List (Value × Value)) (x : Value × Value) (A : World) : Prop := ∃ d, D[pre.length]? = some d ∧ LvAt A x d
def encL (x : Value × Value) : Array Value := #[x.1, x.2]
/-- What hands out levels. -/
def IsLv (W : World) (v : Value) (least : Int) (ws : List Int) (F : Nat → Nat → Int) : Prop :=
  ∃ Bf Bl kv n₀ lo, v = .func (.func 69) #[] #[.pointer (some ⟨Bf, 0, none⟩), .pointer (some ⟨Bl, 0, none⟩)] ∧ Boxed W Bf 118 kv ∧ IsK W kv n₀ lo ws F ∧ Boxed W Bl 3 (.int .i64 least)
theorem next_ins {least : Int} {ws : List Int} {F : Nat → Nat → Int} {d : LvD} (h : nextD least ws F = some d) : d.ins.length = ws.length := by
  unfold nextD at h
  split at h
  · cases h
  · split at h
    · cases h
    · cases h
      show (inL _).length = _
      rw [inL_length, heavy_length]
/-- Between two levels. -/
structure LvR (least : Int) (Bl : Nat) (D : List LvD) (J : List (Value × Value) → World → Prop) (W0 : World) (kv : Value) (ws : List Int) (F : Nat → Nat → Int) (xs : List (Value × Value)) (W : World) : Prop where
  isK : ∃ n₀ lo, IsK W kv n₀ lo ws F
  box : Boxed W Bl 3 (.int .i64 least)
  at_ : ∃ dp : List LvD, dp.length = xs.length ∧ D = dp ++ levelsD least ws F
  size : W0.heap.size ≤ W.heap.size
  j : J xs W
set_option maxRecDepth 100000 in
set_option maxHeartbeats 4000000 in
theorem IsLv.seq {w : World} {v : Value} {least : Int} {ws : List Int} {F : Nat → Nat → Int} (h : IsLv w v least ws F) {E : TypeId → Prop} (hE : OkK E) (m : Nat) :
    ∃ lb, v = .func (.func 69) #[] lb ∧ SeqW Fence.wide m Try.prog 69 lb encL E (ElL (levelsD least ws F)) (levelsD least ws F).length w := by
  obtain ⟨Bf, Bl, kv, n₀, lo, rfl, hf, hK, hl⟩ := h
  refine ⟨_, rfl, fun l J Jx W hW hJ hJx hY h0 => ?_⟩
  have HR0 : Hid (LvR least Bl (levelsD least ws F) J W kv ws F [] W) := Lib.hid ⟨⟨n₀, lo, hK.below hW⟩, boxed_below hl hW, ⟨[], rfl, rfl⟩, Nat.le_refl _, h0⟩
  have cf := (boxed_below hf hW).cell
  obtain ⟨lk, rfl⟩ : ∃ lk, kv = .func (.func 82) #[] lk := by obtain ⟨_, _, _, _, e, _⟩ := hK; exact ⟨_, e⟩
  clear hK hf hl h0
  generalize levelsD least ws F = D at *
  refine callsIn_of_wp Try.func69 rfl trivial ?_ rfl
  simp only [Try.ntmps69, List.size_toArray, List.length_cons, List.length_nil, Nat.reduceAdd, Nat.reduceSub, Array.replicate_succ, Array.replicate_zero, List.push_toArray, List.append_toArray, List.nil_append, List.cons_append]
  gi_wp2
  refine wpIn_loop_ghost (fun g a wr => ∃ (kv : Value) (lk : Array Value) (wk : List Int) (Fk : Nat → Nat → Int) (xs : List (Value × Value)) (u5 u6 u7 u8 u9 u10 u11 u12 u13 u14 u15 u16 u17 u18 u19 u20 u21 u22 u23 u24 u25 : Value), g = wk.length ∧ kv = .func (.func 82) #[] lk ∧ Hid (LvR least Bl D J W kv wk Fk xs wr) ∧ a = { tmps := #[.func (.yield l) #[] #[], .pointer (some ⟨Bf, 0, none⟩), .pointer (some ⟨Bl, 0, none⟩), undef, kv, u5, u6, u7, u8, u9, u10, u11, u12, u13, u14, u15, u16, u17, u18, u19, u20, u21, u22, u23, u24, u25], defers := [] }) ws.length ?_ ?_
  · exact ⟨_, _, _, _, _, _, _, _, _, _, _, _, _, _, _, _, _, _, _, _, _, _, _, _, _, _, rfl, rfl, HR0, rfl⟩
  · rintro g a wr ⟨kv, lk', wk, Fk, xs, u5, u6, u7, u8, u9, u10, u11, u12, u13, u14, u15, u16, u17, u18, u19, u20, u21, u22, u23, u24, u25, rfl, rfl, hR, rfl⟩
    obtain ⟨n₀', lo', hK⟩ := hR.out.isK
    have HAg : Hid (∀ W1, Below wr.heap.size wr W1 → Calls Try.prog 82 lk' W1 fun e w' => ∃ g nb, e = .returned (.pointer (some ⟨g, 0, none⟩)) ∧ IsG w' g nb wk Fk ∧ W1.heap.size ≤ g ∧ W1.heap.size ≤ nb ∧ Below W1.heap.size W1 w') := Lib.hid (fun W1 hW1 => by
      obtain ⟨lb, e, hc⟩ := again_any (hK.below hW1) (hK.below hW1).lt
      cases e
      exact hc)
    have HSm : Hid (∀ g nb W1, IsG W1 g nb wk Fk → Calls Try.prog 70 #[.pointer (some ⟨g, 0, none⟩), .int .i64 least] W1 (SmallPost least wk Fk W1)) := Lib.hid (fun g nb W1 hG => small_any hG least)
    have hSc : ∀ W1, Below wr.heap.size wr W1 → W1.cell? ⟨Bl, 0, none⟩ = some (.int .i64 least) := fun W1 hW1 => (boxed_below hR.out.box hW1).cell
    have HR := hR
    have HJd : Hid (∀ s A B, W.heap.size ≤ A.heap.size → Below A.heap.size A B → J s A → J s B) := Lib.hid (fun s A B hz hb hj => hJ s A B none hj (grown_below hb none) (fun r e => by cases e))
    clear hR hK HR0 cf
    unfold SmallPost at HSm
    cases hnx : nextD least wk Fk with
    | none =>
      have HNx := Lib.hid hnx
      have HSn : Hid (∀ g nb W1, IsG W1 g nb wk Fk → Calls Try.prog 70 #[.pointer (some ⟨g, 0, none⟩), .int .i64 least] W1 fun e w' => e = .returned (.tuple #[.pointer none, .slice none 0 0, .bool false]) ∧ Below W1.heap.size W1 w') := Lib.hid (fun g nb W1 hG => (HSm.out g nb W1 hG).mono (by
        rintro e w' ⟨hb, ⟨_, rfl⟩ | ⟨d, h, _⟩⟩
        · exact ⟨rfl, hb⟩
        · rw [hnx] at h; cases h))
      clear hnx hY HSm
      gi_wp2_with fail
      refine wpIn_wide.2 ?_
      go_region_held3 (fun W1 => Below wr.heap.size wr W1) (first | assumption | exact Below.refl _ _ | exact (Below.refl _ _).drew) (first
        | (go_at_call 82; refine (HAg.out _ (by assumption)).mono ?_; rintro e w6 ⟨g6, nb6, rfl, hG6, _, _, hb⟩; have hS6 : Below wr.heap.size wr w6 := Below.trans (show Below wr.heap.size wr _ by assumption) (hb.mono (show Below wr.heap.size wr _ by assumption).size); have HG6 := Lib.hid hG6; clear hb hG6)
        | (go_at_call 70; refine (HSn.out _ _ _ HG6.out).mono ?_; rintro e w7 ⟨rfl, hb⟩; have hS7 : Below wr.heap.size wr w7 := Below.trans (show Below wr.heap.size wr _ by assumption) (hb.mono (show Below wr.heap.size wr _ by assumption).size); clear hb))
      have HS7 := Lib.hid hS7
      clear hS6 hS7
      gi_wp2
      refine bodyPost_ret (results_none rfl _ _ _) rfl ?_
      obtain ⟨dp, h1, h2⟩ := HR.out.at_
      rw [levelsD_none HNx.out, List.append_nil] at h2
      exact ⟨⟨_, rfl⟩, .inl ⟨xs, by rw [h2, h1], HJd.out xs _ _ HR.out.size HS7.out HR.out.j⟩⟩
    | some d =>
      have HNx := Lib.hid hnx
      have HSn : Hid (∀ g nb W1, IsG W1 g nb wk Fk → Calls Try.prog 70 #[.pointer (some ⟨g, 0, none⟩), .int .i64 least] W1 fun e w' => ∃ g' nb' ib, e = .returned (.tuple #[.pointer (some ⟨g', 0, none⟩), .slice (some ⟨ib, 0, none⟩) wk.length wk.length, .bool true]) ∧ Below W1.heap.size W1 w' ∧ IsG w' g' nb' d.ws d.F ∧ IntsAt .i64 w'.heap.size w' (some ⟨ib, 0, none⟩) ib 0 wk.length d.ins) := Lib.hid (fun g nb W1 hG => (HSm.out g nb W1 hG).mono (by
        rintro e w' ⟨hb, ⟨h, _⟩ | ⟨d', h, g', nb', ib, rfl, k1, k2, _⟩⟩
        · rw [hnx] at h; cases h
        · rw [hnx] at h; cases h
          exact ⟨g', nb', ib, rfl, hb, k1, k2⟩))
      have hins := next_ins hnx
      have hless := next_less hnx
      have HI := Lib.hid hins
      clear hnx HSm hins
      gi_wp2_with fail
      refine wpIn_wide.2 ?_
      go_region_held3 (fun W1 => Below wr.heap.size wr W1) (first | assumption | exact Below.refl _ _ | exact (Below.refl _ _).drew) (first
        | (go_at_call 82; refine (HAg.out _ (by assumption)).mono ?_; rintro e w6 ⟨g6, nb6, rfl, hG6, _, _, hb⟩; have hS6 : Below wr.heap.size wr w6 := Below.trans (show Below wr.heap.size wr _ by assumption) (hb.mono (show Below wr.heap.size wr _ by assumption).size); have HG6 := Lib.hid hG6; clear hb hG6)
        | (go_at_call 70; refine (HSn.out _ _ _ HG6.out).mono ?_; rintro e w7 ⟨g', nb', ib, rfl, hb, hG7, hI7⟩; have hS7 : Below wr.heap.size wr w7 := Below.trans (show Below wr.heap.size wr _ by assumption) (hb.mono (show Below wr.heap.size wr _ by assumption).size); have HG7 := Lib.hid hG7; have HI7 := Lib.hid hI7; clear hb hG7 hI7))
      have HS7 := Lib.hid hS7
      clear hS6 hS7
      gi_wp2_with fail
      refine ⟨trivial, fun h => (by cases h), (callsIn_wide.2 (kept_any HG7.out)).mono ?_⟩
      rintro e w8 ⟨kv8, lo8, rfl, hK8, hlo8, hb8⟩
      obtain ⟨lk8, rfl⟩ : ∃ lk, kv8 = .func (.func 82) #[] lk := by obtain ⟨_, _, _, _, e, _⟩ := hK8; exact ⟨_, e⟩
      have hS8 : Below wr.heap.size wr w8 := HS7.out.trans (hb8.mono HS7.out.size)
      have hel : ElL D xs (.pointer (some ⟨g', 0, none⟩), .slice (some ⟨ib, 0, none⟩) wk.length wk.length) w8 := by
        obtain ⟨dp, h1, h2⟩ := HR.out.at_
        refine ⟨d, by rw [h2, levelsD_some HNx.out, ← h1, List.getElem?_append_right (Nat.le_refl _)]; simp, g', nb', ib, by rw [HI.out], HG7.out.below hb8, ?_⟩
        rw [HI.out]
        exact (HI7.out.kept hb8 (Nat.le_refl _)).mono hb8.size
      have hlt : xs.length < D.length := by
        obtain ⟨dp, h1, h2⟩ := HR.out.at_
        rw [h2, levelsD_some HNx.out, List.length_append, h1]
        simp
      have hj8 := HJd.out xs _ _ HR.out.size hS8 HR.out.j
      obtain ⟨fn, tmps, assign, body, hy, hRd⟩ := hY xs _ w8 hj8 hel hlt
      dsimp only [encL] at hy
      have HRd := Lib.hid hRd
      have HK8 := Lib.hid hK8
      have HS8 := Lib.hid hS8
      clear hK8 hS8 hel hlt hj8 hRd hb8 hY
      gi_wp2
      refine ⟨fun h => (by cases h), RoundIn.mono HRd.out ?_⟩
      rintro e W9 ⟨hk, ⟨rfl, hj⟩ | ⟨rfl, hj⟩⟩
      · have HJ9 := Lib.hid hj
        have HR9 : Hid (LvR least Bl D J W (.func (.func 82) #[] lk8) d.ws d.F (xs ++ [(.pointer (some ⟨g', 0, none⟩), .slice (some ⟨ib, 0, none⟩) wk.length wk.length)]) W9) := by
          obtain ⟨dp, h1, h2⟩ := HR.out.at_
          exact Lib.hid ⟨⟨_, _, HK8.out.off hE hk⟩, hk.boxed (boxed_below HR.out.box HS8.out) hE.k7, ⟨dp ++ [d], by simp [h1], by rw [h2, levelsD_some HNx.out]; simp⟩, Nat.le_trans HR.out.size (Nat.le_trans HS8.out.size hk.size), hj⟩
        clear hj hk
        gi_wp2
        exact ⟨d.ws.length, hless, _, lk8, d.ws, d.F, _, _, _, _, _, _, _, _, _, _, _, _, _, _, _, _, _, _, _, _, _, _, rfl, rfl, HR9, rfl⟩
      · have HJ9 := Lib.hid hj
        have hle : xs.length + 1 ≤ D.length := by
          obtain ⟨dp, h1, h2⟩ := HR.out.at_
          rw [h2, levelsD_some HNx.out, List.length_append, h1]
          simp
        clear hj hk
        gi_wp2
        refine bodyPost_ret (results_none rfl _ _ _) rfl ?_
        exact ⟨⟨_, rfl⟩, .inr ⟨_, by simpa using hle, HJ9.out⟩⟩
end Go.Proofs.Ytbjgfkiaoffhlaa

namespace Go.Proofs.Ytbjgfkiaoffhlaa
open Go.RowKit Go.Shelf Rk

attribute [local go_sem] Oper.semAt_some

theorem mlevels_any {w : World} {g nb : Nat} {ws : List Int} {F : Nat → Nat → Int} (h : IsG w g nb ws F) (least : Int) :
    Calls Try.prog 48 #[.pointer (some ⟨g, 0, none⟩), .int .i64 least] w fun e w' => ∃ v, e = .returned v ∧ IsLv w' v least ws F ∧ Below w.heap.size w w' := by
  have b0 : Below w.heap.size w (w.alloc (.cells #[.int .i64 least] 3)) := (Below.refl _ w).alloc (Nat.le_refl _) _
  have bB : Boxed (w.alloc (.cells #[.int .i64 least] 3)) w.heap.size 3 (.int .i64 least) := Boxed.new w _ _
  have HK := Lib.hid (kept_any (h.below b0))
  have HB := Lib.hid b0
  have HBB := Lib.hid bB
  clear h b0 bB
  go_enter Try.func48, Try.ntmps48
  go_wp2_with fail
  refine HK.out.mono ?_
  rintro e w2 ⟨v, lo, rfl, hK, hlo, hb⟩
  obtain ⟨lk, rfl⟩ : ∃ lk, v = .func (.func 82) #[] lk := by obtain ⟨_, _, _, _, e, _⟩ := hK; exact ⟨_, e⟩
  have hb5 := (Below.refl w2.heap.size w2).alloc (Nat.le_refl _) (.cells #[.func (.func 82) #[] lk] 118)
  have HE : Hid (∃ v, (Ending.returned (.func (.func 69) #[] #[.pointer (some ⟨w2.heap.size, 0, none⟩), .pointer (some ⟨w.heap.size, 0, none⟩)])) = .returned v ∧ IsLv (w2.alloc (.cells #[.func (.func 82) #[] lk] 118)) v least ws F ∧ Below w.heap.size w (w2.alloc (.cells #[.func (.func 82) #[] lk] 118))) :=
    Lib.hid ⟨_, rfl, ⟨_, _, _, _, _, rfl, Boxed.new w2 _ _, hK.below hb5, boxed_below (boxed_below HBB.out hb) hb5⟩, (HB.out.trans (hb.mono HB.out.size)).trans (hb5.mono (by have := HB.out.size; have := hb.size; omega))⟩
  clear hK hb hb5 HBB HK
  go_wp2
  go_ret
  exact HE.out
def lits : List (Value × Value) → List Value
  | [] => []
  | x :: r => x.1 :: x.2 :: lits r
theorem lits_length : ∀ l : List (Value × Value), (lits l).length = l.length * 2
  | [] => rfl
  | x :: r => by simp only [lits, List.length_cons, lits_length r]; omega
theorem lits_append : ∀ l m : List (Value × Value), lits (l ++ m) = lits l ++ lits m
  | [], m => rfl
  | x :: r, m => by simp only [lits, List.cons_append, lits_append r m]
theorem lits_at : ∀ (l : List (Value × Value)) (i : Nat) (x : Value × Value), l[i]? = some x → (lits l)[i * 2]? = some x.1 ∧ (lits l)[i * 2 + 1]? = some x.2
  | [], i, x, h => by simp at h
  | y :: r, 0, x, h => by simp at h; subst h; exact ⟨rfl, rfl⟩
  | y :: r, i + 1, x, h => by
    have := lits_at r i x (by simpa using h)
    rw [show (i + 1) * 2 = i * 2 + 1 + 1 by omega]
    exact this
theorem cell_lit (w : World) (x : Value × Value) (e : TypeId) : ∀ j u, (lits [x])[j]? = some u → (w.alloc (.cells #[x.1, x.2] e)).cell? ((⟨w.heap.size, 0, none⟩ : Addr).add j) = some u := by
  intro j u h
  rw [addr_add, Nat.zero_add]
  match j, h with
  | 0, h => simp [lits] at h; subst h; exact heap_cell (heap_new _ rfl) rfl
  | 1, h => simp [lits] at h; subst h; exact heap_cell (heap_new _ rfl) rfl
  | n + 2, h => simp [lits] at h
theorem Try.infoLevel : (Try.prog.info? 59).map (fun i => (i.zero, i.size, i.bytes)) = some (some (.agg #[.pointer none, .slice none 0 0]), 2, 32) := by kernel_rfl
/-- Rows that the law's own gathering turns. -/
def lvE : TypeId → Prop := fun t => t = 59 ∨ t = 56
theorem lvE_ok : OkK lvE := by
  refine ⟨⟨?_, ?_, ?_⟩, ?_, ?_, ?_, ?_, ?_, ?_, ?_⟩ <;> (unfold lvE; decide)
/-- What is gathered, as levels. -/
structure LvJ (D : List LvD) (xs : List (Value × Value)) (W : World) : Prop where
  le : xs.length ≤ D.length
  at_ : ∀ (i : Nat) (x : Value × Value) (d : LvD), xs[i]? = some x → D[i]? = some d → LvAt W x d
theorem LvJ.off {E : TypeId → Prop} (hE : OkE E) {D : List LvD} {xs : List (Value × Value)} {A B : World} (h : LvJ D xs A) (k : KpO E A B) : LvJ D xs B := ⟨h.le, fun i x d h1 h2 => (h.at_ i x d h1 h2).off hE k⟩
theorem LvJ.snoc {D : List LvD} {xs : List (Value × Value)} {x : Value × Value} {W : World} (h : LvJ D xs W) (hx : ElL D xs x W) : LvJ D (xs ++ [x]) W := by
  obtain ⟨d, h1, h2⟩ := hx
  refine ⟨?_, fun i y e h3 h4 => ?_⟩
  · have := (List.getElem?_eq_some_iff.1 h1).1
    simp; omega
  · by_cases hi : i < xs.length
    · rw [List.getElem?_append_left hi] at h3
      exact h.at_ i y e h3 h4
    · have hl := (List.getElem?_eq_some_iff.1 h3).1
      simp at hl
      obtain rfl : i = xs.length := by omega
      rw [List.getElem?_append_right (Nat.le_refl _)] at h3
      simp at h3
      rw [h1] at h4
      cases h4
      subst h3
      exact h2
/-- What a call leaves. -/
def LvsPost (D : List LvD) (w : World) (e : Ending) (w' : World) : Prop :=
  ∃ v xs, e = .returned v ∧ Gath w' w.heap.size 59 2 v xs.length (lits xs) ∧ xs.length = D.length ∧ LvJ D xs w' ∧ Below w.heap.size w w'
set_option maxRecDepth 100000 in
set_option maxHeartbeats 1000000 in
theorem levels0_any {w : World} (b : Addr) (least n : Int) (hn : n ≤ 0) :
    Calls Try.prog 29 #[.pointer (some b), .int .i64 least, .int .i64 n] w (LvsPost [] w) := by
  refine (callsIn_wide (n := 3)).1 ?_
  refine callsIn_of_wp_marks Try.func29 rfl trivial ?_ rfl
  simp only [Try.ntmps29, List.size_toArray, List.length_cons, List.length_nil, Nat.reduceAdd, Nat.reduceSub, Array.replicate_succ, Array.replicate_zero, List.push_toArray, List.append_toArray, List.nil_append, List.cons_append]
  gi_wp2
  exact ⟨.slice (some ⟨w.heap.size + 1 + 1, 0, none⟩) 0 0, by simp [results, Try.f29, go_sem], _, [], rfl, .inl ⟨rfl, rfl, _, rfl⟩, rfl, ⟨Nat.le_refl _, fun i x d h => by simp at h⟩, ((((Below.refl _ w).alloc (Nat.le_refl _) _).alloc (by simp) _).alloc (by simp; omega) _).alloc (by simp; omega) _⟩
end Go.Proofs.Ytbjgfkiaoffhlaa

namespace Go.Proofs.Ytbjgfkiaoffhlaa
open Go.RowKit Go.Shelf Rk

attribute [local go_sem] Oper.semAt_some

theorem KpO.set {E : TypeId → Prop} {A : World} {b : Nat} {t : TypeId} {a : Option Addr} {l c : Nat} {v : Value} (hb : Boxed A b t (.slice a l c)) (ht : E t) : KpO E A (A.setCell ⟨b, 0, none⟩ v) :=
  KpO.grown (grownBy_setCell' A b v) (fun r e o ho => by
    cases e
    rw [show A.heap[b]? = _ from hb] at ho
    cases ho
    exact .inr ⟨_, _, _, rfl, ht, fun k n e => by simp at e⟩)
/-- Between two levels, while they are gathered. -/
structure LvG (w : World) (hi N : Nat) (D : List LvD) (n : Nat) (pre : List (Value × Value)) (v : Value) (W : World) : Prop where
  lt : pre.length < n
  bag : Bag hi (w.heap.size + 1 + 1 + 1) 56 59 2 [(w.heap.size, 3, .int .i64 (n : Int)), (w.heap.size + 1, 56, .slice none 0 0)] w.heap.size w pre.length (lits pre) W v
  first : pre = [] → ∃ ao, v = .slice ao 0 0
  one : ∀ x ∈ pre, x.1.oneCell' = true ∧ ∀ k n, x.1 ≠ .int k n
  lv : LvJ D pre W
/-- The row that an append turns doesn't begin with a number. -/
theorem own_off {w : World} {base : Nat} {v : Value} {pre : List (Value × Value)} (hf : pre = [] → ∃ ao, v = .slice ao 0 0) (ho : ∀ x ∈ pre, x.1.oneCell' = true ∧ ∀ k n, x.1 ≠ .int k n) {g : Nat} (hv : v.ownBlock = some g) (h : w.ownsRow base 59 2 v pre.length (lits pre)) :
    ∀ o, w.heap[g]? = some o → OffO lvE o := by
  intro o ho2
  cases pre with
  | nil =>
    obtain ⟨ao, rfl⟩ := hf rfl
    rcases h.2 with ⟨h, _⟩ | ⟨g', cap, cur, h, hb, hgb, hnc, hcm, hcs, htake⟩
    · subst_vars; simp_all [Value.ownBlock]
    · cases h
      obtain rfl : g' = g := by simpa [Value.ownBlock] using hv
      rw [hgb] at ho2; cases ho2
      refine .inr ⟨cur, _, _, rfl, .inl rfl, fun k n e => ?_⟩
      have : cur.size = 0 := by simpa using hcs
      rw [Array.getElem?_eq_none (by omega)] at e
      cases e
  | cons x r =>
    obtain ⟨_, hne⟩ := ho x (List.mem_cons_self ..)
    have hc := h.cells (g := g) hv 0 x.1 rfl
    obtain ⟨hb, cur, hgb⟩ := owns_block h hv
    rw [hgb] at ho2; cases ho2
    refine .inr ⟨cur, _, _, rfl, .inl rfl, fun k n e => ?_⟩
    have h2 : w.cell? ⟨g, 0, none⟩ = some (.int k n) := heap_cell hgb e
    rw [addr_add] at hc
    rw [hc] at h2
    exact hne _ _ (Option.some.inj h2)
/-- What an append leaves. -/
structure LvA (w : World) (hi : Nat) (D : List LvD) (n : Nat) (pre : List (Value × Value)) (v' : Value) (W W9 : World) : Prop where
  bag : Bag hi (w.heap.size + 1 + 1 + 1) 56 59 2 [(w.heap.size, 3, .int .i64 (n : Int)), (w.heap.size + 1, 56, .slice none 0 0)] w.heap.size w pre.length (lits pre) W9 v'
  ko : KeepsOthers W W9
  kp : KpO lvE W W9
  one : ∀ x ∈ pre, x.1.oneCell' = true ∧ ∀ k n, x.1 ≠ .int k n
  lv : LvJ D pre W9
theorem LvG.app {w : World} {hi N : Nat} {D : List LvD} {n : Nat} {pre : List (Value × Value)} {v : Value} {W w3 : World} {tmp : Obj} {row : Option Nat} {x : Value × Value} {g cap : Nat} (h : LvG w hi N D n pre v W) (hw : w.heap.size + 1 + 1 + 1 + 1 ≤ hi)
    (hx : ElL D pre x W) (hown : w3.ownsRow hi 59 2 (.slice (some ⟨g, 0, none⟩) (pre.length + 1) cap) (pre.length + 1) (lits pre ++ lits [x])) (hgrow : (W.alloc tmp).grownBy w3 row)
    (hrow : ∀ r, row = some r → v.ownBlock = some r ∧ (W.alloc tmp).ownsRow hi 59 2 v pre.length (lits pre)) :
    Boxed w3 (w.heap.size + 1 + 1 + 1) 56 v ∧ LvA w hi D n (pre ++ [x]) (.slice (some ⟨g, 0, none⟩) (pre.length + 1) cap) W (w3.setCell ⟨w.heap.size + 1 + 1 + 1, 0, none⟩ (.slice (some ⟨g, 0, none⟩) (pre.length + 1) cap)) := by
  obtain ⟨hb1, hC1, hk1, hm1⟩ := h.bag.appended (by omega) (by omega) (fun x hx => by simp at hx; rcases hx with rfl | rfl <;> exact ⟨by dsimp only; omega, by dsimp only; omega⟩) hown hgrow (fun r e => by
    obtain ⟨h1, h2⟩ := hrow r e
    obtain ⟨h3, cur, h4⟩ := owns_block h2 h1
    exact ⟨h3, _, h4, rfl⟩)
  obtain ⟨a, c, hv⟩ := h.bag.row.slice
  have hkp : KpO lvE W (w3.setCell ⟨w.heap.size + 1 + 1 + 1, 0, none⟩ (.slice (some ⟨g, 0, none⟩) (pre.length + 1) cap)) := by
    refine (KpO.of_below ((Below.refl _ W).alloc (Nat.le_refl _) tmp)).trans ((KpO.grown hgrow (fun r e => ?_)).trans ?_)
    · obtain ⟨h1, h2⟩ := hrow r e
      exact own_off h.first h.one h1 h2
    · subst hv
      exact KpO.set hb1 (.inr rfl)
  have hx9 : ElL D pre x (w3.setCell ⟨w.heap.size + 1 + 1 + 1, 0, none⟩ (.slice (some ⟨g, 0, none⟩) (pre.length + 1) cap)) := by
    obtain ⟨d, h1, h2⟩ := hx
    exact ⟨d, h1, h2.off lvE_ok.g hkp⟩
  refine ⟨hb1, ⟨?_, hk1, hkp, fun y hy => ?_, (h.lv.off lvE_ok.g hkp).snoc hx9⟩⟩
  · rw [List.length_append, List.length_singleton, lits_append]
    exact hC1
  · rcases List.mem_append.1 hy with hy | hy
    · exact h.one y hy
    · simp at hy
      subst hy
      obtain ⟨d, _, g', nb', ib, rfl, _⟩ := hx
      exact ⟨rfl, fun k n e => by cases e⟩
theorem elL_put {D : List LvD} {pre : List (Value × Value)} {x : Value × Value} {A : World} {l : Nat} {o o' : Obj} (h : ElL D pre x A) (ho : A.heap[l]? = some o) (hc : o.isCells = false) : ElL D pre x (A.putObj l o') := by
  obtain ⟨d, h1, h2⟩ := h
  exact ⟨d, h1, h2.off lvE_ok.g (KpO.put ho hc)⟩
theorem kpO_own {E : TypeId → Prop} {A B : World} {row : Option Nat} (hg : A.grownBy B row) (hr : ∀ r, row = some r → ∃ o : Obj, A.heap[r]? = some o ∧ o.isCells = false) : KpO E A B :=
  KpO.grown hg (fun r e o ho => by obtain ⟨o', h1, h2⟩ := hr r e; rw [ho] at h1; cases h1; exact .inl h2)
set_option maxRecDepth 100000 in
set_option maxHeartbeats 2000000 in
theorem levels1_any {w : World} {g nb : Nat} {ws : List Int} {F : Nat → Nat → Int} (h : IsG w g nb ws F) (least : Int) (n : Nat) (hn1 : 1 ≤ n) (hn2 : n ≤ 100000) :
    Calls Try.prog 29 #[.pointer (some ⟨g, 0, none⟩), .int .i64 least, .int .i64 (n : Int)] w (LvsPost ((levelsD least ws F).take n) w) := by
  obtain ⟨i0, hi, hz0, hz1, hz2⟩ := info_parts Try.infoLevel
  have HI := Lib.hid hi
  have HZ0 := Lib.hid hz0
  have HZ1 := Lib.hid hz1
  have HZ2 := Lib.hid hz2
  clear hi hz0 hz1 hz2
  have b0 : Below w.heap.size w ((((w.alloc (.cells #[.int .i64 (n : Int)] 3)).alloc (.cells #[.slice none 0 0] 56)).alloc (.cells #[] 59)).alloc (.cells #[.slice (some ⟨w.heap.size + 1 + 1, 0, none⟩) 0 0] 56)) := ((((Below.refl _ w).alloc (Nat.le_refl _) _).alloc (by simp) _).alloc (by simp; omega) _).alloc (by simp; omega) _
  have HALL := Lib.hid (mlevels_any (h.below b0) least)
  have bM : Boxed ((((w.alloc (.cells #[.int .i64 (n : Int)] 3)).alloc (.cells #[.slice none 0 0] 56)).alloc (.cells #[] 59)).alloc (.cells #[.slice (some ⟨w.heap.size + 1 + 1, 0, none⟩) 0 0] 56)) w.heap.size 3 (.int .i64 (n : Int)) := (((Boxed.new w _ _).alloc _).alloc _).alloc _
  have bR : Boxed ((((w.alloc (.cells #[.int .i64 (n : Int)] 3)).alloc (.cells #[.slice none 0 0] 56)).alloc (.cells #[] 59)).alloc (.cells #[.slice (some ⟨w.heap.size + 1 + 1, 0, none⟩) 0 0] 56)) (w.heap.size + 1) 56 (.slice none 0 0) := by
    have := Boxed.new (w.alloc (.cells #[.int .i64 (n : Int)] 3)) 56 (.slice none 0 0)
    simp only [World.size_alloc] at this
    exact (this.alloc _).alloc _
  have bO : Boxed ((((w.alloc (.cells #[.int .i64 (n : Int)] 3)).alloc (.cells #[.slice none 0 0] 56)).alloc (.cells #[] 59)).alloc (.cells #[.slice (some ⟨w.heap.size + 1 + 1, 0, none⟩) 0 0] 56)) (w.heap.size + 1 + 1 + 1) 56 (.slice (some ⟨w.heap.size + 1 + 1, 0, none⟩) 0 0) := by
    have := Boxed.new (((w.alloc (.cells #[.int .i64 (n : Int)] 3)).alloc (.cells #[.slice none 0 0] 56)).alloc (.cells #[] 59)) 56 (.slice (some ⟨w.heap.size + 1 + 1, 0, none⟩) 0 0)
    simp only [World.size_alloc] at this
    exact this
  have HBs := Lib.hid (And.intro b0 (And.intro bM (And.intro bR bO)))
  clear h b0 bM bR bO
  refine (callsIn_wide (n := 3)).1 ?_
  refine callsIn_of_wp_marks Try.func29 rfl trivial ?_ rfl
  simp only [Try.ntmps29, List.size_toArray, List.length_cons, List.length_nil, Nat.reduceAdd, Nat.reduceSub, Array.replicate_succ, Array.replicate_zero, List.push_toArray, List.append_toArray, List.nil_append, List.cons_append]
  gi_wp2_with fail
  refine ⟨trivial, (callsIn_wide.2 HALL.out).mono ?_⟩
  rintro e w1 ⟨sv, rfl, hsq, hB1⟩
  have hsz := hB1.size
  obtain ⟨b0, bM, bR, bO⟩ := HBs.out
  replace bM := boxed_below bM hB1
  replace bR := boxed_below bR hB1
  replace bO := boxed_below bO hB1
  simp only [World.size_alloc] at hsz
  have hB0 : Below w.heap.size w w1 := b0.trans (hB1.mono (by simp; omega))
  have hC0 : LvG w w1.heap.size 0 (levelsD least ws F) n [] (.slice (some ⟨w.heap.size + 1 + 1, 0, none⟩) 0 0) w1 :=
    ⟨by show 0 < n; omega, ⟨bO, .inl ⟨rfl, rfl, _, rfl⟩, fun x hx => by simp at hx; rcases hx with rfl | rfl; exact bM; exact bR, hB0, Nat.le_refl _⟩, fun _ => ⟨_, rfl⟩, fun x hx => by simp at hx, ⟨Nat.zero_le _, fun i x d h => by simp at h⟩⟩
  obtain ⟨lb, rfl, hst⟩ := hsq.seq lvE_ok 2
  generalize levelsD least ws F = D at *
  have HC0 := Lib.hid hC0
  have HB0 := Lib.hid hB0
  clear hC0 bM bR bO b0 HBs HALL hsq hB1 hB0
  gi_wp2_with fail
  refine wpIn_rangeFunc_seqW rfl (by omega) (gf := 69) (lb := lb) rfl trivial (enters_of Try.func69 (by kernel_rfl) rfl)
    hst (Below.refl _ _) (fun _ => rfl)
    (fun pre W => ∃ v, LvG w w1.heap.size 0 D n pre v W)
    (fun c pre W => c = .ret ∧ pre.length = n ∧ ∃ v, Boxed W (w.heap.size + 1) 56 v ∧ Gath W w1.heap.size 59 2 v pre.length (lits pre) ∧ LvJ D pre W ∧ Below w.heap.size w W)
    (fun s A B row hs hg hr => by
      obtain ⟨v, hC⟩ := hs
      exact ⟨v, hC.lt, hC.bag.turned (by omega) hg hr, hC.first, hC.one, hC.lv.off lvE_ok.g (kpO_own hg (fun r e => (hr r e).2))⟩)
    (fun c s A B row hs hg hr => by
      obtain ⟨hc, e1, v, e3, e4, e6, e5⟩ := hs
      exact ⟨hc, e1, v, boxed_kept e3 hg (fun r e => (hr r e).2), gath_kept e4 hg (fun r e => (hr r e).2), e6.off lvE_ok.g (kpO_own hg (fun r e => (hr r e).2)), e5.grown hg e5.size (fun r e => by have := (hr r e).1; omega)⟩)
    ⟨_, HC0.out⟩
    (fun pre x a' A => ElL D pre x A ∧ a' = { tmps := #[.pointer (some ⟨g, 0, none⟩), .int .i64 least, .int .i64 (n : Int), undef, undef, .pointer (some ⟨w.heap.size, 0, none⟩), .pointer (some ⟨w.heap.size + 1, 0, none⟩), .pointer (some ⟨w.heap.size + 1 + 1 + 1, 0, none⟩), x.1, x.2, .slice (some ⟨w.heap.size + 1 + 1, 0, none⟩) 0 0, .int .i64 (n : Int), .bool false, undef, .pointer (some ⟨g, 0, none⟩), .int .i64 least, .func (.func 69) #[] lb, x.1, x.2, undef, undef, undef, undef, undef, undef, undef, undef, undef, undef, undef, undef], defers := [] })
    (fun pre x a' A l o o' hs hl ho hc => ⟨elL_put hs.1 ho hc, hs.2⟩) ?assign ?body ?done ?stop
  case assign =>
    rintro l pre x W K ⟨v, hC⟩ hel hK
    unfold encL
    gi_wp2
    exact hK _ _ (KeepsFrom.refl _ _) (KpO.refl _ _) ⟨v, hC⟩ ⟨hel, rfl⟩
  case body =>
    rintro l pre x a' W ⟨v, hC⟩ ⟨hel, rfl⟩ hlt
    obtain ⟨a6, cap6, rfl⟩ := hC.bag.row.slice
    have c1 := hC.bag.box.cell
    have f1 := hC.bag.box.frozen
    have c2 := (hC.bag.oth _ (List.mem_cons_self ..)).cell
    have b3 := hC.bag.oth _ (List.mem_cons_of_mem _ (List.mem_cons_self ..))
    simp only at c2 b3
    have HC := Lib.hid hC
    have HEl := Lib.hid hel
    have hszW := hC.bag.size
    have hpl := hC.lt
    obtain ⟨d, hd, g', nb', ib, rfl, _⟩ := hel
    have HB3 := Lib.hid b3
    clear hC hst hd b3
    by_cases hme : pre.length + 1 = n
    · have hmb : ((pre.length : Int) + 1 == (n : Int)) = true := by simp; omega
      have HM := Lib.hid hme
      clear hme
      gi_wp2_with (gi_at_builtin; refine wpListIn_append_gathO _ rfl _ _ 56 rfl w1.heap.size 59 i0 (.agg #[.pointer none, .slice none 0 0]) 2 32 Try.underlying56 HI.out HZ0.out HZ1.out HZ2.out rfl (by decide) _ _ _ rfl (gath_kept HC.out.bag.row (World.grownBy_alloc W _ none) (fun r e => by cases e)) ⟨W.heap.size, 0, none⟩ 1 1 (lits [(.pointer (some ⟨g', 0, none⟩), .slice (some ⟨ib, 0, none⟩) d.ins.length d.ins.length)]) rfl rfl (cell_lit _ (.pointer (some ⟨g', 0, none⟩), .slice (some ⟨ib, 0, none⟩) d.ins.length d.ins.length) _) (fun u hu => by simp [lits] at hu; rcases hu with rfl | rfl <;> rfl) (by decide) (by unfold maxLen; omega) (by omega) (by simp; omega) ?_; intro v' w3 row hown hgrow hrow; obtain ⟨g5, cap5, rfl⟩ := ownsRow_succ hown; obtain ⟨hb1, hA⟩ := HC.out.app hsz HEl.out hown hgrow hrow; have HA := Lib.hid hA; have c5 := hb1.cell; have f5 := hb1.frozen; have c6 := HA.out.bag.box.cell; have c7 := (HA.out.bag.oth _ (List.mem_cons_self ..)).cell; have c8 := (HA.out.bag.oth _ (List.mem_cons_of_mem _ (List.mem_cons_self ..))).cell; have f8 := (HA.out.bag.oth _ (List.mem_cons_of_mem _ (List.mem_cons_self ..))).frozen; simp only at c7 c8 f8; clear hown hgrow hrow hb1 hA)
      have b8 := HA.out.bag.oth _ (List.mem_cons_of_mem _ (List.mem_cons_self ..))
      simp only at b8
      have hkp2 := HA.out.kp.trans (KpO.set (v := .slice (some ⟨g5, 0, none⟩) (pre.length + 1) cap5) b8 (.inr rfl))
      refine ⟨(HA.out.ko.trans (KeepsOthers.setCell _ _ _)).from _, hkp2, rfl, by rw [List.length_append]; exact HM.out, .slice (some ⟨g5, 0, none⟩) (pre.length + 1) cap5, b8.set _, ?_, HA.out.lv.off lvE_ok.g (KpO.set b8 (.inr rfl)), HA.out.bag.below.setCell (p := ⟨w.heap.size + 1, 0, none⟩) (by show w.heap.size ≤ w.heap.size + 1; omega) _⟩
      have := gath_set HA.out.bag.row (B := w.heap.size + 1) (by omega) (.slice (some ⟨g5, 0, none⟩) (pre.length + 1) cap5)
      exact this
    · have hmb : ((pre.length : Int) + 1 == (n : Int)) = false := by simp; omega
      have hpl2 : pre.length + 1 < n := by omega
      clear hme
      gi_wp2_with (gi_at_builtin; refine wpListIn_append_gathO _ rfl _ _ 56 rfl w1.heap.size 59 i0 (.agg #[.pointer none, .slice none 0 0]) 2 32 Try.underlying56 HI.out HZ0.out HZ1.out HZ2.out rfl (by decide) _ _ _ rfl (gath_kept HC.out.bag.row (World.grownBy_alloc W _ none) (fun r e => by cases e)) ⟨W.heap.size, 0, none⟩ 1 1 (lits [(.pointer (some ⟨g', 0, none⟩), .slice (some ⟨ib, 0, none⟩) d.ins.length d.ins.length)]) rfl rfl (cell_lit _ (.pointer (some ⟨g', 0, none⟩), .slice (some ⟨ib, 0, none⟩) d.ins.length d.ins.length) _) (fun u hu => by simp [lits] at hu; rcases hu with rfl | rfl <;> rfl) (by decide) (by unfold maxLen; omega) (by omega) (by simp; omega) ?_; intro v' w3 row hown hgrow hrow; obtain ⟨g5, cap5, rfl⟩ := ownsRow_succ hown; obtain ⟨hb1, hA⟩ := HC.out.app hsz HEl.out hown hgrow hrow; have HA := Lib.hid hA; have c5 := hb1.cell; have f5 := hb1.frozen; have c6 := HA.out.bag.box.cell; have c7 := (HA.out.bag.oth _ (List.mem_cons_self ..)).cell; have c8 := (HA.out.bag.oth _ (List.mem_cons_of_mem _ (List.mem_cons_self ..))).cell; have f8 := (HA.out.bag.oth _ (List.mem_cons_of_mem _ (List.mem_cons_self ..))).frozen; simp only at c7 c8 f8; clear hown hgrow hrow hb1 hA)
      refine ⟨HA.out.ko.from _, HA.out.kp, _, by rw [List.length_append]; exact hpl2, HA.out.bag, fun e => by simp at e, HA.out.one, HA.out.lv⟩
  case done =>
    rintro E ys W hD hlen ⟨v, hC⟩ hK
    obtain ⟨a6, cap6, rfl⟩ := hC.bag.row.slice
    have c1 := hC.bag.box.cell
    have b3 := hC.bag.oth _ (List.mem_cons_of_mem _ (List.mem_cons_self ..))
    simp only at b3
    have c3 := b3.cell
    have f3 := b3.frozen
    have HC := Lib.hid hC
    have HB3 := Lib.hid b3
    have HK := Lib.hid hK
    have HLen := Lib.hid hlen
    clear hC b3 hK hst hlen
    gi_wp2
    have hlen := HLen.out
    have hK := HK.out
    have hK2 : (W.setCell ⟨w.heap.size + 1, 0, none⟩ (.slice a6 ys.length cap6)).heap[E]? = some (.deferred (some [])) := (Turned.set _ _ _ _).old hK (by omega)
    have q1 := (boxed_kept (HB3.out.set (.slice a6 ys.length cap6)) (grownBy_putObj' (W.setCell ⟨w.heap.size + 1, 0, none⟩ (.slice a6 ys.length cap6)) E (.deferred none)) (fun r e => by cases e; exact ⟨_, hK2, rfl⟩)).cell
    have hkp : KpO lvE W ((W.setCell ⟨w.heap.size + 1, 0, none⟩ (.slice a6 ys.length cap6)).putObj E (.deferred none)) := (KpO.set HB3.out (.inr rfl)).trans (KpO.put hK2 rfl)
    refine ⟨by simp, .inl ⟨_, _, rfl, run_takeDeferred hK2, ?_⟩⟩
    refine ⟨.slice a6 ys.length cap6, by simp [results, Try.f29, go_sem, q1], _, ys, rfl, ?_, ?_, ?_, ?_⟩
    · exact gath_putObj (gath_base (gath_set HC.out.bag.row (B := w.heap.size + 1) (by omega) _) (by omega)) _ hK2 rfl
    · have := HC.out.lt
      rw [List.length_take]; omega
    · have := HC.out.lv.off lvE_ok.g hkp
      have hlt := HC.out.lt
      rw [List.take_of_length_le (by omega)]
      exact this
    · exact (HC.out.bag.below.setCell (p := ⟨w.heap.size + 1, 0, none⟩) (by show w.heap.size ≤ w.heap.size + 1; omega) _).trans (belowK_b (w := w) (Nat.le_refl _) _ E _ (.deferred none) (by omega) hK2 rfl rfl)
  case stop =>
    rintro E c pre W hD hpre ⟨rfl, hil, v, k1, k3, k6, k5⟩ hK
    gi_wp2
    refine ⟨by simp, .inl ⟨_, _, rfl, run_takeDeferred hK, ?_⟩⟩
    have q1 := (boxed_kept k1 (grownBy_putObj' W E (.deferred none)) (fun r e => by cases e; exact ⟨_, hK, rfl⟩)).cell
    refine ⟨v, by simp [results, Try.f29, go_sem, q1], v, pre, rfl, gath_putObj (gath_base k3 (by omega)) _ hK rfl, ?_, ?_, ?_⟩
    · rw [List.length_take]; omega
    · have h1 := k6.off lvE_ok.g (KpO.put (o' := .deferred none) hK rfl)
      exact ⟨by rw [List.length_take]; omega, fun i x d h2 h3 => h1.at_ i x d h2 (by
        have hi := (List.getElem?_eq_some_iff.1 h2).1
        rw [List.getElem?_take] at h3
        split at h3
        · exact h3
        · cases h3)⟩
    · exact k5.trans (belowK_b (w := w) (Nat.le_refl _) _ E _ (.deferred none) (by omega) hK rfl rfl)
/-- Whatever number is asked for. -/
theorem levels_any {w : World} {g nb : Nat} {ws : List Int} {F : Nat → Nat → Int} (h : IsG w g nb ws F) (least n : Int) (hn : n ≤ 100000) :
    Calls Try.prog 29 #[.pointer (some ⟨g, 0, none⟩), .int .i64 least, .int .i64 n] w (LvsPost ((levelsD least ws F).take n.toNat) w) := by
  by_cases e : n ≤ 0
  · rw [show n.toNat = 0 by omega, List.take_zero]
    exact levels0_any _ least n e
  · have := levels1_any h least n.toNat (by omega) (by omega)
    rwa [show ((n.toNat : Nat) : Int) = n by omega] at this
end Go.Proofs.Ytbjgfkiaoffhlaa
