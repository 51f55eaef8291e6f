/- Contract: a node turned. -/
import Derived.Test.YtjpgkocffceeoaaGc
import Derived.IntWalk
set_option linter.unusedVariables false
set_option linter.unusedSectionVars false
namespace Go.Proofs.Ytjpgkocffceeoaa
open Go.RowKit Rk

/-- A tree with this row, its nodes in blocks of S; blocks of R alone have turned. -/
def TreePost (S R : Nat → Prop) (L : List (Int × Int)) (w : World) (e : Ending) (w' : World) : Prop :=
  ∃ p t, e = .returned (.pointer p) ∧ IsT S w' p t ∧ t.list = L ∧ Turned R w w'

set_option maxRecDepth 100000 in
set_option maxHeartbeats 4000000 in
theorem turned0_any {S : Nat → Prop} {w : World} {bn : Nat} {k v s : Int} {pl pr : Option Addr} {ll lr r : T Int Int} {kl vl : Int} (hr : Raw w bn k v s pl pr) (hl : IsT S w pl (.node ll kl vl lr)) (hrr : IsT S w pr r) (hS : ∀ c, S c → c ≠ bn) (hs : ll.count + lr.count + r.count ≤ 800000) :
    Calls Try.prog 96 #[.pointer (some ⟨bn, 0, none⟩), .int .i64 0] w (TreePost (fun c => S c ∨ c = bn ∨ w.heap.size ≤ c) (fun c => c = bn) ((T.node ll kl vl lr).list ++ (k, v) :: r.list) w) := by
  obtain ⟨bl, pa, pb, rfl, hSl, hrl, hla, hlb⟩ := hl
  obtain ⟨c0, c1, c2, c3, c4⟩ := hr.cells
  obtain ⟨d0, d1, d2, d3, d4⟩ := hrl.cells
  obtain ⟨sl, hsl⟩ : ∃ sl : Int, ((ll.count + 1 + lr.count : Nat) : Int) = sl := ⟨_, rfl⟩
  rw [hsl] at d2
  have hbn := hr.lt
  have hbl := hrl.lt
  have hw1 : IntKind.i64.wrap 1 = 1 := by decide
  have hw0 : IntKind.i64.wrap 0 = 0 := by decide
  obtain ⟨w1, hw⟩ : ∃ w1, w.alloc (.cells #[.int .i64 kl, .int .i64 vl, .int .i64 sl, .pointer pa, .pointer pb] 135) = w1 := ⟨_, rfl⟩
  have hz1 : w1.heap.size = w.heap.size + 1 := by rw [← hw]; simp
  have own1 : Raw w1 w.heap.size kl vl sl pa pb := by rw [← hw]; exact heap_new _ rfl
  have t01 : Turned (fun _ => False) w w1 := by rw [← hw]; exact Turned.alloc _ _ _
  have tt : ∀ {p : Option Addr} {t : T Int Int}, IsT S w p t → IsT (fun c => S c ∧ c < w.heap.size) w1 p t := fun h => h.below_size.turned t01 (fun _ _ _ h => h)
  have ia := tt hla
  have ib := tt hlb
  have io := tt hrr
  have rn := hr.turned t01 id
  obtain ⟨e0, e1, e2, e3, e4⟩ := own1.cells
  obtain ⟨mi, hmi⟩ : ∃ mi : Nat, lr.count = mi := ⟨_, rfl⟩
  obtain ⟨mo, hmo⟩ : ∃ mo : Nat, ll.count = mo := ⟨_, rfl⟩
  have HWi := Lib.hid (fun n => weight_any (ib.drawn n) (by omega))
  have HWo := Lib.hid (fun n => weight_any (ia.drawn n) (by omega))
  rw [hmi] at HWi
  rw [hmo] at HWo
  have hmi1 : mi ≤ 800000 := by omega
  have hmo1 : mo ≤ 800000 := by omega
  have hwr1 : IntKind.i64.wrap (2 * ((mo : Int) + 1)) = 2 * ((mo : Int) + 1) := IntWalk.i64_in _ (by omega)
  have HWR := Lib.hid hwr1
  have HR := Lib.hid rn
  have HO := Lib.hid own1
  have HIA := Lib.hid ia
  have HIB := Lib.hid ib
  have HIO := Lib.hid io
  have HT1 := Lib.hid t01
  have HZ1 := Lib.hid hz1
  have HS' := Lib.hid hS
  have HMI := Lib.hid hmi
  have HMO := Lib.hid hmo
  have HSs := Lib.hid hs
  have HWw := Lib.hid hw
  have HBl := Lib.hid hbn
  clear hr hla hlb hrr hrl tt ia ib io rn own1 t01 hz1 hS hsl hSl hbl hmi hmo hs e0 e1 e2 e3 e4 hw hwr1 hbn
  by_cases hq : 2 * ((mo : Int) + 1) ≤ (mi : Int) + 1
  · have hqb : decide (2 * ((mo : Int) + 1) ≤ (mi : Int) + 1) = true := by simpa using hq
    have HQ := Lib.hid hq
    clear hq
    go_enter Try.func96, Try.ntmps96
    go_wp2
    rw [HWw.out]
    obtain ⟨e0, e1, e2, e3, e4⟩ := HO.out.cells
    have hwr := HWR.out
    clear c0 c1 c2 c3 c4 d0 d1 d2 d3 d4
    go_quiet ((first | (go_at_call 95; exact Calls.quiet_of_same ((HWi.out _).mono (fun e w' h => ⟨h.1, h.2.symm⟩))) | (go_at_call 95; exact Calls.quiet_of_same ((HWo.out _).mono (fun e w' h => ⟨h.1, h.2.symm⟩)))))
    have t12 : Turned (fun _ => False) w1 (w1.drewN nq) := Turned.drewN _ _ _
    revert t12
    generalize w1.drewN nq = w2
    intro t12
    have HQ' := HQ.out
    have hcase : ∃ (tl tr : T Int Int) (k3 v3 : Int), lr = .node tl k3 v3 tr := by
      cases hh : lr with
      | nil => have := HMI.out; rw [hh] at this; simp [T.count] at this; omega
      | node tl k3 v3 tr => exact ⟨tl, tr, k3, v3, rfl⟩
    obtain ⟨tl, tr, k3, v3, rfl⟩ := hcase
    obtain ⟨b3, pc, pd, rfl, hS3, hr3, hc3, hd3⟩ := (HIB.out.turned t12 (fun _ _ _ h => h))
    obtain ⟨s3, hs3⟩ : ∃ s3 : Int, ((tl.count + 1 + tr.count : Nat) : Int) = s3 := ⟨_, rfl⟩
    rw [hs3] at hr3
    obtain ⟨g0, g1, g2, g3, g4⟩ := hr3.cells
    have hz2 := t12.size
    have hz1 := HZ1.out
    have ow2 := HO.out.turned t12 id
    obtain ⟨e0, e1, e2, e3, e4⟩ := ow2.cells
    have hb2 : w.heap.size < w2.heap.size := ow2.lt
    obtain ⟨w3, hw3⟩ : ∃ w3, w2.alloc (.cells #[.int .i64 k3, .int .i64 v3, .int .i64 s3, .pointer pc, .pointer pd] 135) = w3 := ⟨_, rfl⟩
    have own2 : Raw w3 w2.heap.size k3 v3 s3 pc pd := by rw [← hw3]; exact heap_new _ rfl
    have t23 : Turned (fun _ => False) w2 w3 := by rw [← hw3]; exact Turned.alloc _ _ _
    have own1 := ow2.turned t23 id
    have tt : ∀ {p : Option Addr} {t : T Int Int}, IsT (fun c => S c ∧ c < w.heap.size) w2 p t → IsT (fun c => S c ∧ c < w.heap.size) w3 p t := fun h => h.turned t23 (fun _ _ _ h => h)
    have t13 := t12.trans t23
    have io3 := HIO.out.turned t13 (fun _ _ _ h => h)
    have ia3 := HIA.out.turned t13 (fun _ _ _ h => h)
    have rn3 := HR.out.turned t13 id
    have hcnt : tl.count + 1 + tr.count + ll.count + r.count ≤ 800000 := by have := HSs.out; simp only [T.count] at this; omega
    have HA := Lib.hid (over0_any (w := w3) (bu := w2.heap.size) (bn := w.heap.size) own2 own1 (by omega) (tt hc3) (tt hd3) ia3 (fun c hc => ⟨by omega, by omega⟩) (by omega))
    have HW3 := Lib.hid hw3
    have HT03 := Lib.hid (HT1.out.trans t13)
    have HIO3 := Lib.hid io3
    have HR3 := Lib.hid rn3
    have HZ3 := Lib.hid t23.size
    have HCN := Lib.hid hcnt
    have HB2 := Lib.hid hb2
    clear t12 HQ' hS3 hr3 hc3 hd3 hs3 hz2 hz1 ow2 hb2 own2 t23 own1 tt t13 io3 ia3 rn3 hcnt hw3
    go_wp2_with fail
    rw [HW3.out]
    refine HA.out.mono ?_
    rintro e w4 ⟨rfl, t4, u4, low4, side4⟩
    have hb := HB2.out
    have hbn := HBl.out
    have hz3 := HZ3.out
    have cn := HCN.out
    have rn4 := HR3.out.turned t4 (fun e => by rcases e with e | e <;> omega)
    have io4 := HIO3.out.turned t4 (fun c _ hc e => by rcases e with e | e <;> omega)
    have HBB := Lib.hid (over1_any (S := fun c => (S c ∧ c < w.heap.size) ∨ c = w.heap.size) (w := w4) (bu := w2.heap.size) (bn := bn) u4 rn4 (by omega) (low4.mono (fun _ _ h => h)) (side4.mono (fun _ _ h => .inl h)) (io4.mono (fun _ _ h => .inl h)) (fun c hc => by rcases hc with hc | hc; (exact ⟨by omega, HS'.out c hc.1⟩); (exact ⟨by omega, by omega⟩)) (by simp only [T.count]; omega))
    have HT4 := Lib.hid (HT03.out.step t4 (R' := fun i => i = w2.heap.size ∨ i = w.heap.size) (fun i hi e => by rcases e with e | e <;> omega))
    clear t4 u4 low4 side4 rn4 io4 hb hbn hz3 cn
    go_wp2_with fail
    refine HBB.out.mono ?_
    rintro e w5 ⟨rfl, t5, u5, low5, side5⟩
    have hb := HB2.out
    have END : TreePost (fun c => S c ∨ c = bn ∨ w.heap.size ≤ c) (fun c => c = bn) ((T.node ll kl vl (.node tl k3 v3 tr)).list ++ (k, v) :: r.list) w (.returned (.pointer (some ⟨w2.heap.size, 0, none⟩))) w5 := by
      refine ⟨_, .node (.node ll kl vl tl) k3 v3 (.node tr k v r), rfl, IsT.node (.inr (.inr (Nat.le_of_lt hb))) u5 (side5.mono (fun c _ hc => by rcases hc with hc | hc; exact .inl hc.1; (exact .inr (.inr (by omega))))) (low5.mono (fun c _ hc => by rcases hc with (hc | hc) | hc; exact .inl hc.1; (exact .inr (.inr (by omega))); exact .inr (.inl hc))), by simp [T.list, List.append_assoc], ?_⟩
      exact (HT4.out.weak (fun _ _ h => h.elim)).step t5 (fun i hi e => by rcases e with e | e; omega; exact e)
    have HEND := Lib.hid END
    clear END t5 u5 low5 side5
    go_wp2
    go_ret
    exact HEND.out
  · have hqb : decide (2 * ((mo : Int) + 1) ≤ (mi : Int) + 1) = false := by simpa using hq
    have HQ := Lib.hid hq
    clear hq
    go_enter Try.func96, Try.ntmps96
    go_wp2
    rw [HWw.out]
    obtain ⟨e0, e1, e2, e3, e4⟩ := HO.out.cells
    have hwr := HWR.out
    clear c0 c1 c2 c3 c4 d0 d1 d2 d3 d4
    go_quiet ((first | (go_at_call 95; exact Calls.quiet_of_same ((HWi.out _).mono (fun e w' h => ⟨h.1, h.2.symm⟩))) | (go_at_call 95; exact Calls.quiet_of_same ((HWo.out _).mono (fun e w' h => ⟨h.1, h.2.symm⟩)))))
    have t12 : Turned (fun _ => False) w1 (w1.drewN nq) := Turned.drewN _ _ _
    revert t12
    generalize w1.drewN nq = w2
    intro t12
    have hz2 := t12.size
    have hbn := HBl.out
    have ow2 := HO.out.turned t12 id
    have rn2 := HR.out.turned t12 id
    have tt : ∀ {p : Option Addr} {t : T Int Int}, IsT (fun c => S c ∧ c < w.heap.size) w1 p t → IsT (fun c => S c ∧ c < w.heap.size) w2 p t := fun h => h.turned t12 (fun _ _ _ h => h)
    have HBB := Lib.hid (over1_any (w := w2) (bu := w.heap.size) (bn := bn) ow2 rn2 (by omega) (tt HIA.out) (tt HIB.out) (tt HIO.out) (fun c hc => ⟨by omega, HS'.out c hc.1⟩) (by have := HSs.out; omega))
    have HT2 := Lib.hid (HT1.out.trans t12)
    clear t12 hz2 hbn ow2 rn2 tt e0 e1 e2 e3 e4
    go_wp2_with fail
    refine HBB.out.mono ?_
    rintro e w5 ⟨rfl, t5, u5, low5, side5⟩
    have END : TreePost (fun c => S c ∨ c = bn ∨ w.heap.size ≤ c) (fun c => c = bn) ((T.node ll kl vl lr).list ++ (k, v) :: r.list) w (.returned (.pointer (some ⟨w.heap.size, 0, none⟩))) w5 := by
      refine ⟨_, .node ll kl vl (.node lr k v r), rfl, IsT.node (.inr (.inr (Nat.le_refl _))) u5 (side5.mono (fun c _ hc => .inl hc.1)) (low5.mono (fun c _ hc => by rcases hc with hc | hc; exact .inl hc.1; exact .inr (.inl hc))), by simp [T.list, List.append_assoc], ?_⟩
      exact (HT2.out.weak (fun _ _ h => h.elim)).step t5 (fun i hi e => by rcases e with e | e; omega; exact e)
    have HEND := Lib.hid END
    clear END t5 u5 low5 side5
    go_wp2
    go_ret
    exact HEND.out

set_option maxRecDepth 100000 in
set_option maxHeartbeats 4000000 in
theorem turned1_any {S : Nat → Prop} {w : World} {bn : Nat} {k v s : Int} {pl pr : Option Addr} {ll lr r : T Int Int} {kl vl : Int} (hr : Raw w bn k v s pl pr) (hl : IsT S w pr (.node ll kl vl lr)) (hrr : IsT S w pl r) (hS : ∀ c, S c → c ≠ bn) (hs : ll.count + lr.count + r.count ≤ 800000) :
    Calls Try.prog 96 #[.pointer (some ⟨bn, 0, none⟩), .int .i64 1] w (TreePost (fun c => S c ∨ c = bn ∨ w.heap.size ≤ c) (fun c => c = bn) (r.list ++ (k, v) :: (T.node ll kl vl lr).list) w) := by
  obtain ⟨bl, pa, pb, rfl, hSl, hrl, hla, hlb⟩ := hl
  obtain ⟨c0, c1, c2, c3, c4⟩ := hr.cells
  obtain ⟨d0, d1, d2, d3, d4⟩ := hrl.cells
  obtain ⟨sl, hsl⟩ : ∃ sl : Int, ((ll.count + 1 + lr.count : Nat) : Int) = sl := ⟨_, rfl⟩
  rw [hsl] at d2
  have hbn := hr.lt
  have hbl := hrl.lt
  have hw1 : IntKind.i64.wrap 1 = 1 := by decide
  have hw0 : IntKind.i64.wrap 0 = 0 := by decide
  obtain ⟨w1, hw⟩ : ∃ w1, w.alloc (.cells #[.int .i64 kl, .int .i64 vl, .int .i64 sl, .pointer pa, .pointer pb] 135) = w1 := ⟨_, rfl⟩
  have hz1 : w1.heap.size = w.heap.size + 1 := by rw [← hw]; simp
  have own1 : Raw w1 w.heap.size kl vl sl pa pb := by rw [← hw]; exact heap_new _ rfl
  have t01 : Turned (fun _ => False) w w1 := by rw [← hw]; exact Turned.alloc _ _ _
  have tt : ∀ {p : Option Addr} {t : T Int Int}, IsT S w p t → IsT (fun c => S c ∧ c < w.heap.size) w1 p t := fun h => h.below_size.turned t01 (fun _ _ _ h => h)
  have ia := tt hla
  have ib := tt hlb
  have io := tt hrr
  have rn := hr.turned t01 id
  obtain ⟨e0, e1, e2, e3, e4⟩ := own1.cells
  obtain ⟨mi, hmi⟩ : ∃ mi : Nat, ll.count = mi := ⟨_, rfl⟩
  obtain ⟨mo, hmo⟩ : ∃ mo : Nat, lr.count = mo := ⟨_, rfl⟩
  have HWi := Lib.hid (fun n => weight_any (ia.drawn n) (by omega))
  have HWo := Lib.hid (fun n => weight_any (ib.drawn n) (by omega))
  rw [hmi] at HWi
  rw [hmo] at HWo
  have hmi1 : mi ≤ 800000 := by omega
  have hmo1 : mo ≤ 800000 := by omega
  have hwr1 : IntKind.i64.wrap (2 * ((mo : Int) + 1)) = 2 * ((mo : Int) + 1) := IntWalk.i64_in _ (by omega)
  have HWR := Lib.hid hwr1
  have HR := Lib.hid rn
  have HO := Lib.hid own1
  have HIA := Lib.hid ia
  have HIB := Lib.hid ib
  have HIO := Lib.hid io
  have HT1 := Lib.hid t01
  have HZ1 := Lib.hid hz1
  have HS' := Lib.hid hS
  have HMI := Lib.hid hmi
  have HMO := Lib.hid hmo
  have HSs := Lib.hid hs
  have HWw := Lib.hid hw
  have HBl := Lib.hid hbn
  clear hr hla hlb hrr hrl tt ia ib io rn own1 t01 hz1 hS hsl hSl hbl hmi hmo hs e0 e1 e2 e3 e4 hw hwr1 hbn
  by_cases hq : 2 * ((mo : Int) + 1) ≤ (mi : Int) + 1
  · have hqb : decide (2 * ((mo : Int) + 1) ≤ (mi : Int) + 1) = true := by simpa using hq
    have HQ := Lib.hid hq
    clear hq
    go_enter Try.func96, Try.ntmps96
    go_wp2
    rw [HWw.out]
    obtain ⟨e0, e1, e2, e3, e4⟩ := HO.out.cells
    have hwr := HWR.out
    clear c0 c1 c2 c3 c4 d0 d1 d2 d3 d4
    go_quiet ((first | (go_at_call 95; exact Calls.quiet_of_same ((HWi.out _).mono (fun e w' h => ⟨h.1, h.2.symm⟩))) | (go_at_call 95; exact Calls.quiet_of_same ((HWo.out _).mono (fun e w' h => ⟨h.1, h.2.symm⟩)))))
    have t12 : Turned (fun _ => False) w1 (w1.drewN nq) := Turned.drewN _ _ _
    revert t12
    generalize w1.drewN nq = w2
    intro t12
    have HQ' := HQ.out
    have hcase : ∃ (tl tr : T Int Int) (k3 v3 : Int), ll = .node tl k3 v3 tr := by
      cases hh : ll with
      | nil => have := HMI.out; rw [hh] at this; simp [T.count] at this; omega
      | node tl k3 v3 tr => exact ⟨tl, tr, k3, v3, rfl⟩
    obtain ⟨tl, tr, k3, v3, rfl⟩ := hcase
    obtain ⟨b3, pc, pd, rfl, hS3, hr3, hc3, hd3⟩ := (HIA.out.turned t12 (fun _ _ _ h => h))
    obtain ⟨s3, hs3⟩ : ∃ s3 : Int, ((tl.count + 1 + tr.count : Nat) : Int) = s3 := ⟨_, rfl⟩
    rw [hs3] at hr3
    obtain ⟨g0, g1, g2, g3, g4⟩ := hr3.cells
    have hz2 := t12.size
    have hz1 := HZ1.out
    have ow2 := HO.out.turned t12 id
    obtain ⟨e0, e1, e2, e3, e4⟩ := ow2.cells
    have hb2 : w.heap.size < w2.heap.size := ow2.lt
    obtain ⟨w3, hw3⟩ : ∃ w3, w2.alloc (.cells #[.int .i64 k3, .int .i64 v3, .int .i64 s3, .pointer pc, .pointer pd] 135) = w3 := ⟨_, rfl⟩
    have own2 : Raw w3 w2.heap.size k3 v3 s3 pc pd := by rw [← hw3]; exact heap_new _ rfl
    have t23 : Turned (fun _ => False) w2 w3 := by rw [← hw3]; exact Turned.alloc _ _ _
    have own1 := ow2.turned t23 id
    have tt : ∀ {p : Option Addr} {t : T Int Int}, IsT (fun c => S c ∧ c < w.heap.size) w2 p t → IsT (fun c => S c ∧ c < w.heap.size) w3 p t := fun h => h.turned t23 (fun _ _ _ h => h)
    have t13 := t12.trans t23
    have io3 := HIO.out.turned t13 (fun _ _ _ h => h)
    have ib3 := HIB.out.turned t13 (fun _ _ _ h => h)
    have rn3 := HR.out.turned t13 id
    have hcnt : tl.count + 1 + tr.count + lr.count + r.count ≤ 800000 := by have := HSs.out; simp only [T.count] at this; omega
    have HA := Lib.hid (over1_any (w := w3) (bu := w2.heap.size) (bn := w.heap.size) own2 own1 (by omega) (tt hc3) (tt hd3) ib3 (fun c hc => ⟨by omega, by omega⟩) (by omega))
    have HW3 := Lib.hid hw3
    have HT03 := Lib.hid (HT1.out.trans t13)
    have HIO3 := Lib.hid io3
    have HR3 := Lib.hid rn3
    have HZ3 := Lib.hid t23.size
    have HCN := Lib.hid hcnt
    have HB2 := Lib.hid hb2
    clear t12 HQ' hS3 hr3 hc3 hd3 hs3 hz2 hz1 ow2 hb2 own2 t23 own1 tt t13 io3 ib3 rn3 hcnt hw3
    go_wp2_with fail
    rw [HW3.out]
    refine HA.out.mono ?_
    rintro e w4 ⟨rfl, t4, u4, low4, side4⟩
    have hb := HB2.out
    have hbn := HBl.out
    have hz3 := HZ3.out
    have cn := HCN.out
    have rn4 := HR3.out.turned t4 (fun e => by rcases e with e | e <;> omega)
    have io4 := HIO3.out.turned t4 (fun c _ hc e => by rcases e with e | e <;> omega)
    have HBB := Lib.hid (over0_any (S := fun c => (S c ∧ c < w.heap.size) ∨ c = w.heap.size) (w := w4) (bu := w2.heap.size) (bn := bn) u4 rn4 (by omega) (side4.mono (fun _ _ h => .inl h)) (low4.mono (fun _ _ h => h)) (io4.mono (fun _ _ h => .inl h)) (fun c hc => by rcases hc with hc | hc; (exact ⟨by omega, HS'.out c hc.1⟩); (exact ⟨by omega, by omega⟩)) (by simp only [T.count]; omega))
    have HT4 := Lib.hid (HT03.out.step t4 (R' := fun i => i = w2.heap.size ∨ i = w.heap.size) (fun i hi e => by rcases e with e | e <;> omega))
    clear t4 u4 low4 side4 rn4 io4 hb hbn hz3 cn
    go_wp2_with fail
    refine HBB.out.mono ?_
    rintro e w5 ⟨rfl, t5, u5, low5, side5⟩
    have hb := HB2.out
    have END : TreePost (fun c => S c ∨ c = bn ∨ w.heap.size ≤ c) (fun c => c = bn) (r.list ++ (k, v) :: (T.node (.node tl k3 v3 tr) kl vl lr).list) w (.returned (.pointer (some ⟨w2.heap.size, 0, none⟩))) w5 := by
      refine ⟨_, .node (.node r k v tl) k3 v3 (.node tr kl vl lr), rfl, IsT.node (.inr (.inr (Nat.le_of_lt hb))) u5 (low5.mono (fun c _ hc => by rcases hc with (hc | hc) | hc; exact .inl hc.1; (exact .inr (.inr (by omega))); exact .inr (.inl hc))) (side5.mono (fun c _ hc => by rcases hc with hc | hc; exact .inl hc.1; (exact .inr (.inr (by omega))))), by simp [T.list, List.append_assoc], ?_⟩
      exact (HT4.out.weak (fun _ _ h => h.elim)).step t5 (fun i hi e => by rcases e with e | e; omega; exact e)
    have HEND := Lib.hid END
    clear END t5 u5 low5 side5
    go_wp2
    go_ret
    exact HEND.out
  · have hqb : decide (2 * ((mo : Int) + 1) ≤ (mi : Int) + 1) = false := by simpa using hq
    have HQ := Lib.hid hq
    clear hq
    go_enter Try.func96, Try.ntmps96
    go_wp2
    rw [HWw.out]
    obtain ⟨e0, e1, e2, e3, e4⟩ := HO.out.cells
    have hwr := HWR.out
    clear c0 c1 c2 c3 c4 d0 d1 d2 d3 d4
    go_quiet ((first | (go_at_call 95; exact Calls.quiet_of_same ((HWi.out _).mono (fun e w' h => ⟨h.1, h.2.symm⟩))) | (go_at_call 95; exact Calls.quiet_of_same ((HWo.out _).mono (fun e w' h => ⟨h.1, h.2.symm⟩)))))
    have t12 : Turned (fun _ => False) w1 (w1.drewN nq) := Turned.drewN _ _ _
    revert t12
    generalize w1.drewN nq = w2
    intro t12
    have hz2 := t12.size
    have hbn := HBl.out
    have ow2 := HO.out.turned t12 id
    have rn2 := HR.out.turned t12 id
    have tt : ∀ {p : Option Addr} {t : T Int Int}, IsT (fun c => S c ∧ c < w.heap.size) w1 p t → IsT (fun c => S c ∧ c < w.heap.size) w2 p t := fun h => h.turned t12 (fun _ _ _ h => h)
    have HBB := Lib.hid (over0_any (w := w2) (bu := w.heap.size) (bn := bn) ow2 rn2 (by omega) (tt HIA.out) (tt HIB.out) (tt HIO.out) (fun c hc => ⟨by omega, HS'.out c hc.1⟩) (by have := HSs.out; omega))
    have HT2 := Lib.hid (HT1.out.trans t12)
    clear t12 hz2 hbn ow2 rn2 tt e0 e1 e2 e3 e4
    go_wp2_with fail
    refine HBB.out.mono ?_
    rintro e w5 ⟨rfl, t5, u5, low5, side5⟩
    have END : TreePost (fun c => S c ∨ c = bn ∨ w.heap.size ≤ c) (fun c => c = bn) (r.list ++ (k, v) :: (T.node ll kl vl lr).list) w (.returned (.pointer (some ⟨w.heap.size, 0, none⟩))) w5 := by
      refine ⟨_, .node (.node r k v ll) kl vl lr, rfl, IsT.node (.inr (.inr (Nat.le_refl _))) u5 (low5.mono (fun c _ hc => by rcases hc with hc | hc; exact .inl hc.1; exact .inr (.inl hc))) (side5.mono (fun c _ hc => .inl hc.1)), by simp [T.list, List.append_assoc], ?_⟩
      exact (HT2.out.weak (fun _ _ h => h.elim)).step t5 (fun i hi e => by rcases e with e | e; omega; exact e)
    have HEND := Lib.hid END
    clear END t5 u5 low5 side5
    go_wp2
    go_ret
    exact HEND.out
end Go.Proofs.Ytjpgkocffceeoaa
