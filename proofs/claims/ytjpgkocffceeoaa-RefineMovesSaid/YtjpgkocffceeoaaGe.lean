/- Contract: a node made even. -/
import Derived.Test.YtjpgkocffceeoaaGd
import Derived.LoopN
set_option linter.unusedVariables false
set_option linter.unusedSectionVars false
namespace Go.Proofs.Ytjpgkocffceeoaa
open Go.RowKit Rk

theorem TreePost.from {S S' R : Nat → Prop} {L : List (Int × Int)} {w w0 : World} {e : Ending} {w' : World} (h : TreePost S R L w0 e w') (ht : Turned (fun _ => False) w w0) (hS : ∀ c, S c → S' c) : TreePost S' R L w e w' := by
  obtain ⟨p, t, h1, h2, h3, h4⟩ := h
  exact ⟨p, t, h1, h2.mono (fun c _ hc => hS c hc), h3, (ht.weak (fun _ _ h => h.elim)).trans h4⟩
theorem count_node {t : T Int Int} (h : 1 ≤ t.count) : ∃ l k v r, t = .node l k v r := by
  cases t with
  | nil => simp [T.count] at h
  | node l k v r => exact ⟨l, k, v, r, rfl⟩

set_option maxRecDepth 100000 in
set_option maxHeartbeats 4000000 in
theorem even_any {S : Nat → Prop} {w : World} {bn : Nat} {k v s : Int} {pl pr : Option Addr} {l r : T Int Int} (hr : Raw w bn k v s pl pr) (hl : IsT S w pl l) (hrr : IsT S w pr r) (hS : ∀ c, S c → c ≠ bn) (hs : l.count + r.count ≤ 700000) :
    Calls Try.prog 90 #[.pointer (some ⟨bn, 0, none⟩)] w (TreePost (fun c => S c ∨ c = bn ∨ w.heap.size ≤ c) (fun c => c = bn) (l.list ++ (k, v) :: r.list) w) := by
  obtain ⟨c0, c1, c2, c3, c4⟩ := hr.cells
  have hw1 : IntKind.i64.wrap 1 = 1 := by decide
  have hw0 : IntKind.i64.wrap 0 = 0 := by decide
  obtain ⟨ml, hml⟩ : ∃ ml : Nat, l.count = ml := ⟨_, rfl⟩
  obtain ⟨mr, hmr⟩ : ∃ mr : Nat, r.count = mr := ⟨_, rfl⟩
  have HWl := Lib.hid (fun n => weight_any (hl.drawn n) (by omega))
  have HWr := Lib.hid (fun n => weight_any (hrr.drawn n) (by omega))
  rw [hml] at HWl
  rw [hmr] at HWr
  have hb1 : ml ≤ 700000 := by omega
  have hb2 : mr ≤ 700000 := by omega
  have hwr1 : IntKind.i64.wrap (3 * ((ml : Int) + 1)) = 3 * ((ml : Int) + 1) := IntWalk.i64_in _ (by omega)
  have hwr2 : IntKind.i64.wrap (3 * ((mr : Int) + 1)) = 3 * ((mr : Int) + 1) := IntWalk.i64_in _ (by omega)
  have HR := Lib.hid hr
  have HL := Lib.hid hl
  have HRR := Lib.hid hrr
  have HS := Lib.hid hS
  have HML := Lib.hid hml
  have HMR := Lib.hid hmr
  have HSS := Lib.hid hs
  clear hr hl hrr hS hml hmr hs
  by_cases h0 : 3 * ((mr : Int) + 1) < (ml : Int) + 1
  · have hd : decide (3 * ((mr : Int) + 1) < (ml : Int) + 1) = true := by simpa using h0
    have hn0 : 1 ≤ ml := by omega
    have H0 := Lib.hid h0
    clear h0
    go_enter Try.func90, Try.ntmps90
    go_wp2
    refine wp_loop_rounds 3 ?_
    rw [rounds_succ]
    go_wp2
    go_quiet ((first | (go_at_call 95; exact Calls.quiet_of_same ((HWl.out _).mono (fun e w' h => ⟨h.1, h.2.symm⟩))) | (go_at_call 95; exact Calls.quiet_of_same ((HWr.out _).mono (fun e w' h => ⟨h.1, h.2.symm⟩)))))
    have t1 : Turned (fun _ => False) w (w.drewN nq) := Turned.drewN _ _ _
    have hz : (w.drewN nq).heap.size = w.heap.size := rfl
    revert t1 hz
    generalize w.drewN nq = w1
    intro t1 hz
    obtain ⟨ll, kl, vl, lr, rfl⟩ := count_node (t := l) (by rw [HML.out]; exact hn0)
    have hcn : ll.count + lr.count + r.count ≤ 800000 := by have := HSS.out; simp only [T.count] at this; omega
    have HT := Lib.hid ((turned0_any (HR.out.turned t1 id) (HL.out.turned t1 (fun _ _ _ h => h)) (HRR.out.turned t1 (fun _ _ _ h => h)) HS.out hcn).mono (fun e w' h => TreePost.from h t1 (fun c hc => by rw [hz] at hc; exact hc)))
    clear t1 hz hcn
    go_wp2_with fail
    refine HT.out.mono ?_
    rintro e w5 hP
    obtain ⟨p, t, rfl, h2, h3, h4⟩ := hP
    have HEND := Lib.hid (show TreePost _ _ _ w (.returned (.pointer p)) w5 from ⟨p, t, rfl, h2, h3, h4⟩)
    clear h2 h3 h4
    go_wp2
    go_ret
    exact HEND.out
  · have hd : decide (3 * ((mr : Int) + 1) < (ml : Int) + 1) = false := by simpa using h0
    have H0 := Lib.hid h0
    clear h0
    go_enter Try.func90, Try.ntmps90
    go_wp2
    refine wp_loop_rounds 3 ?_
    rw [rounds_succ]
    go_wp2
    go_quiet ((first | (go_at_call 95; exact Calls.quiet_of_same ((HWl.out _).mono (fun e w' h => ⟨h.1, h.2.symm⟩))) | (go_at_call 95; exact Calls.quiet_of_same ((HWr.out _).mono (fun e w' h => ⟨h.1, h.2.symm⟩)))))
    have t1 : Turned (fun _ => False) w (w.drewN nq) := Turned.drewN _ _ _
    have hz : (w.drewN nq).heap.size = w.heap.size := rfl
    revert t1 hz
    generalize w.drewN nq = w1
    intro t1 hz
    have r1 := HR.out.turned t1 id
    have l1 := HL.out.turned t1 (fun _ _ _ h => h)
    have rr1 := HRR.out.turned t1 (fun _ _ _ h => h)
    clear HWl HWr c0 c1 c2 c3 c4
    obtain ⟨c0, c1, c2, c3, c4⟩ := r1.cells
    have HWl := Lib.hid (fun n => weight_any (l1.drawn n) (by rw [HML.out]; omega))
    have HWr := Lib.hid (fun n => weight_any (rr1.drawn n) (by rw [HMR.out]; omega))
    rw [HML.out] at HWl
    rw [HMR.out] at HWr
    have R1 := Lib.hid r1
    have L1 := Lib.hid l1
    have RR1 := Lib.hid rr1
    have T1 := Lib.hid t1
    have HZ := Lib.hid hz
    clear r1 l1 rr1 t1 hz
    go_wp2
    rw [rounds_succ]
    go_wp2
    by_cases h1 : 3 * ((ml : Int) + 1) < (mr : Int) + 1
    · have hd1 : decide (3 * ((ml : Int) + 1) < (mr : Int) + 1) = true := by simpa using h1
      have hn0 : 1 ≤ mr := by omega
      have H1 := Lib.hid h1
      clear h1
      go_quiet ((first | (go_at_call 95; exact Calls.quiet_of_same ((HWl.out _).mono (fun e w' h => ⟨h.1, h.2.symm⟩))) | (go_at_call 95; exact Calls.quiet_of_same ((HWr.out _).mono (fun e w' h => ⟨h.1, h.2.symm⟩)))))
      have t2 : Turned (fun _ => False) w1 (w1.drewN nq) := Turned.drewN _ _ _
      have hz : (w1.drewN nq).heap.size = w1.heap.size := rfl
      revert t2 hz
      generalize w1.drewN nq = w2
      intro t2 hz
      obtain ⟨rl, kr, vr, rr, rfl⟩ := count_node (t := r) (by rw [HMR.out]; exact hn0)
      have hcn : rl.count + rr.count + l.count ≤ 800000 := by have := HSS.out; simp only [T.count] at this; omega
      have hzz : w2.heap.size = w.heap.size := hz.trans HZ.out
      have HT := Lib.hid ((turned1_any (R1.out.turned t2 id) (RR1.out.turned t2 (fun _ _ _ h => h)) (L1.out.turned t2 (fun _ _ _ h => h)) HS.out hcn).mono (fun e w' h => TreePost.from (S' := fun c => S c ∨ c = bn ∨ w.heap.size ≤ c) h (T1.out.trans t2) (fun c hc => by rw [hzz] at hc; exact hc)))
      clear t2 hz hcn hzz
      go_wp2_with fail
      refine HT.out.mono ?_
      rintro e w5 hP
      obtain ⟨p, t, rfl, h2, h3, h4⟩ := hP
      have HEND := Lib.hid (show TreePost _ _ _ w (.returned (.pointer p)) w5 from ⟨p, t, rfl, h2, h3, h4⟩)
      clear h2 h3 h4
      go_wp2
      go_ret
      exact HEND.out
    · have hd1 : decide (3 * ((ml : Int) + 1) < (mr : Int) + 1) = false := by simpa using h1
      have H1 := Lib.hid h1
      clear h1
      go_quiet ((first | (go_at_call 95; exact Calls.quiet_of_same ((HWl.out _).mono (fun e w' h => ⟨h.1, h.2.symm⟩))) | (go_at_call 95; exact Calls.quiet_of_same ((HWr.out _).mono (fun e w' h => ⟨h.1, h.2.symm⟩)))))
      have t2 : Turned (fun _ => False) w1 (w1.drewN nq) := Turned.drewN _ _ _
      have hz : (w1.drewN nq).heap.size = w1.heap.size := rfl
      revert t2 hz
      generalize w1.drewN nq = w2
      intro t2 hz
      have l2 := L1.out.turned t2 (fun _ _ _ h => h)
      have rr2 := RR1.out.turned t2 (fun _ _ _ h => h)
      have HC := Lib.hid (counted_any (R1.out.turned t2 id) l2 rr2 (by have := HSS.out; omega))
      have L2 := Lib.hid l2
      have RR2 := Lib.hid rr2
      have T2 := Lib.hid (T1.out.trans t2)
      clear l2 rr2 t2 hz c0 c1 c2 c3 c4
      go_wp2
      rw [rounds_succ]
      go_wp2_with fail
      refine HC.out.mono ?_
      rintro e w5 ⟨rfl, t5, r5⟩
      have END : TreePost (fun c => S c ∨ c = bn ∨ w.heap.size ≤ c) (fun c => c = bn) (l.list ++ (k, v) :: r.list) w (.returned (.pointer (some ⟨bn, 0, none⟩))) w5 :=
        ⟨_, .node l k v r, rfl, IsT.node (.inr (.inl rfl)) r5 ((L2.out.turned t5 (fun c _ hc e => HS.out c hc e)).mono (fun _ _ h => .inl h)) ((RR2.out.turned t5 (fun c _ hc e => HS.out c hc e)).mono (fun _ _ h => .inl h)), rfl, (T2.out.weak (fun _ _ h => h.elim)).trans t5⟩
      have HEND := Lib.hid END
      clear END t5 r5
      go_wp2
      go_ret
      exact HEND.out
end Go.Proofs.Ytjpgkocffceeoaa
