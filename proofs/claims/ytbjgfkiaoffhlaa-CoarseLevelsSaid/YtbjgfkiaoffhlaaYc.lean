/- Contract: of those that go with none yet, the first one that a thing has most with. -/
import Derived.Test.YtbjgfkiaoffhlaaFn
import Derived.Test.YtbjgfkiaoffhlaaYp
set_option linter.unusedVariables false
set_option linter.unusedSectionVars false
namespace Go.Proofs.Ytbjgfkiaoffhlaa
open Go.RowKit Go.Shelf Rk

attribute [local go_sem] Oper.semAt_some

set_option maxRecDepth 100000 in
set_option maxHeartbeats 2000000 in
theorem heaviest_any {w : World} {g nb : Nat} {ws : List Int} {F : Nat → Nat → Int} (h : IsG w g nb ws F) {ma : Option Addr} {mb cap : Nat} {ms : List Int} (hm : IntsAt .i64 w.heap.size w ma mb 0 ws.length ms) {i : Nat} (hi : i < ws.length) :
    Calls Try.prog 39 #[.pointer (some ⟨g, 0, none⟩), .slice ma ws.length cap, .int .i64 (i : Int)] w fun e w' => e = .returned (.int .i64 (hvF ms ws.length F i)) ∧ Below w.heap.size w w' := by
  have b0 : Below w.heap.size w (((w.alloc (.cells #[.slice ma ws.length cap] 24)).alloc (.cells #[.int .i64 (i : Int)] 3)).alloc (.cells #[.int .i64 0] 2)) := (((Below.refl _ w).alloc (Nat.le_refl _) _).alloc (by simp) _).alloc (by simp; omega) _
  have HN := Lib.hid (near_q (i : Int) h b0)
  rw [nearD_nat F hi] at HN
  have hma : ma = some ⟨mb, 0, none⟩ := hm.addr.resolve_left (by omega)
  subst hma
  have HM := Lib.hid hm
  have HMEM : Hid (∀ x ∈ rowOf ws.length (F i), ∃ b : Nat, x.1 = (b : Int) ∧ b < ws.length) := Lib.hid (fun x hx => by
    obtain ⟨b, h1, _, rfl⟩ := mem_rowOf.1 hx
    exact ⟨b, rfl, h1⟩)
  have HF : Hid (hvF ms ws.length F i = (hvR ms i (rowOf ws.length (F i))).1) := Lib.hid rfl
  have hsm := h.small
  clear h hm
  generalize hvF ms ws.length F i = res at *
  generalize rowOf ws.length (F i) = D at *
  generalize ws.length = n at *
  refine (callsIn_wide (n := 3)).1 ?_
  refine callsIn_of_wp_marks Try.func39 rfl trivial ?_ rfl
  simp only [Try.ntmps39, List.size_toArray, List.length_cons, List.length_nil, Nat.reduceAdd, Nat.reduceSub, Array.replicate_succ, Array.replicate_zero, List.push_toArray, List.append_toArray, List.nil_append, List.cons_append]
  gi_wp2_with (refine ⟨trivial, ?_⟩; gi_at_call 59; refine (callsIn_wide.2 HN.out).mono ?_; rintro e w1 ⟨sv, rfl, hsq, hB1⟩)
  have hsz := hB1.size
  have bS : Boxed w1 w.heap.size 24 (.slice (some ⟨mb, 0, none⟩) n cap) := (hB1.block w.heap.size (by simp; omega)).trans (((Boxed.new w 24 _).alloc _).alloc _)
  have bW : Boxed w1 (w.heap.size + 1) 3 (.int .i64 (i : Int)) := (hB1.block (w.heap.size + 1) (by simp)).trans (Boxed.alloc (by have := Boxed.new (w.alloc (.cells #[.slice (some ⟨mb, 0, none⟩) n cap] 24)) 3 (.int .i64 (i : Int)); rwa [World.size_alloc] at this) _)
  have bM : Boxed w1 (w.heap.size + 1 + 1) 2 (.int .i64 0) := (hB1.block (w.heap.size + 1 + 1) (by simp)).trans (by have := Boxed.new ((w.alloc (.cells #[.slice (some ⟨mb, 0, none⟩) n cap] 24)).alloc (.cells #[.int .i64 (i : Int)] 3)) 2 (.int .i64 0); simp only [World.size_alloc] at this; exact this)
  simp only [World.size_alloc] at hsz hB1
  have hB0 : Below w.heap.size w w1 := b0.trans (hB1.mono (by omega))
  obtain ⟨gf, lb, rfl, hen, hst⟩ := hsq
  refine wpIn_rangeFunc_ownG rfl (by omega) (gf := gf) (lb := lb) rfl trivial hen
    (hst 2).stopsF belowK_t (belowK_b (by omega)) (Below.refl _ _) (fun _ => rfl)
    (fun pre W => (Boxed W w.heap.size 24 (.slice (some ⟨mb, 0, none⟩) n cap) ∧ Boxed W (w.heap.size + 1) 3 (.int .i64 (hvR ms i (pre.map D.get)).1) ∧ Boxed W (w.heap.size + 1 + 1) 2 (.int .i64 (hvR ms i (pre.map D.get)).2)) ∧ Below w.heap.size w W)
    (fun _ _ _ => False)
    (OwnFrom.and (OwnFrom.and (Own.from (boxed_own w.heap.size 24 (fun _ => .slice (some ⟨mb, 0, none⟩) n cap)) _) (OwnFrom.and (Own.from (boxed_own (w.heap.size + 1) 3 (fun pre : List (Fin D.length) => .int .i64 (hvR ms i (pre.map D.get)).1)) _) (Own.from (boxed_own (w.heap.size + 1 + 1) 2 (fun pre : List (Fin D.length) => .int .i64 (hvR ms i (pre.map D.get)).2)) _))) (ownFrom_below (Nat.le_refl _) (by omega)))
    (fun _ _ _ _ _ hs _ _ => hs)
    ⟨⟨bS, bW, bM⟩, hB0⟩
    ?_ ?assign ?body ?done ?stop
  case assign =>
    intro l x W K hK
    unfold encP
    gi_wp2
    exact hK
  case body =>
    rintro l pre x W ⟨⟨hS, hW, hM⟩, hB⟩ hlt
    obtain ⟨b, hb1, hb2⟩ := HMEM.out _ (List.getElem_mem x.isLt)
    have hcm := (HM.out.kept hB (Nat.le_refl _)).cell b hb2
    rw [Nat.zero_add] at hcm
    have cS := hS.cell
    have cW := hW.cell
    have cM := hM.cell
    have fW := hW.frozen
    have fM := hM.frozen
    have hI : ∀ r, hvS ms (hvR ms i (pre.map D.get)) D[x.val] = r → hvR ms i ((pre ++ [x]).map D.get) = r := fun r hr => by
      rw [List.map_append, List.map_cons, List.map_nil, hvR_snoc, List.get_eq_getElem, hr]
    have HI := Lib.hid hI
    have HS := Lib.hid (show ∀ s : Int × Int, hvS ms s D[x.val] = if ms.getD (D[x.val]).1.toNat 0 = (D[x.val]).1 ∧ s.2 < (D[x.val]).2 then D[x.val] else s from fun s => rfl)
    clear hI hst
    generalize D[x.val] = p at *
    obtain ⟨p1, p2⟩ := p
    simp only at hb1
    subst hb1
    generalize hvR ms i (pre.map D.get) = s at *
    obtain ⟨s1, s2⟩ := s
    simp only at cW cM hW hM HI HS
    rw [Int.toNat_natCast] at HS
    obtain ⟨y, hy⟩ : ∃ y, ms.getD b 0 = y := ⟨_, rfl⟩
    rw [hy] at hcm HS
    have HW := Lib.hid hW
    have HMo := Lib.hid hM
    have HSb := Lib.hid hS
    have HB := Lib.hid hB
    clear hy hW hM hS hB
    by_cases h1 : y = (b : Int)
    · subst h1
      by_cases h2 : s2 < p2
      · have hd : decide (s2 < p2) = true := by simpa using h2
        have hr := HI.out _ ((HS.out _).trans (if_pos ⟨rfl, h2⟩))
        have HR := Lib.hid hr
        clear hr HI HS
        gi_wp2
        refine ⟨((KeepsOthers.setCell _ _ _).trans (KeepsOthers.setCell _ _ _)).from _, ((Below.refl w.heap.size W).setCell (p := ⟨w.heap.size + 1, 0, none⟩) (by show w.heap.size ≤ w.heap.size + 1; omega) _).setCell (p := ⟨w.heap.size + 1 + 1, 0, none⟩) (by show w.heap.size ≤ w.heap.size + 1 + 1; omega) _, ⟨(HSb.out.other (by omega) _).other (by omega) _, ?_, ?_⟩, (HB.out.setCell (p := ⟨w.heap.size + 1, 0, none⟩) (by show w.heap.size ≤ w.heap.size + 1; omega) _).setCell (p := ⟨w.heap.size + 1 + 1, 0, none⟩) (by show w.heap.size ≤ w.heap.size + 1 + 1; omega) _⟩
        · rw [HR.out]; exact (HW.out.set _).other (by omega) _
        · rw [HR.out]; exact (HMo.out.other (by omega) _).set _
      · have hd : decide (s2 < p2) = false := by simpa using h2
        have hr := HI.out _ ((HS.out _).trans (if_neg (fun e => h2 e.2)))
        have HR := Lib.hid hr
        clear hr HI HS
        gi_wp2
        exact ⟨KeepsFrom.refl _ _, Below.refl _ _, ⟨HSb.out, by rw [HR.out]; exact HW.out, by rw [HR.out]; exact HMo.out⟩, HB.out⟩
    · have hd : ((y : Int) == (b : Int)) = false := by simpa using h1
      have hr := HI.out _ ((HS.out _).trans (if_neg (fun e => h1 e.1)))
      have HR := Lib.hid hr
      clear hr HI HS
      gi_wp2
      exact ⟨KeepsFrom.refl _ _, Below.refl _ _, ⟨HSb.out, by rw [HR.out]; exact HW.out, by rw [HR.out]; exact HMo.out⟩, HB.out⟩
  case done =>
    rintro E ys W hD rfl ⟨⟨hS, hW, hM⟩, hB⟩ hK
    rw [get_finRange] at hW
    have c1 := hW.cell
    gi_wp2
    refine ⟨by simp, .inl ⟨_, _, rfl, run_takeDeferred hK, ?_⟩⟩
    refine ⟨_, results_tmp rfl _ _ _, ?_, hB.trans (belowK_b (w := w) (Nat.le_refl _) _ E _ _ (by omega) hK rfl rfl)⟩
    exact ret1 HF.out.symm
  case stop =>
    rintro E c pre W hD hpre h hK
    exact h.elim
end Go.Proofs.Ytbjgfkiaoffhlaa
