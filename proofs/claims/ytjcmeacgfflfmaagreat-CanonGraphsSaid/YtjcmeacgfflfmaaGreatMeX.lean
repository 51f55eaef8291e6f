/- Contracts: the reference's checks of a name, of a process, a link, a variable, a step, of a model (the parts of Ir, MdY, MeB, MeD and MeH that a seat without model.Link holds). -/
import Derived.Test.YtjcmeacgfflfmaaGreatIc
import Derived.Test.YtjcmeacgfflfmaaGreatHp
import Derived.Test.YtjcmeacgfflfmaaGreatMdU
import Derived.Test.YtjcmeacgfflfmaaGreatMdD
import Derived.Test.YtjcmeacgfflfmaaGreatMdJ
import Derived.Test.YtjcmeacgfflfmaaGreatMkp
import Derived.Test.YtjcmeacgfflfmaaGreatMdW
set_option linter.unusedVariables false
set_option linter.unusedSectionVars false
set_option linter.unusedSimpArgs false
namespace Go.Proofs.YtjcmeacgfflfmaaGreat.Ic
open Go.RowKit Go.Shelf

theorem nret {k : IntKind} {a b : Int} (h : a = b) : Ending.returned (.int k a) = .returned (.int k b) := by rw [h]
theorem nretb {b c : Bool} (h : b = c) : Ending.returned (.bool b) = .returned (.bool c) := by rw [h]
theorem eqS_true {a b : ByteArray} (h : a = b) : (a.toList == b.toList) = true := by rw [h]; exact beq_self_eq_true _
theorem toList_inj {a b : ByteArray} (h : a.toList = b.toList) : a = b := by
  rw [ByteArray.toList_eq, ByteArray.toList_eq] at h; exact WideShapes.bytes_inj h

theorem eqS_false {a b : ByteArray} (h : a ≠ b) : (a.toList == b.toList) = false := by
  rw [beq_eq_false_iff_ne]; exact fun e => h (toList_inj e)
/-- The bytes that the reference takes for letters, and for others. -/
theorem oldB (c : Int) : okB c = (decide (97 ≤ c ∧ c ≤ 122) || (decide (48 ≤ c ∧ c ≤ 57) || decide (c = 95))) := by unfold okB letB digB; rw [Bool.or_assoc]
set_option maxHeartbeats 2000000 in
theorem xcheck_any (s : ByteArray) (hs : s.size ≤ maxLen) (w : World) : Calls Tryz.prog 89 #[.string s] w fun e w' => e = .returned (.int .i64 (chkE s)) ∧ w = w' := by
  unfold maxLen at hs
  by_cases h1 : s.size < 1
  · have HE := Lib.hid (chk_no (s := s) (by unfold nameB; rw [decide_eq_false (fun h => by omega)]; rfl))
    have h0 : s.size = 0 := by omega
    generalize chkE s = c at *
    go_enter Tryz.func89, Tryz.ntmps89
    go_wp2
    go_ret
    exact ⟨by rw [HE.out]; rfl, rfl⟩
  · have h1' : 1 ≤ s.size := by omega
    have g0 : decide ((s.size : Int) < 1) = false := by simp; omega
    by_cases h2 : 64 < s.size
    · have HE := Lib.hid (chk_no (s := s) (by unfold nameB; rw [decide_eq_false (fun h => by omega)]; rfl))
      have g1 : decide (64 < (s.size : Int)) = true := by simp; omega
      go_enter Tryz.func89, Tryz.ntmps89
      go_wp2
      go_ret
      exact ⟨by rw [HE.out]; rfl, rfl⟩
    · have g1 : decide (64 < (s.size : Int)) = false := by simp; omega
      have HGood : Hid (letB (byS s 0) = true → okTo s s.size = true → chkE s = 0) := Lib.hid (fun h3 h => chk_yes (chk_good h1' (by omega) h3 h))
      have HBad : Hid (∀ k, k < s.size → okB (byS s k) = false → chkE s = 40) := Lib.hid (fun k hk h => chk_no (chk_bad hk h))
      have HBad0 : Hid (letB (byS s 0) = false → chkE s = 40) := Lib.hid (fun h => chk_no (chk_letter h))
      generalize chkE s = ce at *
      go_enter Tryz.func89, Tryz.ntmps89
      go_wp2
      go_loop [3] (fun i => ∃ k : Nat, i = .int .i64 k ∧ k ≤ s.size ∧ Hid (okTo s k = true) ∧ Hid (k = 0 ∨ letB (byS s 0) = true)) (fun i => s.size - (intOf i).toNat)
      case atStart => exact ⟨0, rfl, Nat.zero_le _, Lib.hid rfl, Lib.hid (.inl rfl)⟩
      case round =>
        obtain ⟨k, rfl, hk, HK, HL0⟩ := hrel
        by_cases hlt : k < s.size
        · have hki : (k : Int) < (s.size : Int) := by omega
          have hb := byS_bd s k
          have hg := byS_get s hlt
          have HBk := Lib.hid (HBad.out k hlt)
          have HS := Lib.hid (okTo_succ s k)
          have HO : Hid (okB (byS s k) = (letB (byS s k) || digB (byS s k) || decide (byS s k = 95))) := Lib.hid rfl
          have HZ : Hid (k = 0 → byS s 0 = byS s k) := Lib.hid (fun h => by rw [h])
          obtain ⟨l0, hl0⟩ : ∃ x, byS s 0 = x := ⟨_, rfl⟩
          rw [hl0] at HL0 HZ HBad0
          have HLL := Lib.hid hl0
          clear hl0
          generalize byS s k = c at *
          obtain ⟨d1, e1⟩ : ∃ d, decide (97 ≤ c) = d := ⟨_, rfl⟩
          obtain ⟨d2, e2⟩ : ∃ d, decide (c ≤ 122) = d := ⟨_, rfl⟩
          obtain ⟨d3, e3⟩ : ∃ d, decide (48 ≤ c) = d := ⟨_, rfl⟩
          obtain ⟨d4, e4⟩ : ∃ d, decide (c ≤ 57) = d := ⟨_, rfl⟩
          obtain ⟨d5, e5⟩ : ∃ d, (c == 95) = d := ⟨_, rfl⟩
          have hlet : letB c = (d1 && d2) := by rw [← e1, ← e2]; unfold letB; simp
          have hdig : digB c = (d3 && d4) := by rw [← e3, ← e4]; unfold digB; simp
          have hun : decide (c = 95) = d5 := by rw [← e5]; rfl
          have HOK : Hid (okB c = ((d1 && d2) || (d3 && d4) || d5)) := Lib.hid (by rw [HO.out, hlet, hdig, hun])
          have HLT := Lib.hid hlet
          clear hlet hdig hun HO
          by_cases h0 : k = 0
          · have HZ2 := Lib.hid (HZ.out h0)
            have g3 : ((k : Int) == 0) = true := by simp; omega
            have HK0 := Lib.hid h0
            clear h0
            cases d1 <;> cases d2 <;> cases d3 <;> cases d4 <;> cases d5
            all_goals first
              | (have HS2 : Hid (okTo s (k + 1) = true) := Lib.hid (by rw [HS.out, HK.out, HOK.out]; rfl)
                 have HL2 : Hid (k + 1 = 0 ∨ letB (byS s 0) = true) := Lib.hid (.inr (by rw [HLL.out, HZ2.out, HLT.out]; rfl))
                 go_wp2
                 go_round
                 case rel => exact ⟨k + 1, by go_num, by omega, HS2, HL2⟩
                 case measure => simp [intOf]; omega)
              | (have HE : Hid (ce = 40) := Lib.hid (HBad0.out (by rw [HZ2.out, HLT.out]; rfl))
                 go_wp2
                 go_ret
                 exact ⟨nret HE.out.symm, rfl⟩)
          · have g3 : ((k : Int) == 0) = false := by simp; omega
            have HL2 : Hid (k + 1 = 0 ∨ letB (byS s 0) = true) := Lib.hid (.inr (by rw [HLL.out]; exact HL0.out.resolve_left h0))
            clear h0
            cases d1 <;> cases d2 <;> cases d3 <;> cases d4 <;> cases d5
            all_goals first
              | (have HS2 : Hid (okTo s (k + 1) = true) := Lib.hid (by rw [HS.out, HK.out, HOK.out]; rfl)
                 go_wp2
                 go_round
                 case rel => exact ⟨k + 1, by go_num, by omega, HS2, HL2⟩
                 case measure => simp [intOf]; omega)
              | (have HE : Hid (ce = 40) := Lib.hid (HBk.out (by rw [HOK.out]; rfl))
                 go_wp2
                 go_ret
                 exact ⟨nret HE.out.symm, rfl⟩)
        · have hke : s.size = k := by omega
          have HE := Lib.hid (HGood.out (HL0.out.resolve_left (by omega)) (by rw [hke]; exact HK.out))
          have hki : ¬ k < s.size := hlt
          clear hke
          go_wp2
          go_ret
          exact ⟨nret HE.out.symm, rfl⟩
end Go.Proofs.YtjcmeacgfflfmaaGreat.Ic
namespace Go.Proofs.YtjcmeacgfflfmaaGreat.Md
open Go.RowKit Go.Shelf
theorem fErr_at {α : Type} (E : Nat → α → Int) : ∀ (L : List α) (k j : Nat) (y : α), (∀ i x, i < j → L[i]? = some x → E (k + i) x = 0) → L[j]? = some y → E (k + j) y ≠ 0 → fErr E k L = (E (k + j) y, k + j + 1)
  | [], k, j, y, _, h, _ => by simp at h
  | z :: r, k, 0, y, _, h, hy => by
    have : z = y := by simpa using h
    subst this
    unfold fErr
    rw [Nat.add_zero] at hy
    rw [if_pos hy]
    rfl
  | z :: r, k, j + 1, y, h0, h, hy => by
    have h1 := h0 0 z (by omega) rfl
    rw [Nat.add_zero] at h1
    unfold fErr
    rw [if_neg (by simpa using h1)]
    have := fErr_at E r (k + 1) j y (fun i x hi hx => by
      have := h0 (i + 1) x (by omega) (by simpa using hx)
      rwa [show k + (i + 1) = k + 1 + i by omega] at this) (by simpa using h) (by rwa [show k + 1 + j = k + (j + 1) by omega])
    rw [show k + (j + 1) = k + 1 + j by omega]
    exact this
theorem fstP_mem {x : ByteArray} : ∀ {l : List ByteArray} {i : Nat}, l[i]? = some x → ∃ j, j ≤ i ∧ fstP l x = some j
  | [], i, h => by simp at h
  | y :: r, i, h => by
    unfold fstP
    by_cases e : y = x
    · exact ⟨0, Nat.zero_le _, by rw [if_pos e]⟩
    · cases i with
      | zero => exact absurd (by simpa using h) e
      | succ i =>
        obtain ⟨j, hj, h2⟩ := fstP_mem (l := r) (i := i) (by simpa using h)
        exact ⟨j + 1, by omega, by rw [if_neg e, h2]; rfl⟩
theorem nm_at {m : ModelM} {i : Nat} {p : ProcM} (hp : m.procs[i]? = some p) : (nmsP m)[i]? = some p.name := by unfold nmsP; rw [List.getElem?_map, hp]; rfl
theorem plc_pos {l : List ByteArray} {y : ByteArray} {i : Nat} (h : fstP l y = some i) : plcI l y = (i : Int) := by unfold plcI; rw [h]
end Go.Proofs.YtjcmeacgfflfmaaGreat.Md
namespace Go.Proofs.YtjcmeacgfflfmaaGreat.Md
open Go.RowKit Go.Shelf

set_option maxRecDepth 100000 in
set_option maxHeartbeats 4000000 in
theorem rproc_any {w : World} {x : ModelV} (h : ModelAt w.heap.size w x) (y : ByteArray) : Calls Tryz.prog 21 #[.agg #[.int .i64 x.ver, .slice x.pa x.procs.length x.pc, .slice x.la x.links.length x.lc, .slice x.ea x.events.length x.ec], .string y] w fun e w' => e = .returned (.int .i64 (plcI (nmsP x.m) y)) ∧ Below w.heap.size w w' := by
  have HM := Lib.hid h
  have HX : Hid ((w.alloc (.cells #[.int .i64 x.ver, .slice x.pa x.procs.length x.pc, .slice x.la x.links.length x.lc, .slice x.ea x.events.length x.ec] 26)).heap[w.heap.size]? = some (.cells #[.int .i64 x.ver, .slice x.pa x.procs.length x.pc, .slice x.la x.links.length x.lc, .slice x.ea x.events.length x.ec] 26 (0, 0))) := Lib.hid (heap_new _ rfl)
  have HB := Lib.hid (below_one w (.cells #[.int .i64 x.ver, .slice x.pa x.procs.length x.pc, .slice x.la x.links.length x.lc, .slice x.ea x.events.length x.ec] 26))
  have HL : Hid (∀ (i : Nat) e, x.procs[i]? = some e → (nmsP x.m)[i]? = some e.p.name) := Lib.hid (fun i e hi => by unfold nmsP ModelV.m; rw [List.map_map, List.getElem?_map, hi]; rfl)
  have HN : Hid ((nmsP x.m).length = x.procs.length) := Lib.hid (by unfold nmsP ModelV.m; simp)
  have hsm : (x.procs.length : Int) ≤ 9223372036854775807 := by have := HM.out.procs.small; unfold maxLen at this; omega
  clear h
  obtain ⟨R, hR⟩ : ∃ R, plcI (nmsP x.m) y = R := ⟨_, rfl⟩
  have HR := Lib.hid hR
  rw [hR]
  clear hR
  go_enter Tryz.func21, Tryz.ntmps21
  go_upto_region 2 with fail
  generalize w.alloc (.cells #[.int .i64 x.ver, .slice x.pa x.procs.length x.pc, .slice x.la x.links.length x.lc, .slice x.ea x.events.length x.ec] 26) = w1 at *
  have hc1 : w1.cell? ⟨w.heap.size, 1, none⟩ = some (.slice x.pa x.procs.length x.pc) := heap_cell HX.out rfl
  go_loopw [5] (fun i wr => wr = w1 ∧ ∃ j : Nat, i = .int .i64 (j : Int) ∧ j ≤ x.procs.length ∧ Hid (∀ i, i < j → (nmsP x.m)[i]? ≠ some y)) (fun i _ => x.procs.length - (intOf i).toNat)
  case atStart => exact ⟨rfl, 0, rfl, Nat.zero_le _, Lib.hid (fun i hi => by omega)⟩
  case round =>
    obtain ⟨rfl, j, rfl, hj, HA⟩ := hrel
    have hj0 : (0 : Int) ≤ (j : Int) := Int.natCast_nonneg j
    by_cases hlt : j < x.procs.length
    · have hI := (HM.out.procs.kept HB.out (Nat.le_refl _))
      have ha := hI.addr.resolve_left (by omega)
      have hx : x.procs[j]? = some (x.procs[j]'hlt) := List.getElem?_eq_getElem _
      obtain ⟨e, hp⟩ : ∃ e, x.procs[j]'hlt = e := ⟨_, rfl⟩
      rw [hp] at hx
      have c0 : wr.cell? ⟨x.pb, x.po + j * 4, none⟩ = some (.string e.p.name) := hI.cell j e hx 0 _ rfl
      have hji : (j : Int) < (x.procs.length : Int) := by omega
      rw [ha] at hc1
      have HT := Lib.hid (HL.out j e hx)
      clear hp hI hx ha
      by_cases heq : e.p.name = y
      · have heb : (e.p.name.toList == y.toList) = true := by rw [bytes_eq, decide_eq_true heq]
        have hr : R = (j : Int) := by
          rw [← HR.out]
          unfold plcI
          rw [fstP_at HA.out (by rw [HT.out, heq])]
        subst hr
        go_wp2
        go_ret
        exact ⟨rfl, HB.out⟩
      · have heb : (e.p.name.toList == y.toList) = false := by rw [bytes_eq, decide_eq_false heq]
        go_wp2
        refine ⟨⟨trivial, j + 1, by simp, by omega, Lib.hid (fun i hi => ?_)⟩, ?_⟩
        · by_cases e1 : i = j
          · subst e1
            rw [HT.out]
            exact fun h => heq (by cases h; rfl)
          · exact HA.out i (by omega)
        · unfold intOf
          simp
          omega
    · obtain rfl : j = x.procs.length := by omega
      have hr : R = -1 := by
        rw [← HR.out]
        unfold plcI
        rw [fstP_no (fun i hi => HA.out i (by rw [HN.out] at hi; exact hi))]
      subst hr
      go_wp2
      go_ret
      exact ⟨rfl, HB.out⟩
set_option maxRecDepth 100000 in
set_option maxHeartbeats 4000000 in
theorem rlink_any {w : World} {x : ModelV} (h : ModelAt w.heap.size w x) (y : ByteArray) : Calls Tryz.prog 93 #[.agg #[.int .i64 x.ver, .slice x.pa x.procs.length x.pc, .slice x.la x.links.length x.lc, .slice x.ea x.events.length x.ec], .string y] w fun e w' => e = .returned (.int .i64 (plcI (nmsL x.m) y)) ∧ Below w.heap.size w w' := by
  have HM := Lib.hid h
  have HX : Hid ((w.alloc (.cells #[.int .i64 x.ver, .slice x.pa x.procs.length x.pc, .slice x.la x.links.length x.lc, .slice x.ea x.events.length x.ec] 26)).heap[w.heap.size]? = some (.cells #[.int .i64 x.ver, .slice x.pa x.procs.length x.pc, .slice x.la x.links.length x.lc, .slice x.ea x.events.length x.ec] 26 (0, 0))) := Lib.hid (heap_new _ rfl)
  have HB := Lib.hid (below_one w (.cells #[.int .i64 x.ver, .slice x.pa x.procs.length x.pc, .slice x.la x.links.length x.lc, .slice x.ea x.events.length x.ec] 26))
  have HL : Hid (∀ (i : Nat) e, x.links[i]? = some e → (nmsL x.m)[i]? = some e.name) := Lib.hid (fun i e hi => by unfold nmsL ModelV.m; rw [List.getElem?_map, hi]; rfl)
  have HN : Hid ((nmsL x.m).length = x.links.length) := Lib.hid (by unfold nmsL ModelV.m; simp)
  have hsm : (x.links.length : Int) ≤ 9223372036854775807 := by have := HM.out.links.small; unfold maxLen at this; omega
  clear h
  obtain ⟨R, hR⟩ : ∃ R, plcI (nmsL x.m) y = R := ⟨_, rfl⟩
  have HR := Lib.hid hR
  rw [hR]
  clear hR
  go_enter Tryz.func93, Tryz.ntmps93
  go_upto_region 2 with fail
  generalize w.alloc (.cells #[.int .i64 x.ver, .slice x.pa x.procs.length x.pc, .slice x.la x.links.length x.lc, .slice x.ea x.events.length x.ec] 26) = w1 at *
  have hc1 : w1.cell? ⟨w.heap.size, 2, none⟩ = some (.slice x.la x.links.length x.lc) := heap_cell HX.out rfl
  go_loopw [5] (fun i wr => wr = w1 ∧ ∃ j : Nat, i = .int .i64 (j : Int) ∧ j ≤ x.links.length ∧ Hid (∀ i, i < j → (nmsL x.m)[i]? ≠ some y)) (fun i _ => x.links.length - (intOf i).toNat)
  case atStart => exact ⟨rfl, 0, rfl, Nat.zero_le _, Lib.hid (fun i hi => by omega)⟩
  case round =>
    obtain ⟨rfl, j, rfl, hj, HA⟩ := hrel
    have hj0 : (0 : Int) ≤ (j : Int) := Int.natCast_nonneg j
    by_cases hlt : j < x.links.length
    · have hI := (HM.out.links.kept HB.out (Nat.le_refl _))
      have ha := hI.addr.resolve_left (by omega)
      have hx : x.links[j]? = some (x.links[j]'hlt) := List.getElem?_eq_getElem _
      obtain ⟨e, hp⟩ : ∃ e, x.links[j]'hlt = e := ⟨_, rfl⟩
      rw [hp] at hx
      have c0 : wr.cell? ⟨x.lb, x.lo + j * 5, none⟩ = some (.string e.name) := hI.cell j e hx 0 _ rfl
      have hji : (j : Int) < (x.links.length : Int) := by omega
      rw [ha] at hc1
      have HT := Lib.hid (HL.out j e hx)
      clear hp hI hx ha
      by_cases heq : e.name = y
      · have heb : (e.name.toList == y.toList) = true := by rw [bytes_eq, decide_eq_true heq]
        have hr : R = (j : Int) := by
          rw [← HR.out]
          unfold plcI
          rw [fstP_at HA.out (by rw [HT.out, heq])]
        subst hr
        go_wp2
        go_ret
        exact ⟨rfl, HB.out⟩
      · have heb : (e.name.toList == y.toList) = false := by rw [bytes_eq, decide_eq_false heq]
        go_wp2
        refine ⟨⟨trivial, j + 1, by simp, by omega, Lib.hid (fun i hi => ?_)⟩, ?_⟩
        · by_cases e1 : i = j
          · subst e1
            rw [HT.out]
            exact fun h => heq (by cases h; rfl)
          · exact HA.out i (by omega)
        · unfold intOf
          simp
          omega
    · obtain rfl : j = x.links.length := by omega
      have hr : R = -1 := by
        rw [← HR.out]
        unfold plcI
        rw [fstP_no (fun i hi => HA.out i (by rw [HN.out] at hi; exact hi))]
      subst hr
      go_wp2
      go_ret
      exact ⟨rfl, HB.out⟩
set_option maxRecDepth 100000 in
set_option maxHeartbeats 4000000 in
theorem rvar_any {w : World} {p : ProcV} (h : ProcIn w.heap.size w p) (y : ByteArray) : Calls Tryz.prog 91 #[.agg #[.string p.p.name, .int .i64 p.p.weight, .slice p.va p.p.vars.length p.vc, .slice p.sa p.p.steps.length p.sc], .string y] w fun e w' => e = .returned (.int .i64 (plcI (vNames p.p) y)) ∧ Below w.heap.size w w' := by
  have HM := Lib.hid h
  have HX : Hid ((w.alloc (.cells #[.string p.p.name, .int .i64 p.p.weight, .slice p.va p.p.vars.length p.vc, .slice p.sa p.p.steps.length p.sc] 34)).heap[w.heap.size]? = some (.cells #[.string p.p.name, .int .i64 p.p.weight, .slice p.va p.p.vars.length p.vc, .slice p.sa p.p.steps.length p.sc] 34 (0, 0))) := Lib.hid (heap_new _ rfl)
  have HB := Lib.hid (below_one w (.cells #[.string p.p.name, .int .i64 p.p.weight, .slice p.va p.p.vars.length p.vc, .slice p.sa p.p.steps.length p.sc] 34))
  have HL : Hid (∀ (i : Nat) e, p.p.vars[i]? = some e → (vNames p.p)[i]? = some e.name) := Lib.hid (fun i e hi => by unfold vNames; rw [List.getElem?_map, hi]; rfl)
  have HN : Hid ((vNames p.p).length = p.p.vars.length) := Lib.hid (by unfold vNames; simp)
  have hsm : (p.p.vars.length : Int) ≤ 9223372036854775807 := by have := HM.out.vars.small; unfold maxLen at this; omega
  clear h
  obtain ⟨R, hR⟩ : ∃ R, plcI (vNames p.p) y = R := ⟨_, rfl⟩
  have HR := Lib.hid hR
  rw [hR]
  clear hR
  go_enter Tryz.func91, Tryz.ntmps91
  go_upto_region 2 with fail
  generalize w.alloc (.cells #[.string p.p.name, .int .i64 p.p.weight, .slice p.va p.p.vars.length p.vc, .slice p.sa p.p.steps.length p.sc] 34) = w1 at *
  have hc1 : w1.cell? ⟨w.heap.size, 2, none⟩ = some (.slice p.va p.p.vars.length p.vc) := heap_cell HX.out rfl
  go_loopw [5] (fun i wr => wr = w1 ∧ ∃ j : Nat, i = .int .i64 (j : Int) ∧ j ≤ p.p.vars.length ∧ Hid (∀ i, i < j → (vNames p.p)[i]? ≠ some y)) (fun i _ => p.p.vars.length - (intOf i).toNat)
  case atStart => exact ⟨rfl, 0, rfl, Nat.zero_le _, Lib.hid (fun i hi => by omega)⟩
  case round =>
    obtain ⟨rfl, j, rfl, hj, HA⟩ := hrel
    have hj0 : (0 : Int) ≤ (j : Int) := Int.natCast_nonneg j
    by_cases hlt : j < p.p.vars.length
    · have hI := (HM.out.vars.kept HB.out (Nat.le_refl _))
      have ha := hI.addr.resolve_left (by omega)
      have hx : p.p.vars[j]? = some (p.p.vars[j]'hlt) := List.getElem?_eq_getElem _
      obtain ⟨e, hp⟩ : ∃ e, p.p.vars[j]'hlt = e := ⟨_, rfl⟩
      rw [hp] at hx
      have c0 : wr.cell? ⟨p.vb, p.vo + j * 2, none⟩ = some (.string e.name) := hI.cell j e hx 0 _ rfl
      have hji : (j : Int) < (p.p.vars.length : Int) := by omega
      rw [ha] at hc1
      have HT := Lib.hid (HL.out j e hx)
      clear hp hI hx ha
      by_cases heq : e.name = y
      · have heb : (e.name.toList == y.toList) = true := by rw [bytes_eq, decide_eq_true heq]
        have hr : R = (j : Int) := by
          rw [← HR.out]
          unfold plcI
          rw [fstP_at HA.out (by rw [HT.out, heq])]
        subst hr
        go_wp2
        go_ret
        exact ⟨rfl, HB.out⟩
      · have heb : (e.name.toList == y.toList) = false := by rw [bytes_eq, decide_eq_false heq]
        go_wp2
        refine ⟨⟨trivial, j + 1, by simp, by omega, Lib.hid (fun i hi => ?_)⟩, ?_⟩
        · by_cases e1 : i = j
          · subst e1
            rw [HT.out]
            exact fun h => heq (by cases h; rfl)
          · exact HA.out i (by omega)
        · unfold intOf
          simp
          omega
    · obtain rfl : j = p.p.vars.length := by omega
      have hr : R = -1 := by
        rw [← HR.out]
        unfold plcI
        rw [fstP_no (fun i hi => HA.out i (by rw [HN.out] at hi; exact hi))]
      subst hr
      go_wp2
      go_ret
      exact ⟨rfl, HB.out⟩
end Go.Proofs.YtjcmeacgfflfmaaGreat.Md

namespace Go.Proofs.YtjcmeacgfflfmaaGreat.Md
open Go.RowKit Go.Shelf

theorem rnumber_any (n : Int) (w : World) : Calls Tryz.prog 53 #[.int .i64 n] w fun e w' => e = .returned (.bool (numB n)) ∧ w' = w := by
  go_enter Tryz.func53, Tryz.ntmps53
  by_cases h1 : -1099511627776 ≤ n
  · by_cases h2 : n ≤ 1099511627776
    · have hr : numB n = true := by unfold numB; simp [h1, h2]
      rw [hr]
      go_wp2
      go_ret
      exact ⟨rfl, rfl⟩
    · have hr : numB n = false := by unfold numB; simp [h1, h2]
      rw [hr]
      go_wp2
      go_ret
      exact ⟨rfl, rfl⟩
  · have hr : numB n = false := by unfold numB; simp [h1]
    rw [hr]
    go_wp2
    go_ret
    exact ⟨rfl, rfl⟩
theorem rweight_any (x : ModelV) (n : Int) (w : World) : Calls Tryz.prog 90 #[.agg #[.int .i64 x.ver, .slice x.pa x.procs.length x.pc, .slice x.la x.links.length x.lc, .slice x.ea x.events.length x.ec], .int .i64 n] w fun e w' => e = .returned (.bool (wgtB x.ver n)) ∧ Below w.heap.size w w' := by
  have HB := Lib.hid (below_one w (.cells #[.int .i64 x.ver, .slice x.pa x.procs.length x.pc, .slice x.la x.links.length x.lc, .slice x.ea x.events.length x.ec] 26))
  obtain ⟨r, hr⟩ : ∃ r, wgtB x.ver n = r := ⟨_, rfl⟩
  rw [hr]
  go_enter Tryz.func90, Tryz.ntmps90
  by_cases h1 : 1 ≤ n
  · by_cases h2 : n ≤ 1048576
    · obtain rfl : r = true := by rw [← hr]; unfold wgtB; simp [h1, h2]
      clear hr
      go_wp2
      go_ret
      exact ⟨rfl, HB.out⟩
    · have h3 : (n == 0) = false := by simp; omega
      obtain rfl : r = false := by rw [← hr]; unfold wgtB; simp [h3]; omega
      clear hr
      go_wp2
      go_ret
      exact ⟨rfl, HB.out⟩
  · by_cases h0 : n = 0
    · subst h0
      by_cases h3 : x.ver < 3
      · obtain rfl : r = true := by rw [← hr]; unfold wgtB; simp [h3]
        clear hr
        go_wp2
        go_ret
        exact ⟨rfl, HB.out⟩
      · obtain rfl : r = false := by rw [← hr]; unfold wgtB; simp [h3]
        clear hr
        go_wp2
        go_ret
        exact ⟨rfl, HB.out⟩
    · have h3 : (n == 0) = false := by simpa using h0
      obtain rfl : r = false := by rw [← hr]; unfold wgtB; simp [h3]; omega
      clear hr
      go_wp2
      go_ret
      exact ⟨rfl, HB.out⟩
end Go.Proofs.YtjcmeacgfflfmaaGreat.Md

namespace Go.Proofs.YtjcmeacgfflfmaaGreat.Md
open Go.RowKit Go.Shelf

set_option maxRecDepth 100000 in
set_option maxHeartbeats 4000000 in
theorem rarg_any {w : World} {p : ProcV} (h : ProcIn w.heap.size w p) (s : StepM) (hs : 0 ≤ s.ak ∧ s.ak ≤ 2) : Calls Tryz.prog 129 #[.agg #[.string p.p.name, .int .i64 p.p.weight, .slice p.va p.p.vars.length p.vc, .slice p.sa p.p.steps.length p.sc], .agg #[.int .i64 s.ak, .int .i64 s.an, .string s.aname]] w fun e w' => e = .returned (.int .i64 (argE (fstP (vNames p.p)) s)) ∧ Below w.heap.size w w' := by
  have HA : Hid (argE (fstP (vNames p.p)) s = if (s.ak == 0) && !numB s.an then 23 else if (s.ak != 0) && (s.an != 0) then 21 else if s.ak == 1 then thereE (fstP (vNames p.p)) s.aname else if !s.aname.toList.isEmpty then 21 else 0) := Lib.hid rfl
  obtain ⟨ak, hak⟩ : ∃ v, s.ak = v := ⟨_, rfl⟩
  obtain ⟨an, han⟩ : ∃ v, s.an = v := ⟨_, rfl⟩
  obtain ⟨y, hye⟩ : ∃ v, s.aname = v := ⟨_, rfl⟩
  generalize argE (fstP (vNames p.p)) s = r at *
  rw [hak, han, hye] at HA
  rw [hak] at hs
  rw [hak, han, hye]
  clear hak han hye
  have hb1 := (below_one w (.cells #[.string p.p.name, .int .i64 p.p.weight, .slice p.va p.p.vars.length p.vc, .slice p.sa p.p.steps.length p.sc] 34))
  have HB := Lib.hid (hb1.alloc hb1.size (.cells #[.int .i64 ak, .int .i64 an, .string y] 36))
  have HN := Lib.hid (fun W => rnumber_any an W)
  have HV := Lib.hid (rvar_any (h.on HB.out) y)
  have HX : Hid (((w.alloc (.cells #[.string p.p.name, .int .i64 p.p.weight, .slice p.va p.p.vars.length p.vc, .slice p.sa p.p.steps.length p.sc] 34)).alloc (.cells #[.int .i64 ak, .int .i64 an, .string y] 36)).heap[w.heap.size]? = some (.cells #[.string p.p.name, .int .i64 p.p.weight, .slice p.va p.p.vars.length p.vc, .slice p.sa p.p.steps.length p.sc] 34 (0, 0))) := Lib.hid (heap_alloc (heap_new _ rfl) _)
  have HY : Hid (((w.alloc (.cells #[.string p.p.name, .int .i64 p.p.weight, .slice p.va p.p.vars.length p.vc, .slice p.sa p.p.steps.length p.sc] 34)).alloc (.cells #[.int .i64 ak, .int .i64 an, .string y] 36)).heap[w.heap.size + 1]? = some (.cells #[.int .i64 ak, .int .i64 an, .string y] 36 (0, 0))) := Lib.hid (heap_new _ (by simp))
  clear h hb1
  obtain ⟨q, hq⟩ : ∃ q, plcI (vNames p.p) y = q := ⟨_, rfl⟩
  have HQ : Hid (thereE (fstP (vNames p.p)) y = if q < 0 then 4 else 0) := Lib.hid (by
    rw [← hq]
    unfold thereE plcI
    cases fstP (vNames p.p) y with
    | none => rfl
    | some i => simp)
  rw [hq] at HV
  clear hq
  generalize thereE (fstP (vNames p.p)) y = t at *
  generalize numB an = nb at *
  go_enter Tryz.func129, Tryz.ntmps129
  go_upto_region 1 with fail
  generalize ((w.alloc (.cells #[.string p.p.name, .int .i64 p.p.weight, .slice p.va p.p.vars.length p.vc, .slice p.sa p.p.steps.length p.sc] 34)).alloc (.cells #[.int .i64 ak, .int .i64 an, .string y] 36)) = w0 at *
  have c0 : w0.cell? ⟨w.heap.size + 1, 0, none⟩ = some (.int .i64 ak) := heap_cell HY.out rfl
  have c1 : w0.cell? ⟨w.heap.size + 1, 1, none⟩ = some (.int .i64 an) := heap_cell HY.out rfl
  have c2 : w0.cell? ⟨w.heap.size + 1, 2, none⟩ = some (.string y) := heap_cell HY.out rfl
  have d0 : w0.cell? ⟨w.heap.size, 0, none⟩ = some (.string p.p.name) := heap_cell HX.out rfl
  have d1 : w0.cell? ⟨w.heap.size, 1, none⟩ = some (.int .i64 p.p.weight) := heap_cell HX.out rfl
  have d2 : w0.cell? ⟨w.heap.size, 2, none⟩ = some (.slice p.va p.p.vars.length p.vc) := heap_cell HX.out rfl
  have d3 : w0.cell? ⟨w.heap.size, 3, none⟩ = some (.slice p.sa p.p.steps.length p.sc) := heap_cell HX.out rfl
  cases h0 : (ak == 0) with
  | true =>
    have h0n : (ak != 0) = false := by simp at h0 ⊢; exact h0
    have h01 : (ak == 1) = false := by simp at h0 ⊢; omega
    cases nb with
    | false =>
      have HR : Hid (r = 23) := Lib.hid (by rw [HA.out, h0]; rfl)
      go_wp2_with (go_at_call 53; refine (HN.out _).mono ?_; rintro e w' ⟨rfl, rfl⟩)
      go_ret
      exact ⟨by rw [HR.out]; rfl, HB.out⟩
    | true =>
      cases he : y.toList.isEmpty with
      | true =>
        have HR : Hid (r = 0) := Lib.hid (by rw [HA.out, h0, h0n, h01, he]; rfl)
        go_wp2_with (go_at_call 53; refine (HN.out _).mono ?_; rintro e w' ⟨rfl, rfl⟩)
        go_ret
        exact ⟨by rw [HR.out]; rfl, HB.out⟩
      | false =>
        have HR : Hid (r = 21) := Lib.hid (by rw [HA.out, h0, h0n, h01, he]; rfl)
        go_wp2_with (go_at_call 53; refine (HN.out _).mono ?_; rintro e w' ⟨rfl, rfl⟩)
        go_ret
        exact ⟨by rw [HR.out]; rfl, HB.out⟩
  | false =>
    have h0n : (ak != 0) = true := by simp at h0 ⊢; exact h0
    cases h2 : (an != 0) with
    | true =>
      have HR : Hid (r = 21) := Lib.hid (by rw [HA.out, h0, h0n, h2]; rfl)
      go_wp2
      go_ret
      exact ⟨by rw [HR.out]; rfl, HB.out⟩
    | false =>
      cases h01 : (ak == 1) with
      | true =>
        have h02 : (ak == 2) = false := by simp at h01 ⊢; omega
        have HR : Hid (r = t) := Lib.hid (by rw [HA.out, h0, h0n, h2, h01]; rfl)
        have HYb := HY.out
        by_cases hq : q < 0
        · go_wp2_with fail
          refine HV.out.mono ?_
          rintro e w3 ⟨rfl, hb3⟩
          have HB3 := Lib.hid (HB.out.trans (hb3.mono HB.out.size))
          clear hb3
          go_wp2
          go_ret
          exact ⟨by rw [HR.out, HQ.out, if_pos hq]; rfl, HB3.out⟩
        · have hqn : 0 ≤ q := by omega
          go_wp2_with fail
          refine HV.out.mono ?_
          rintro e w3 ⟨rfl, hb3⟩
          have HB3 := Lib.hid (HB.out.trans (hb3.mono HB.out.size))
          have e0 : w3.cell? ⟨w.heap.size + 1, 0, none⟩ = some (.int .i64 ak) := heap_cell (heap_below HYb hb3 (heap_lt HYb)) rfl
          clear hb3
          go_wp2
          go_ret
          exact ⟨by rw [HR.out, HQ.out, if_neg (by omega)]; rfl, HB3.out⟩
      | false =>
        have h02 : (ak == 2) = true := by simp at h0 h01 ⊢; omega
        cases he : y.toList.isEmpty with
        | true =>
          have HR : Hid (r = 0) := Lib.hid (by rw [HA.out, h0, h0n, h2, h01, he]; rfl)
          go_wp2
          go_ret
          exact ⟨by rw [HR.out]; rfl, HB.out⟩
        | false =>
          have HR : Hid (r = 21) := Lib.hid (by rw [HA.out, h0, h0n, h2, h01, he]; rfl)
          go_wp2
          go_ret
          exact ⟨by rw [HR.out]; rfl, HB.out⟩
end Go.Proofs.YtjcmeacgfflfmaaGreat.Md

namespace Go.Proofs.YtjcmeacgfflfmaaGreat.Md
open Go.RowKit Go.Shelf

theorem below_dNB (B : Nat) (w : World) (n : Nat) : Below B w (w.drewN n) := ⟨rfl, rfl, rfl, Nat.le_refl _, fun _ _ => rfl⟩
theorem plc_no {l : List ByteArray} {y : ByteArray} (h : fstP l y = none) : plcI l y = -1 := by unfold plcI; rw [h]
theorem plc_yes {l : List ByteArray} {y : ByteArray} {i : Nat} (h : fstP l y = some i) : plcI l y = (i : Int) := by unfold plcI; rw [h]
/-- The boxes of a step's check. -/
structure Sb (x : ModelV) (p : ProcV) (s : StepM) (w W : World) : Prop where
  a : W.heap[w.heap.size]? = some (.cells #[.int .i64 x.ver, .slice x.pa x.procs.length x.pc, .slice x.la x.links.length x.lc, .slice x.ea x.events.length x.ec] 26 (0, 0))
  b : W.heap[w.heap.size + 1]? = some (.cells #[.string p.p.name, .int .i64 p.p.weight, .slice p.va p.p.vars.length p.vc, .slice p.sa p.p.steps.length p.sc] 34 (0, 0))
  c : W.heap[w.heap.size + 1 + 1]? = some (.cells #[.int .i64 s.kind, .string s.name, .int .i64 s.ak, .int .i64 s.an, .string s.aname] 38 (0, 0))
  low : Below w.heap.size w W
theorem Sb.on {x : ModelV} {p : ProcV} {s : StepM} {w W W' : World} (h : Sb x p s w W) (hb : Below W.heap.size W W') : Sb x p s w W' :=
  ⟨heap_below h.a hb (heap_lt h.a), heap_below h.b hb (heap_lt h.b), heap_below h.c hb (heap_lt h.c), h.low.trans (hb.mono h.low.size)⟩
set_option maxRecDepth 100000 in
set_option maxHeartbeats 4000000 in
theorem rstep_any {w : World} {x : ModelV} {p : ProcV} (hx : ModelAt w.heap.size w x) (hp : ProcIn w.heap.size w p) (s : StepM) : Calls Tryz.prog 92 #[.agg #[.int .i64 x.ver, .slice x.pa x.procs.length x.pc, .slice x.la x.links.length x.lc, .slice x.ea x.events.length x.ec], .agg #[.string p.p.name, .int .i64 p.p.weight, .slice p.va p.p.vars.length p.vc, .slice p.sa p.p.steps.length p.sc], .agg #[.int .i64 s.kind, .string s.name, .int .i64 s.ak, .int .i64 s.an, .string s.aname]] w fun e w' => e = .returned (.int .i64 (stE x.links p.p.name (fstP (vNames p.p)) s)) ∧ Below w.heap.size w w' := by
  have HM := Lib.hid hx
  have HP := Lib.hid hp
  have HT : Hid (Sb x p s w (((w.alloc (.cells #[.int .i64 x.ver, .slice x.pa x.procs.length x.pc, .slice x.la x.links.length x.lc, .slice x.ea x.events.length x.ec] 26)).alloc (.cells #[.string p.p.name, .int .i64 p.p.weight, .slice p.va p.p.vars.length p.vc, .slice p.sa p.p.steps.length p.sc] 34)).alloc (.cells #[.int .i64 s.kind, .string s.name, .int .i64 s.ak, .int .i64 s.an, .string s.aname] 38))) := Lib.hid ⟨heap_alloc (heap_alloc (heap_new _ rfl) _) _, heap_alloc (heap_new _ (by simp)) _, heap_new _ (by simp), (((Below.refl _ _).alloc (Nat.le_refl _) _).alloc (by simp) _).alloc (by simp; omega) _⟩
  clear hx hp
  go_enter Tryz.func92, Tryz.ntmps92
  go_upto_region 1 with fail
  generalize (((w.alloc (.cells #[.int .i64 x.ver, .slice x.pa x.procs.length x.pc, .slice x.la x.links.length x.lc, .slice x.ea x.events.length x.ec] 26)).alloc (.cells #[.string p.p.name, .int .i64 p.p.weight, .slice p.va p.p.vars.length p.vc, .slice p.sa p.p.steps.length p.sc] 34)).alloc (.cells #[.int .i64 s.kind, .string s.name, .int .i64 s.ak, .int .i64 s.an, .string s.aname] 38)) = w0 at *
  have a0 : w0.cell? ⟨w.heap.size, 0, none⟩ = some (.int .i64 x.ver) := heap_cell HT.out.a rfl
  have a1 : w0.cell? ⟨w.heap.size, 1, none⟩ = some (.slice x.pa x.procs.length x.pc) := heap_cell HT.out.a rfl
  have a2 : w0.cell? ⟨w.heap.size, 2, none⟩ = some (.slice x.la x.links.length x.lc) := heap_cell HT.out.a rfl
  have a3 : w0.cell? ⟨w.heap.size, 3, none⟩ = some (.slice x.ea x.events.length x.ec) := heap_cell HT.out.a rfl
  have b0 : w0.cell? ⟨w.heap.size + 1, 0, none⟩ = some (.string p.p.name) := heap_cell HT.out.b rfl
  have b1 : w0.cell? ⟨w.heap.size + 1, 1, none⟩ = some (.int .i64 p.p.weight) := heap_cell HT.out.b rfl
  have b2 : w0.cell? ⟨w.heap.size + 1, 2, none⟩ = some (.slice p.va p.p.vars.length p.vc) := heap_cell HT.out.b rfl
  have b3 : w0.cell? ⟨w.heap.size + 1, 3, none⟩ = some (.slice p.sa p.p.steps.length p.sc) := heap_cell HT.out.b rfl
  have c0 : w0.cell? ⟨w.heap.size + 1 + 1, 0, none⟩ = some (.int .i64 s.kind) := heap_cell HT.out.c rfl
  have c1 : w0.cell? ⟨w.heap.size + 1 + 1, 1, none⟩ = some (.string s.name) := heap_cell HT.out.c rfl
  have c2 : w0.cell? ⟨w.heap.size + 1 + 1, 2, none⟩ = some (.int .i64 s.ak) := heap_cell HT.out.c rfl
  have c3 : w0.cell? ⟨w.heap.size + 1 + 1, 3, none⟩ = some (.int .i64 s.an) := heap_cell HT.out.c rfl
  have c4 : w0.cell? ⟨w.heap.size + 1 + 1, 4, none⟩ = some (.string s.aname) := heap_cell HT.out.c rfl
  by_cases hk : 1 ≤ s.kind ∧ s.kind ≤ 4 ∧ 0 ≤ s.ak ∧ s.ak ≤ 2
  · obtain ⟨hk1, hk2, hk3, hk4⟩ := hk
    have hst : stE x.links p.p.name (fstP (vNames p.p)) s = if tgtE x.links p.p.name (fstP (vNames p.p)) s = 0 then argE (fstP (vNames p.p)) s else tgtE x.links p.p.name (fstP (vNames p.p)) s := by
      unfold stE
      rw [if_neg (by simp; omega)]
    have HSt := Lib.hid hst
    clear hst
    by_cases h4 : s.kind = 4
    · have h4b : (s.kind == 4) = true := by simpa using h4
      have h4n : (s.kind != 4) = false := by simpa using h4
      go_wp2_with fail
      refine (rlink_any (HM.out.on HT.out.low) s.name).mono ?_
      clear a0 a1 a2 a3 b0 b1 b2 b3 c0 c1 c2 c3 c4
      rintro e w5 ⟨rfl, hb⟩
      replace HT := Lib.hid (HT.out.on hb)
      clear hb
      cases hf : fstP (nmsL x.m) s.name with
      | none =>
        have hr : stE x.links p.p.name (fstP (vNames p.p)) s = 4 := by
          have : tgtE x.links p.p.name (fstP (vNames p.p)) s = 4 := by
            unfold tgtE
            rw [h4n, show fstP (x.links.map (fun y => y.name)) s.name = none from hf]
            rfl
          rw [HSt.out, this, if_neg (by decide)]
        rw [plc_no hf]
        go_wp2
        go_ret
        exact ⟨by first | (rw [hr]; rfl) | rfl | rw [hr], HT.out.low⟩
      | some i =>
        have hi := fstP_lt hf
        have hil : i < x.links.length := by unfold nmsL ModelV.m at hi; rwa [List.length_map] at hi
        obtain ⟨l, hl⟩ : ∃ l, x.links[i]? = some l := ⟨_, List.getElem?_eq_getElem hil⟩
        rw [plc_yes hf]
        have hi0 : (0 : Int) ≤ (i : Int) := Int.natCast_nonneg i
        have hii : (i : Int) < (x.links.length : Int) := by omega
        have hin : ¬ ((i : Int) < 0) := by omega
        have hrow := (HM.out.on HT.out.low).links
        have ha := hrow.addr.resolve_left (by omega)
        have l1 : w5.cell? ⟨x.lb, x.lo + i * 5 + 1, none⟩ = some (.string l.frm) := hrow.cell i l hl 1 _ rfl
        have htg : tgtE x.links p.p.name (fstP (vNames p.p)) s = if l.frm.toList == p.p.name.toList then 0 else 47 := by
          unfold tgtE
          rw [h4n, show fstP (x.links.map (fun y => y.name)) s.name = some i from hf]
          dsimp only
          rw [hl]
          rfl
        have a0 : w5.cell? ⟨w.heap.size, 0, none⟩ = some (.int .i64 x.ver) := heap_cell HT.out.a rfl
        have a1 : w5.cell? ⟨w.heap.size, 1, none⟩ = some (.slice x.pa x.procs.length x.pc) := heap_cell HT.out.a rfl
        have a2 : w5.cell? ⟨w.heap.size, 2, none⟩ = some (.slice x.la x.links.length x.lc) := heap_cell HT.out.a rfl
        have a3 : w5.cell? ⟨w.heap.size, 3, none⟩ = some (.slice x.ea x.events.length x.ec) := heap_cell HT.out.a rfl
        have b0 : w5.cell? ⟨w.heap.size + 1, 0, none⟩ = some (.string p.p.name) := heap_cell HT.out.b rfl
        have b1 : w5.cell? ⟨w.heap.size + 1, 1, none⟩ = some (.int .i64 p.p.weight) := heap_cell HT.out.b rfl
        have b2 : w5.cell? ⟨w.heap.size + 1, 2, none⟩ = some (.slice p.va p.p.vars.length p.vc) := heap_cell HT.out.b rfl
        have b3 : w5.cell? ⟨w.heap.size + 1, 3, none⟩ = some (.slice p.sa p.p.steps.length p.sc) := heap_cell HT.out.b rfl
        have c0 : w5.cell? ⟨w.heap.size + 1 + 1, 0, none⟩ = some (.int .i64 s.kind) := heap_cell HT.out.c rfl
        have c1 : w5.cell? ⟨w.heap.size + 1 + 1, 1, none⟩ = some (.string s.name) := heap_cell HT.out.c rfl
        have c2 : w5.cell? ⟨w.heap.size + 1 + 1, 2, none⟩ = some (.int .i64 s.ak) := heap_cell HT.out.c rfl
        have c3 : w5.cell? ⟨w.heap.size + 1 + 1, 3, none⟩ = some (.int .i64 s.an) := heap_cell HT.out.c rfl
        have c4 : w5.cell? ⟨w.heap.size + 1 + 1, 4, none⟩ = some (.string s.aname) := heap_cell HT.out.c rfl
        rw [ha] at a2
        have HTg := Lib.hid htg
        clear htg hrow
        cases he : (l.frm.toList == p.p.name.toList) with
        | true =>
          have hne : (l.frm.toList != p.p.name.toList) = false := by simp only [bne, he]; rfl
          have hr : stE x.links p.p.name (fstP (vNames p.p)) s = argE (fstP (vNames p.p)) s := by rw [HSt.out, HTg.out, he, if_pos rfl, if_pos rfl]
          go_upto_region 7 with fail
          go_quiet (fail)
          clear a0 a1 a2 a3 b0 b1 b2 b3 c0 c1 c2 c3 c4 l1
          replace HT := Lib.hid (HT.out.on (below_dNB _ _ nq))
          generalize w5.drewN nq = w6 at *
          have a0 : w6.cell? ⟨w.heap.size, 0, none⟩ = some (.int .i64 x.ver) := heap_cell HT.out.a rfl
          have a1 : w6.cell? ⟨w.heap.size, 1, none⟩ = some (.slice x.pa x.procs.length x.pc) := heap_cell HT.out.a rfl
          have a2 : w6.cell? ⟨w.heap.size, 2, none⟩ = some (.slice x.la x.links.length x.lc) := heap_cell HT.out.a rfl
          have a3 : w6.cell? ⟨w.heap.size, 3, none⟩ = some (.slice x.ea x.events.length x.ec) := heap_cell HT.out.a rfl
          have b0 : w6.cell? ⟨w.heap.size + 1, 0, none⟩ = some (.string p.p.name) := heap_cell HT.out.b rfl
          have b1 : w6.cell? ⟨w.heap.size + 1, 1, none⟩ = some (.int .i64 p.p.weight) := heap_cell HT.out.b rfl
          have b2 : w6.cell? ⟨w.heap.size + 1, 2, none⟩ = some (.slice p.va p.p.vars.length p.vc) := heap_cell HT.out.b rfl
          have b3 : w6.cell? ⟨w.heap.size + 1, 3, none⟩ = some (.slice p.sa p.p.steps.length p.sc) := heap_cell HT.out.b rfl
          have c0 : w6.cell? ⟨w.heap.size + 1 + 1, 0, none⟩ = some (.int .i64 s.kind) := heap_cell HT.out.c rfl
          have c1 : w6.cell? ⟨w.heap.size + 1 + 1, 1, none⟩ = some (.string s.name) := heap_cell HT.out.c rfl
          have c2 : w6.cell? ⟨w.heap.size + 1 + 1, 2, none⟩ = some (.int .i64 s.ak) := heap_cell HT.out.c rfl
          have c3 : w6.cell? ⟨w.heap.size + 1 + 1, 3, none⟩ = some (.int .i64 s.an) := heap_cell HT.out.c rfl
          have c4 : w6.cell? ⟨w.heap.size + 1 + 1, 4, none⟩ = some (.string s.aname) := heap_cell HT.out.c rfl
          go_wp2_with fail
          refine (rarg_any (HP.out.on HT.out.low) s ⟨hk3, hk4⟩).mono ?_
          rintro e wz ⟨rfl, hbz⟩
          have HTz := Lib.hid (HT.out.low.trans (hbz.mono HT.out.low.size))
          clear hbz
          clear a0 a1 a2 a3 b0 b1 b2 b3 c0 c1 c2 c3 c4
          go_wp2
          go_ret
          exact ⟨by first | (rw [hr]; rfl) | rfl | rw [hr], HTz.out⟩
        | false =>
          have hne : (l.frm.toList != p.p.name.toList) = true := by simp only [bne, he]; rfl
          have hr : stE x.links p.p.name (fstP (vNames p.p)) s = 47 := by rw [HSt.out, HTg.out, he]; rfl
          go_upto_region 7 with fail
          go_quiet (fail)
          go_wp2
          go_ret
          exact ⟨by first | (rw [hr]; rfl) | rfl | rw [hr], HT.out.low.trans (below_dNB _ _ nq)⟩
    · have h4b : (s.kind == 4) = false := by simpa using h4
      have h4n : (s.kind != 4) = true := by simpa using h4
      have htg : tgtE x.links p.p.name (fstP (vNames p.p)) s = thereE (fstP (vNames p.p)) s.name := by
        unfold tgtE
        rw [h4n, if_pos rfl]
      go_wp2_with fail
      refine (rvar_any (HP.out.on HT.out.low) s.name).mono ?_
      clear a0 a1 a2 a3 b0 b1 b2 b3 c0 c1 c2 c3 c4
      rintro e w5 ⟨rfl, hb⟩
      replace HT := Lib.hid (HT.out.on hb)
      clear hb
      cases hf : fstP (vNames p.p) s.name with
      | none =>
        have hr : stE x.links p.p.name (fstP (vNames p.p)) s = 4 := by
          have : tgtE x.links p.p.name (fstP (vNames p.p)) s = 4 := by
            rw [htg]
            unfold thereE
            rw [hf]
            rfl
          rw [HSt.out, this, if_neg (by decide)]
        rw [plc_no hf]
        go_wp2
        go_ret
        exact ⟨by first | (rw [hr]; rfl) | rfl | rw [hr], HT.out.low⟩
      | some i =>
        have hr : stE x.links p.p.name (fstP (vNames p.p)) s = argE (fstP (vNames p.p)) s := by
          have : tgtE x.links p.p.name (fstP (vNames p.p)) s = 0 := by
            rw [htg]
            unfold thereE
            rw [hf]
            rfl
          rw [HSt.out, this, if_pos rfl]
        rw [plc_yes hf]
        have hi0 : (0 : Int) ≤ (i : Int) := Int.natCast_nonneg i
        have hin : ¬ ((i : Int) < 0) := by omega
        have a0 : w5.cell? ⟨w.heap.size, 0, none⟩ = some (.int .i64 x.ver) := heap_cell HT.out.a rfl
        have a1 : w5.cell? ⟨w.heap.size, 1, none⟩ = some (.slice x.pa x.procs.length x.pc) := heap_cell HT.out.a rfl
        have a2 : w5.cell? ⟨w.heap.size, 2, none⟩ = some (.slice x.la x.links.length x.lc) := heap_cell HT.out.a rfl
        have a3 : w5.cell? ⟨w.heap.size, 3, none⟩ = some (.slice x.ea x.events.length x.ec) := heap_cell HT.out.a rfl
        have b0 : w5.cell? ⟨w.heap.size + 1, 0, none⟩ = some (.string p.p.name) := heap_cell HT.out.b rfl
        have b1 : w5.cell? ⟨w.heap.size + 1, 1, none⟩ = some (.int .i64 p.p.weight) := heap_cell HT.out.b rfl
        have b2 : w5.cell? ⟨w.heap.size + 1, 2, none⟩ = some (.slice p.va p.p.vars.length p.vc) := heap_cell HT.out.b rfl
        have b3 : w5.cell? ⟨w.heap.size + 1, 3, none⟩ = some (.slice p.sa p.p.steps.length p.sc) := heap_cell HT.out.b rfl
        have c0 : w5.cell? ⟨w.heap.size + 1 + 1, 0, none⟩ = some (.int .i64 s.kind) := heap_cell HT.out.c rfl
        have c1 : w5.cell? ⟨w.heap.size + 1 + 1, 1, none⟩ = some (.string s.name) := heap_cell HT.out.c rfl
        have c2 : w5.cell? ⟨w.heap.size + 1 + 1, 2, none⟩ = some (.int .i64 s.ak) := heap_cell HT.out.c rfl
        have c3 : w5.cell? ⟨w.heap.size + 1 + 1, 3, none⟩ = some (.int .i64 s.an) := heap_cell HT.out.c rfl
        have c4 : w5.cell? ⟨w.heap.size + 1 + 1, 4, none⟩ = some (.string s.aname) := heap_cell HT.out.c rfl
        go_wp2_with fail
        refine (rarg_any (HP.out.on HT.out.low) s ⟨hk3, hk4⟩).mono ?_
        rintro e wz ⟨rfl, hbz⟩
        have HTz := Lib.hid (HT.out.low.trans (hbz.mono HT.out.low.size))
        clear hbz
        clear a0 a1 a2 a3 b0 b1 b2 b3 c0 c1 c2 c3 c4
        go_wp2
        go_ret
        exact ⟨by first | (rw [hr]; rfl) | rfl | rw [hr], HTz.out⟩
  · have hr : stE x.links p.p.name (fstP (vNames p.p)) s = 21 := by
      unfold stE
      rw [if_pos (by simp; omega)]
    by_cases g1 : s.kind < 1
    · go_wp2
      go_ret
      exact ⟨by first | (rw [hr]; rfl) | rfl | rw [hr], HT.out.low⟩
    · by_cases g2 : 4 < s.kind
      · go_wp2
        go_ret
        exact ⟨by first | (rw [hr]; rfl) | rfl | rw [hr], HT.out.low⟩
      · by_cases g3 : s.ak < 0
        · go_wp2
          go_ret
          exact ⟨by first | (rw [hr]; rfl) | rfl | rw [hr], HT.out.low⟩
        · have g4 : 2 < s.ak := by omega
          go_wp2
          go_ret
          exact ⟨by first | (rw [hr]; rfl) | rfl | rw [hr], HT.out.low⟩
end Go.Proofs.YtjcmeacgfflfmaaGreat.Md
namespace Go.Proofs.YtjcmeacgfflfmaaGreat.Md
open Go.RowKit Go.Shelf

theorem chk_two (s : ByteArray) : Ic.chkE s = 0 ∨ Ic.chkE s = 40 := by unfold Ic.chkE; split <;> simp
theorem plc_iff {l : List ByteArray} {i : Nat} {y : ByteArray} (h : l[i]? = some y) : (plcI l y = (i : Int)) ↔ ¬ ((fstP l y).getD 0 < i) := by
  obtain ⟨j, hj, h2⟩ := fstP_mem h
  rw [plc_pos h2, h2]
  show (j : Int) = (i : Int) ↔ ¬ j < i
  omega
/-- The boxes of a process's check. -/
structure Pb (x : ModelV) (p : ProcV) (w W : World) : Prop where
  a : W.heap[w.heap.size]? = some (.cells #[.int .i64 x.ver, .slice x.pa x.procs.length x.pc, .slice x.la x.links.length x.lc, .slice x.ea x.events.length x.ec] 26 (0, 0))
  b : W.heap[w.heap.size + 1]? = some (.cells #[.string p.p.name, .int .i64 p.p.weight, .slice p.va p.p.vars.length p.vc, .slice p.sa p.p.steps.length p.sc] 34 (0, 0))
  low : Below w.heap.size w W
theorem Pb.on {x : ModelV} {p : ProcV} {w W W' : World} (h : Pb x p w W) (hb : Below W.heap.size W W') : Pb x p w W' :=
  ⟨heap_below h.a hb (heap_lt h.a), heap_below h.b hb (heap_lt h.b), h.low.trans (hb.mono h.low.size)⟩
theorem Pb.ab {x : ModelV} {p : ProcV} {w W : World} (h : Pb x p w W) : w.heap.size + 1 < W.heap.size := heap_lt h.b
theorem varE_chk {f : ByteArray → Option Nat} {k : Nat} {v : VarM} (h : Ic.chkE v.name ≠ 0) : varE f k v = 40 := by
  have h2 := (chk_two v.name).resolve_left h
  unfold varE nmE
  rw [h2]
  split
  · rfl
  · rw [if_pos (show (40 : Int) ≠ 0 by decide), if_pos (show (40 : Int) ≠ 0 by decide)]
theorem varE_val {f : ByteArray → Option Nat} {k : Nat} {v : VarM} (h : (v.name.toList == [118, 97, 108, 117, 101]) = true) : varE f k v = 40 := by
  unfold varE
  rw [if_pos h]
theorem varE_two {f : ByteArray → Option Nat} {k : Nat} {v : VarM} (h1 : Ic.chkE v.name = 0) (h2 : (v.name.toList == [118, 97, 108, 117, 101]) = false) (h3 : (f v.name).getD 0 < k) : varE f k v = 5 := by
  unfold varE nmE
  rw [h2, if_neg (by decide), h1, if_neg (show ¬ (0 : Int) ≠ 0 by decide), if_pos h3, if_pos (show (5 : Int) ≠ 0 by decide)]
theorem varE_num {f : ByteArray → Option Nat} {k : Nat} {v : VarM} (h1 : Ic.chkE v.name = 0) (h2 : (v.name.toList == [118, 97, 108, 117, 101]) = false) (h3 : ¬ (f v.name).getD 0 < k) : varE f k v = if numB v.init then 0 else 23 := by
  unfold varE nmE
  rw [h2, if_neg (by decide), h1, if_neg (show ¬ (0 : Int) ≠ 0 by decide), if_neg h3, if_neg (show ¬ (0 : Int) ≠ 0 by decide)]
/-- While a variable is looked at. -/
structure Vb (x : ModelV) (p : ProcV) (v : VarM) (w w0 W : World) : Prop where
  t : Pb x p w W
  v : W.heap[w0.heap.size]? = some (.cells #[.string v.name, .int .i64 v.init] 40 (0, 0))
theorem Vb.on {x : ModelV} {p : ProcV} {v : VarM} {w w0 W W' : World} (h : Vb x p v w w0 W) (hb : Below W.heap.size W W') : Vb x p v w w0 W' := ⟨h.t.on hb, heap_below h.v hb (heap_lt h.v)⟩
set_option maxRecDepth 100000 in
set_option maxHeartbeats 4000000 in
theorem rprocE_any {w : World} {x : ModelV} (h : ModelAt w.heap.size w x) {i : Nat} {p : ProcV} (hp : x.procs[i]? = some p) : Calls Tryz.prog 51 #[.agg #[.int .i64 x.ver, .slice x.pa x.procs.length x.pc, .slice x.la x.links.length x.lc, .slice x.ea x.events.length x.ec], .int .i64 (i : Int)] w fun e w' => e = .returned (.int .i64 (prE x.ver x.links (fstP (nmsP x.m)) i p.p)) ∧ Below w.heap.size w w' := by
  have hil : i < x.procs.length := (List.getElem?_eq_some_iff.1 hp).1
  have hsm := h.procs.small
  unfold maxLen at hsm
  have hi0 : (0 : Int) ≤ (i : Int) := Int.natCast_nonneg i
  have hii : (i : Int) < (x.procs.length : Int) := by omega
  have HPl := Lib.hid (plc_iff (nm_at (m := x.m) (i := i) (p := p.p) (by unfold ModelV.m; rw [List.getElem?_map, hp]; rfl)))
  have HA : Hid (prE x.ver x.links (fstP (nmsP x.m)) i p.p = if nmE (fstP (nmsP x.m)) p.p.name i ≠ 0 then nmE (fstP (nmsP x.m)) p.p.name i else if wgtB x.ver p.p.weight then if decide (64 < p.p.vars.length) || decide (256 < p.p.steps.length) then 3 else inE x.links p.p else 41) := Lib.hid rfl
  have HNm : Hid (nmE (fstP (nmsP x.m)) p.p.name i = if Ic.chkE p.p.name ≠ 0 then Ic.chkE p.p.name else if ((fstP (nmsP x.m)) p.p.name).getD 0 < i then 5 else 0) := Lib.hid rfl
  have HM := Lib.hid h
  have HP := Lib.hid (h.inner p (List.mem_of_getElem? hp))
  have hfp : p.p.name.size ≤ maxLen := h.procs.fits p (List.mem_of_getElem? hp)
  have hX1 := heap_new (w := w) (.cells #[.int .i64 x.ver, .slice x.pa x.procs.length x.pc, .slice x.la x.links.length x.lc, .slice x.ea x.events.length x.ec] 26) rfl
  have hB1 := below_one w (.cells #[.int .i64 x.ver, .slice x.pa x.procs.length x.pc, .slice x.la x.links.length x.lc, .slice x.ea x.events.length x.ec] 26)
  have HX := Lib.hid hX1
  have HT : Hid (Pb x p w ((w.alloc (.cells #[.int .i64 x.ver, .slice x.pa x.procs.length x.pc, .slice x.la x.links.length x.lc, .slice x.ea x.events.length x.ec] 26)).alloc (.cells #[.string p.p.name, .int .i64 p.p.weight, .slice p.va p.p.vars.length p.vc, .slice p.sa p.p.steps.length p.sc] 34))) := Lib.hid ⟨heap_alloc hX1 _, heap_new _ (by simp), hB1.alloc (by simp) _⟩
  have hrow := h.procs.kept hB1 (Nat.le_refl _)
  have ha := h.procs.addr.resolve_left (by omega)
  have r0 := hrow.cell i p hp 0 _ rfl
  have r1 := hrow.cell i p hp 1 _ rfl
  have r2 := hrow.cell i p hp 2 _ rfl
  have r3 := hrow.cell i p hp 3 _ rfl
  simp only [ProcV.vv, ProcV.sv, Nat.add_zero] at r0 r1 r2 r3
  have a1 := heap_cell hX1 (i := 1) rfl
  rw [show (#[.int .i64 x.ver, .slice x.pa x.procs.length x.pc, .slice x.la x.links.length x.lc, .slice x.ea x.events.length x.ec] : Array Value)[1] = .slice (some ⟨x.pb, x.po, none⟩) x.procs.length x.pc by rw [ha]; rfl] at a1
  have HPX := Lib.hid hp
  clear h hp hX1 hB1 hrow ha hsm
  generalize prE x.ver x.links (fstP (nmsP x.m)) i p.p = r at *
  go_enter Tryz.func51, Tryz.ntmps51
  go_wp2_with fail
  clear r0 r1 r2 r3 a1 HX
  generalize (w.alloc (.cells #[.int .i64 x.ver, .slice x.pa x.procs.length x.pc, .slice x.la x.links.length x.lc, .slice x.ea x.events.length x.ec] 26)).alloc (.cells #[.string p.p.name, .int .i64 p.p.weight, .slice p.va p.p.vars.length p.vc, .slice p.sa p.p.steps.length p.sc] 34) = w2 at *
  refine (Ic.xcheck_any p.p.name hfp _).mono ?_
  rintro e w' ⟨rfl, rfl⟩
  by_cases hc : Ic.chkE p.p.name = 0
  · have hcb : (Ic.chkE p.p.name != 0) = false := by simpa using hc
    have hn2 := HNm.out
    rw [if_neg (by simpa using hc)] at hn2
    have a0 : w2.cell? ⟨w.heap.size, 0, none⟩ = some (.int .i64 x.ver) := heap_cell HT.out.a rfl
    have a1 : w2.cell? ⟨w.heap.size, 1, none⟩ = some (.slice x.pa x.procs.length x.pc) := heap_cell HT.out.a rfl
    have a2 : w2.cell? ⟨w.heap.size, 2, none⟩ = some (.slice x.la x.links.length x.lc) := heap_cell HT.out.a rfl
    have a3 : w2.cell? ⟨w.heap.size, 3, none⟩ = some (.slice x.ea x.events.length x.ec) := heap_cell HT.out.a rfl
    have b0 : w2.cell? ⟨w.heap.size + 1, 0, none⟩ = some (.string p.p.name) := heap_cell HT.out.b rfl
    have b1 : w2.cell? ⟨w.heap.size + 1, 1, none⟩ = some (.int .i64 p.p.weight) := heap_cell HT.out.b rfl
    have b2 : w2.cell? ⟨w.heap.size + 1, 2, none⟩ = some (.slice p.va p.p.vars.length p.vc) := heap_cell HT.out.b rfl
    have b3 : w2.cell? ⟨w.heap.size + 1, 3, none⟩ = some (.slice p.sa p.p.steps.length p.sc) := heap_cell HT.out.b rfl
    rw [hc]
    go_wp2_with fail
    clear a0 a1 a2 a3 b0 b1 b2 b3
    refine (rproc_any (HM.out.on HT.out.low) p.p.name).mono ?_
    rintro e w3 ⟨rfl, hb⟩
    replace HT := Lib.hid (HT.out.on hb)
    clear hb
    by_cases hj : (fstP (nmsP x.m) p.p.name).getD 0 < i
    · have hne : (plcI (nmsP x.m) p.p.name != (i : Int)) = true := by
        simp only [bne_iff_ne, ne_eq]
        exact fun e => absurd hj (HPl.out.1 e)
      have HR : Hid (r = 5) := Lib.hid (by rw [HA.out, hn2, if_pos hj]; rfl)
      clear hn2 HPl hj
      generalize plcI (nmsP x.m) p.p.name = q at *
      go_wp2
      go_ret
      exact ⟨by rw [HR.out]; rfl, HT.out.low⟩
    · have hpe : plcI (nmsP x.m) p.p.name = (i : Int) := HPl.out.2 hj
      rw [hpe]
      have hn0 : nmE (fstP (nmsP x.m)) p.p.name i = 0 := by rw [hn2, if_neg hj]
      have HA2 : Hid (r = if wgtB x.ver p.p.weight then if decide (64 < p.p.vars.length) || decide (256 < p.p.steps.length) then 3 else inE x.links p.p else 41) := Lib.hid (by rw [HA.out, hn0]; rfl)
      clear hn2 HPl hj HA HNm hn0 hpe
      have a0 : w3.cell? ⟨w.heap.size, 0, none⟩ = some (.int .i64 x.ver) := heap_cell HT.out.a rfl
      have a1 : w3.cell? ⟨w.heap.size, 1, none⟩ = some (.slice x.pa x.procs.length x.pc) := heap_cell HT.out.a rfl
      have a2 : w3.cell? ⟨w.heap.size, 2, none⟩ = some (.slice x.la x.links.length x.lc) := heap_cell HT.out.a rfl
      have a3 : w3.cell? ⟨w.heap.size, 3, none⟩ = some (.slice x.ea x.events.length x.ec) := heap_cell HT.out.a rfl
      have b0 : w3.cell? ⟨w.heap.size + 1, 0, none⟩ = some (.string p.p.name) := heap_cell HT.out.b rfl
      have b1 : w3.cell? ⟨w.heap.size + 1, 1, none⟩ = some (.int .i64 p.p.weight) := heap_cell HT.out.b rfl
      have b2 : w3.cell? ⟨w.heap.size + 1, 2, none⟩ = some (.slice p.va p.p.vars.length p.vc) := heap_cell HT.out.b rfl
      have b3 : w3.cell? ⟨w.heap.size + 1, 3, none⟩ = some (.slice p.sa p.p.steps.length p.sc) := heap_cell HT.out.b rfl
      go_wp2_with fail
      clear a0 a1 a2 a3 b0 b1 b2 b3
      refine (rweight_any x p.p.weight _).mono ?_
      rintro e w4 ⟨rfl, hb⟩
      replace HT := Lib.hid (HT.out.on hb)
      clear hb
      generalize wgtB x.ver p.p.weight = gb at *
      cases gb with
      | false =>
        have HR : Hid (r = 41) := Lib.hid (by rw [HA2.out]; rfl)
        go_wp2
        go_ret
        exact ⟨by rw [HR.out]; rfl, HT.out.low⟩
      | true =>
        have HA3 : Hid (r = if decide (64 < p.p.vars.length) || decide (256 < p.p.steps.length) then 3 else inE x.links p.p) := Lib.hid (by rw [HA2.out]; rfl)
        clear HA2
        have a0 : w4.cell? ⟨w.heap.size, 0, none⟩ = some (.int .i64 x.ver) := heap_cell HT.out.a rfl
        have a1 : w4.cell? ⟨w.heap.size, 1, none⟩ = some (.slice x.pa x.procs.length x.pc) := heap_cell HT.out.a rfl
        have a2 : w4.cell? ⟨w.heap.size, 2, none⟩ = some (.slice x.la x.links.length x.lc) := heap_cell HT.out.a rfl
        have a3 : w4.cell? ⟨w.heap.size, 3, none⟩ = some (.slice x.ea x.events.length x.ec) := heap_cell HT.out.a rfl
        have b0 : w4.cell? ⟨w.heap.size + 1, 0, none⟩ = some (.string p.p.name) := heap_cell HT.out.b rfl
        have b1 : w4.cell? ⟨w.heap.size + 1, 1, none⟩ = some (.int .i64 p.p.weight) := heap_cell HT.out.b rfl
        have b2 : w4.cell? ⟨w.heap.size + 1, 2, none⟩ = some (.slice p.va p.p.vars.length p.vc) := heap_cell HT.out.b rfl
        have b3 : w4.cell? ⟨w.heap.size + 1, 3, none⟩ = some (.slice p.sa p.p.steps.length p.sc) := heap_cell HT.out.b rfl
        by_cases h64 : 64 < p.p.vars.length
        · have g64 : decide ((64 : Int) < (p.p.vars.length : Int)) = true := by simp; omega
          have HR : Hid (r = 3) := Lib.hid (by rw [HA3.out, decide_eq_true h64]; rfl)
          go_wp2
          go_ret
          exact ⟨by rw [HR.out]; rfl, HT.out.low⟩
        · have g64 : decide ((64 : Int) < (p.p.vars.length : Int)) = false := by simp; omega
          by_cases h256 : 256 < p.p.steps.length
          · have g256 : decide ((256 : Int) < (p.p.steps.length : Int)) = true := by simp; omega
            have HR : Hid (r = 3) := Lib.hid (by rw [HA3.out, decide_eq_true h256, Bool.or_true]; rfl)
            go_wp2
            go_ret
            exact ⟨by rw [HR.out]; rfl, HT.out.low⟩
          · have g256 : decide ((256 : Int) < (p.p.steps.length : Int)) = false := by simp; omega
            have HIn : Hid (r = if (fErr (varE (fstP (vNames p.p))) 0 p.p.vars).1 = 0 then (fErr (fun _ s => stE x.links p.p.name (fstP (vNames p.p)) s) 0 p.p.steps).1 else (fErr (varE (fstP (vNames p.p))) 0 p.p.vars).1) := Lib.hid (by rw [HA3.out, decide_eq_false h64, decide_eq_false h256]; rfl)
            clear HA3
            go_wp2
            clear a0 a1 a2 a3 b0 b1 b2 b3 g64 g256
            go_loopw [6] (fun i wr => ∃ k : Nat, i = .int .i64 (k : Int) ∧ k ≤ p.p.vars.length ∧ Hid (Pb x p w wr) ∧ Hid (∀ j v, j < k → p.p.vars[j]? = some v → varE (fstP (vNames p.p)) (0 + j) v = 0)) (fun i _ => p.p.vars.length - (intOf i).toNat)
            case atStart => exact ⟨0, rfl, Nat.zero_le _, HT, Lib.hid (fun j v hj => by omega)⟩
            case round =>
              clear HT
              obtain ⟨k, rfl, hk, HT, HZ⟩ := hrel
              have hk0 : (0 : Int) ≤ (k : Int) := Int.natCast_nonneg k
              have a0 : wr.cell? ⟨w.heap.size, 0, none⟩ = some (.int .i64 x.ver) := heap_cell HT.out.a rfl
              have a1 : wr.cell? ⟨w.heap.size, 1, none⟩ = some (.slice x.pa x.procs.length x.pc) := heap_cell HT.out.a rfl
              have a2 : wr.cell? ⟨w.heap.size, 2, none⟩ = some (.slice x.la x.links.length x.lc) := heap_cell HT.out.a rfl
              have a3 : wr.cell? ⟨w.heap.size, 3, none⟩ = some (.slice x.ea x.events.length x.ec) := heap_cell HT.out.a rfl
              have b0 : wr.cell? ⟨w.heap.size + 1, 0, none⟩ = some (.string p.p.name) := heap_cell HT.out.b rfl
              have b1 : wr.cell? ⟨w.heap.size + 1, 1, none⟩ = some (.int .i64 p.p.weight) := heap_cell HT.out.b rfl
              have b2 : wr.cell? ⟨w.heap.size + 1, 2, none⟩ = some (.slice p.va p.p.vars.length p.vc) := heap_cell HT.out.b rfl
              have b3 : wr.cell? ⟨w.heap.size + 1, 3, none⟩ = some (.slice p.sa p.p.steps.length p.sc) := heap_cell HT.out.b rfl
              by_cases hlt : k < p.p.vars.length
              · have hki : (k : Int) < (p.p.vars.length : Int) := by omega
                obtain ⟨v, hv⟩ : ∃ v, p.p.vars[k]? = some v := ⟨_, List.getElem?_eq_getElem hlt⟩
                have hI := (HP.out.vars.kept HT.out.low (Nat.le_refl _))
                have ha := hI.addr.resolve_left (by omega)
                have r0 : wr.cell? ⟨p.vb, p.vo + k * 2, none⟩ = some (.string v.name) := hI.cell k v hv 0 _ rfl
                have r1 : wr.cell? ⟨p.vb, p.vo + k * 2 + 1, none⟩ = some (.int .i64 v.init) := hI.cell k v hv 1 _ rfl
                have hfv : v.name.size ≤ maxLen := hI.fits v (List.mem_of_getElem? hv)
                rw [ha] at b2
                have HV : Hid (Vb x p v w wr (wr.alloc (.cells #[.string v.name, .int .i64 v.init] 40))) := Lib.hid ⟨HT.out.on (below_one _ _), heap_new _ rfl⟩
                have HPv := Lib.hid (plc_iff (l := vNames p.p) (i := k) (y := v.name) (by unfold vNames; rw [List.getElem?_map, hv]; rfl))
                have HE : Hid (varE (fstP (vNames p.p)) k v ≠ 0 → r = varE (fstP (vNames p.p)) k v) := Lib.hid (fun hne => by
                  have h1 := fErr_at (varE (fstP (vNames p.p))) p.p.vars 0 k v (fun j u hj hu => HZ.out j u hj hu) hv (by rw [Nat.zero_add]; exact hne)
                  rw [HIn.out, h1, Nat.zero_add, if_neg hne])
                have HZ2 : Hid (varE (fstP (vNames p.p)) k v = 0 → ∀ j u, j < k + 1 → p.p.vars[j]? = some u → varE (fstP (vNames p.p)) (0 + j) u = 0) := Lib.hid (fun h0 j u hj hu => by
                  by_cases e : j = k
                  · subst e
                    rw [hv] at hu
                    cases hu
                    rw [Nat.zero_add]
                    exact h0
                  · exact HZ.out j u (by omega) hu)
                clear hI ha hv HZ
                have hlt1 := HT.out.ab
                have hnw : ¬ w.heap.size + 1 = wr.heap.size := by omega
                have hnw0 : ¬ w.heap.size = wr.heap.size := by omega
                go_wp2_with fail
                clear a0 a1 a2 a3 b0 b1 b2 b3 r0 r1
                generalize wr.alloc (.cells #[.string v.name, .int .i64 v.init] 40) = w5 at *
                refine (Ic.xcheck_any v.name hfv _).mono ?_
                rintro e w' ⟨rfl, rfl⟩
                have v0 : w5.cell? ⟨wr.heap.size, 0, none⟩ = some (.string v.name) := heap_cell HV.out.v rfl
                have v1 : w5.cell? ⟨wr.heap.size, 1, none⟩ = some (.int .i64 v.init) := heap_cell HV.out.v rfl
                by_cases hcv : Ic.chkE v.name = 0
                · have hcvb : (Ic.chkE v.name != 0) = false := by simpa using hcv
                  have HCv := Lib.hid hcv
                  rw [hcv]
                  clear hcv
                  obtain ⟨vb, hvb⟩ : ∃ vb, (v.name.toList == [118, 97, 108, 117, 101]) = vb := ⟨_, rfl⟩
                  cases vb with
                  | true =>
                    have hE := varE_val (f := fstP (vNames p.p)) (k := k) hvb
                    have HR : Hid (r = 40) := Lib.hid (by rw [HE.out (by rw [hE]; decide), hE])
                    clear hE
                    go_wp2
                    go_ret
                    exact ⟨by rw [HR.out]; rfl, HV.out.t.low⟩
                  | false =>
                    have b0 : w5.cell? ⟨w.heap.size + 1, 0, none⟩ = some (.string p.p.name) := heap_cell HV.out.t.b rfl
                    have b1 : w5.cell? ⟨w.heap.size + 1, 1, none⟩ = some (.int .i64 p.p.weight) := heap_cell HV.out.t.b rfl
                    have b2 : w5.cell? ⟨w.heap.size + 1, 2, none⟩ = some (.slice p.va p.p.vars.length p.vc) := heap_cell HV.out.t.b rfl
                    have b3 : w5.cell? ⟨w.heap.size + 1, 3, none⟩ = some (.slice p.sa p.p.steps.length p.sc) := heap_cell HV.out.t.b rfl
                    go_wp2_with fail
                    clear b0 b1 b2 b3 v0 v1
                    refine (rvar_any (HP.out.on HV.out.t.low) v.name).mono ?_
                    rintro e w6 ⟨rfl, hb⟩
                    replace HV := Lib.hid (HV.out.on hb)
                    clear hb
                    have v0 : w6.cell? ⟨wr.heap.size, 0, none⟩ = some (.string v.name) := heap_cell HV.out.v rfl
                    have v1 : w6.cell? ⟨wr.heap.size, 1, none⟩ = some (.int .i64 v.init) := heap_cell HV.out.v rfl
                    by_cases hj : (fstP (vNames p.p) v.name).getD 0 < k
                    · have hne : (plcI (vNames p.p) v.name != (k : Int)) = true := by
                        simp only [bne_iff_ne, ne_eq]
                        exact fun e => absurd hj (HPv.out.1 e)
                      have hE := varE_two HCv.out hvb hj
                      have HR : Hid (r = 5) := Lib.hid (by rw [HE.out (by rw [hE]; decide), hE])
                      clear hE hj
                      generalize plcI (vNames p.p) v.name = q at *
                      go_wp2
                      go_ret
                      exact ⟨by rw [HR.out]; rfl, HV.out.t.low⟩
                    · have hpe : plcI (vNames p.p) v.name = (k : Int) := HPv.out.2 hj
                      rw [hpe]
                      have hE := varE_num HCv.out hvb hj
                      have HEn := Lib.hid hE
                      clear hE hj hpe
                      go_wp2_with fail
                      refine (rnumber_any v.init _).mono ?_
                      rintro e w' ⟨rfl, rfl⟩
                      obtain ⟨nb, hnb⟩ : ∃ nb, numB v.init = nb := ⟨_, rfl⟩
                      rw [hnb] at HEn ⊢
                      cases nb with
                      | true =>
                        have HZ3 := Lib.hid (HZ2.out HEn.out)
                        clear hnb
                        go_wp2
                        refine ⟨⟨k + 1, by simp, by omega, Lib.hid HV.out.t, HZ3⟩, ?_⟩
                        unfold intOf
                        simp
                        omega
                      | false =>
                        have HR : Hid (r = 23) := Lib.hid (by rw [HE.out (by rw [HEn.out]; decide), HEn.out]; rfl)
                        clear hnb
                        go_wp2
                        go_ret
                        exact ⟨by rw [HR.out]; rfl, HV.out.t.low⟩
                · have hcvb : (Ic.chkE v.name != 0) = true := by simpa using hcv
                  have hE := varE_chk (f := fstP (vNames p.p)) (k := k) hcv
                  have HR : Hid (r = 40) := Lib.hid (by rw [HE.out (by rw [hE]; decide), hE])
                  clear hE hcv
                  generalize Ic.chkE v.name = cv at *
                  go_wp2
                  go_ret
                  exact ⟨by rw [HR.out]; rfl, HV.out.t.low⟩
              · obtain rfl : k = p.p.vars.length := by omega
                have HV0 : Hid ((fErr (varE (fstP (vNames p.p))) 0 p.p.vars).1 = 0) := Lib.hid ((fErr_zero _ _ _).2 fun j u hu => HZ.out j u (List.getElem?_eq_some_iff.1 hu).1 hu)
                have HIs : Hid (r = (fErr (fun _ s => stE x.links p.p.name (fstP (vNames p.p)) s) 0 p.p.steps).1) := Lib.hid (by rw [HIn.out, if_pos HV0.out])
                clear HIn HV0 HZ
                go_wp2
                clear a0 a1 a2 a3 b0 b1 b2 b3
                go_loopw [8] (fun i wr => ∃ k : Nat, i = .int .i64 (k : Int) ∧ k ≤ p.p.steps.length ∧ Hid (Pb x p w wr) ∧ Hid (∀ j s, j < k → p.p.steps[j]? = some s → stE x.links p.p.name (fstP (vNames p.p)) s = 0)) (fun i _ => p.p.steps.length - (intOf i).toNat)
                case atStart => exact ⟨0, rfl, Nat.zero_le _, HT, Lib.hid (fun j v hj => by omega)⟩
                case round =>
                  clear HT
                  obtain ⟨k, rfl, hk, HT, HZ⟩ := hrel
                  have hk0 : (0 : Int) ≤ (k : Int) := Int.natCast_nonneg k
                  have a0 : wr.cell? ⟨w.heap.size, 0, none⟩ = some (.int .i64 x.ver) := heap_cell HT.out.a rfl
                  have a1 : wr.cell? ⟨w.heap.size, 1, none⟩ = some (.slice x.pa x.procs.length x.pc) := heap_cell HT.out.a rfl
                  have a2 : wr.cell? ⟨w.heap.size, 2, none⟩ = some (.slice x.la x.links.length x.lc) := heap_cell HT.out.a rfl
                  have a3 : wr.cell? ⟨w.heap.size, 3, none⟩ = some (.slice x.ea x.events.length x.ec) := heap_cell HT.out.a rfl
                  have b0 : wr.cell? ⟨w.heap.size + 1, 0, none⟩ = some (.string p.p.name) := heap_cell HT.out.b rfl
                  have b1 : wr.cell? ⟨w.heap.size + 1, 1, none⟩ = some (.int .i64 p.p.weight) := heap_cell HT.out.b rfl
                  have b2 : wr.cell? ⟨w.heap.size + 1, 2, none⟩ = some (.slice p.va p.p.vars.length p.vc) := heap_cell HT.out.b rfl
                  have b3 : wr.cell? ⟨w.heap.size + 1, 3, none⟩ = some (.slice p.sa p.p.steps.length p.sc) := heap_cell HT.out.b rfl
                  by_cases hlt : k < p.p.steps.length
                  · have hki : (k : Int) < (p.p.steps.length : Int) := by omega
                    obtain ⟨s, hs⟩ : ∃ s, p.p.steps[k]? = some s := ⟨_, List.getElem?_eq_getElem hlt⟩
                    have hI := (HP.out.steps.kept HT.out.low (Nat.le_refl _))
                    have ha := hI.addr.resolve_left (by omega)
                    have r0 : wr.cell? ⟨p.sb, p.so + k * 5, none⟩ = some (.int .i64 s.kind) := hI.cell k s hs 0 _ rfl
                    have r1 : wr.cell? ⟨p.sb, p.so + k * 5 + 1, none⟩ = some (.string s.name) := hI.cell k s hs 1 _ rfl
                    have r2 : wr.cell? ⟨p.sb, p.so + k * 5 + 2, none⟩ = some (.int .i64 s.ak) := hI.cell k s hs 2 _ rfl
                    have r3 : wr.cell? ⟨p.sb, p.so + k * 5 + 3, none⟩ = some (.int .i64 s.an) := hI.cell k s hs 3 _ rfl
                    have r4 : wr.cell? ⟨p.sb, p.so + k * 5 + 4, none⟩ = some (.string s.aname) := hI.cell k s hs 4 _ rfl
                    have HE : Hid (stE x.links p.p.name (fstP (vNames p.p)) s ≠ 0 → r = stE x.links p.p.name (fstP (vNames p.p)) s) := Lib.hid (fun hne => by
                      have h1 := fErr_at (fun _ s => stE x.links p.p.name (fstP (vNames p.p)) s) p.p.steps 0 k s (fun j u hj hu => HZ.out j u hj hu) hs hne
                      rw [HIs.out, h1])
                    have HZ2 : Hid (stE x.links p.p.name (fstP (vNames p.p)) s = 0 → ∀ j u, j < k + 1 → p.p.steps[j]? = some u → stE x.links p.p.name (fstP (vNames p.p)) u = 0) := Lib.hid (fun h0 j u hj hu => by
                      by_cases e : j = k
                      · subst e
                        rw [hs] at hu
                        cases hu
                        exact h0
                      · exact HZ.out j u (by omega) hu)
                    clear hI hs HZ
                    go_upto_region 23 with fail
                    have HSt : Hid (∀ W, Below wr.heap.size wr W → Calls Tryz.prog 92 #[.agg #[.int .i64 x.ver, .slice x.pa x.procs.length x.pc, .slice x.la x.links.length x.lc, .slice x.ea x.events.length x.ec], .agg #[.string p.p.name, .int .i64 p.p.weight, .slice p.va p.p.vars.length p.vc, .slice p.sa p.p.steps.length p.sc], .agg #[.int .i64 s.kind, .string s.name, .int .i64 s.ak, .int .i64 s.an, .string s.aname]] W fun e w' => e = .returned (.int .i64 (stE x.links p.p.name (fstP (vNames p.p)) s)) ∧ Below W.heap.size W w') := Lib.hid (fun W hW => rstep_any (HM.out.on (HT.out.on hW).low) (HP.out.on (HT.out.on hW).low) s)
                    have hlB := HT.out.ab
                    have hlA : w.heap.size < wr.heap.size := by omega
                    have hlR : p.sb < wr.heap.size := by
                      have := (HP.out.steps.on HT.out.low).below
                      omega
                    have da0 : ∀ W, Below wr.heap.size wr W → W.cell? ⟨w.heap.size, 0, none⟩ = some (.int .i64 x.ver) := fun W hW => by rw [hW.cell (by first | exact hlA | exact hlB | exact hlR)]; assumption
                    have da1 : ∀ W, Below wr.heap.size wr W → W.cell? ⟨w.heap.size, 1, none⟩ = some (.slice x.pa x.procs.length x.pc) := fun W hW => by rw [hW.cell (by first | exact hlA | exact hlB | exact hlR)]; assumption
                    have da2 : ∀ W, Below wr.heap.size wr W → W.cell? ⟨w.heap.size, 2, none⟩ = some (.slice x.la x.links.length x.lc) := fun W hW => by rw [hW.cell (by first | exact hlA | exact hlB | exact hlR)]; assumption
                    have da3 : ∀ W, Below wr.heap.size wr W → W.cell? ⟨w.heap.size, 3, none⟩ = some (.slice x.ea x.events.length x.ec) := fun W hW => by rw [hW.cell (by first | exact hlA | exact hlB | exact hlR)]; assumption
                    have db0 : ∀ W, Below wr.heap.size wr W → W.cell? ⟨w.heap.size + 1, 0, none⟩ = some (.string p.p.name) := fun W hW => by rw [hW.cell (by first | exact hlA | exact hlB | exact hlR)]; assumption
                    have db1 : ∀ W, Below wr.heap.size wr W → W.cell? ⟨w.heap.size + 1, 1, none⟩ = some (.int .i64 p.p.weight) := fun W hW => by rw [hW.cell (by first | exact hlA | exact hlB | exact hlR)]; assumption
                    have db2 : ∀ W, Below wr.heap.size wr W → W.cell? ⟨w.heap.size + 1, 2, none⟩ = some (.slice p.va p.p.vars.length p.vc) := fun W hW => by rw [hW.cell (by first | exact hlA | exact hlB | exact hlR)]; assumption
                    have db3 : ∀ W, Below wr.heap.size wr W → W.cell? ⟨w.heap.size + 1, 3, none⟩ = some (.slice p.sa p.p.steps.length p.sc) := fun W hW => by rw [hW.cell (by first | exact hlA | exact hlB | exact hlR)]; assumption
                    have dr0 : ∀ W, Below wr.heap.size wr W → W.cell? ⟨p.sb, p.so + k * 5, none⟩ = some (.int .i64 s.kind) := fun W hW => by rw [hW.cell (by first | exact hlA | exact hlB | exact hlR)]; assumption
                    have dr1 : ∀ W, Below wr.heap.size wr W → W.cell? ⟨p.sb, p.so + k * 5 + 1, none⟩ = some (.string s.name) := fun W hW => by rw [hW.cell (by first | exact hlA | exact hlB | exact hlR)]; assumption
                    have dr2 : ∀ W, Below wr.heap.size wr W → W.cell? ⟨p.sb, p.so + k * 5 + 2, none⟩ = some (.int .i64 s.ak) := fun W hW => by rw [hW.cell (by first | exact hlA | exact hlB | exact hlR)]; assumption
                    have dr3 : ∀ W, Below wr.heap.size wr W → W.cell? ⟨p.sb, p.so + k * 5 + 3, none⟩ = some (.int .i64 s.an) := fun W hW => by rw [hW.cell (by first | exact hlA | exact hlB | exact hlR)]; assumption
                    have dr4 : ∀ W, Below wr.heap.size wr W → W.cell? ⟨p.sb, p.so + k * 5 + 4, none⟩ = some (.string s.aname) := fun W hW => by rw [hW.cell (by first | exact hlA | exact hlB | exact hlR)]; assumption
                    clear a0 a1 a2 a3 b0 b1 b2 b3 r0 r1 r2 r3 r4
                    rw [ha] at db3 HSt
                    clear ha
                    go_region_held3 (fun W => Below wr.heap.size wr W) (first | assumption | exact Below.refl _ _ | exact (Below.refl _ _).drew | exact Below.drew (by assumption)) (
                      (go_at_call 92; refine (HSt.out _ (by assumption)).mono ?_; rintro e w5 ⟨rfl, hb⟩; have hS5 : Below wr.heap.size wr w5 := Below.trans (show Below wr.heap.size wr _ by assumption) (hb.mono (show Below wr.heap.size wr _ by assumption).size); clear hb))
                    clear da0 da1 da2 da3 db0 db1 db2 db3 dr0 dr1 dr2 dr3 dr4
                    replace HT := Lib.hid (HT.out.on hS5)
                    obtain ⟨se, hse⟩ : ∃ se, stE x.links p.p.name (fstP (vNames p.p)) s = se := ⟨_, rfl⟩
                    rw [hse] at HE HZ2 ⊢
                    by_cases h0 : se = 0
                    · have HZ3 := Lib.hid (HZ2.out h0)
                      subst h0
                      clear hse
                      go_wp2
                      refine ⟨⟨k + 1, by simp, by omega, HT, HZ3⟩, ?_⟩
                      unfold intOf
                      simp
                      omega
                    · have h0b : (se != 0) = true := by simpa using h0
                      have HR := Lib.hid (HE.out h0)
                      clear hse
                      go_wp2
                      go_ret
                      exact ⟨by rw [HR.out]; rfl, HT.out.low⟩
                  · obtain rfl : k = p.p.steps.length := by omega
                    have HR : Hid (r = 0) := Lib.hid (by rw [HIs.out]; exact (fErr_zero _ _ _).2 fun j u hu => HZ.out j u (List.getElem?_eq_some_iff.1 hu).1 hu)
                    go_wp2
                    go_ret
                    exact ⟨by rw [HR.out]; rfl, HT.out.low⟩
  · have hcb : (Ic.chkE p.p.name != 0) = true := by simpa using hc
    have HR : Hid (r = 40) := Lib.hid (by rw [HA.out, HNm.out, if_pos hc, if_pos hc]; exact (chk_two p.p.name).resolve_left hc)
    have h40 : Ic.chkE p.p.name = 40 := (chk_two p.p.name).resolve_left hc
    rw [h40]
    go_wp2
    go_ret
    exact ⟨by rw [HR.out]; rfl, HT.out.low⟩
end Go.Proofs.YtjcmeacgfflfmaaGreat.Md

namespace Go.Proofs.YtjcmeacgfflfmaaGreat.Md
open Go.RowKit Go.Shelf

theorem link_at_nm {m : ModelM} {i : Nat} {l : LinkM} (hl : m.links[i]? = some l) : (nmsL m)[i]? = some l.name := by unfold nmsL; rw [List.getElem?_map, hl]; rfl
/-- The boxes of a link's check. -/
structure Lb (x : ModelV) (l : LinkM) (w W : World) : Prop where
  a : W.heap[w.heap.size]? = some (.cells #[.int .i64 x.ver, .slice x.pa x.procs.length x.pc, .slice x.la x.links.length x.lc, .slice x.ea x.events.length x.ec] 26 (0, 0))
  b : W.heap[w.heap.size + 1]? = some (.cells #[.string l.name, .string l.frm, .string l.to_, .int .i64 l.delay, .int .i64 l.weight] 42 (0, 0))
  low : Below w.heap.size w W
theorem Lb.on {x : ModelV} {l : LinkM} {w W W' : World} (h : Lb x l w W) (hb : Below W.heap.size W W') : Lb x l w W' :=
  ⟨heap_below h.a hb (heap_lt h.a), heap_below h.b hb (heap_lt h.b), h.low.trans (hb.mono h.low.size)⟩
set_option maxRecDepth 100000 in
set_option maxHeartbeats 4000000 in
theorem rlinkE_any {w : World} {x : ModelV} (h : ModelAt w.heap.size w x) {i : Nat} {l : LinkM} (hl : x.links[i]? = some l) : Calls Tryz.prog 52 #[.agg #[.int .i64 x.ver, .slice x.pa x.procs.length x.pc, .slice x.la x.links.length x.lc, .slice x.ea x.events.length x.ec], .int .i64 (i : Int)] w fun e w' => e = .returned (.int .i64 (lnE x.ver (fstP (nmsP x.m)) (fstP (nmsL x.m)) i l)) ∧ Below w.heap.size w w' := by
  have hil : i < x.links.length := (List.getElem?_eq_some_iff.1 hl).1
  have hsm := h.links.small
  unfold maxLen at hsm
  have hi0 : (0 : Int) ≤ (i : Int) := Int.natCast_nonneg i
  have hii : (i : Int) < (x.links.length : Int) := by omega
  have HPl := Lib.hid (plc_iff (link_at_nm (m := x.m) (i := i) (l := l) hl))
  have HA : Hid (lnE x.ver (fstP (nmsP x.m)) (fstP (nmsL x.m)) i l = if nmE (fstP (nmsL x.m)) l.name i ≠ 0 then nmE (fstP (nmsL x.m)) l.name i else if !(fstP (nmsP x.m) l.frm).isSome || !(fstP (nmsP x.m) l.to_).isSome then 4 else if !(decide (1 ≤ l.delay) && decide (l.delay ≤ 1099511627776)) then 42 else if wgtB x.ver l.weight then 0 else 41) := Lib.hid rfl
  have HNm : Hid (nmE (fstP (nmsL x.m)) l.name i = if Ic.chkE l.name ≠ 0 then Ic.chkE l.name else if ((fstP (nmsL x.m)) l.name).getD 0 < i then 5 else 0) := Lib.hid rfl
  have HM := Lib.hid h
  have hfl : l.name.size ≤ maxLen := (h.links.fits l (List.mem_of_getElem? hl)).1
  have hX1 := heap_new (w := w) (.cells #[.int .i64 x.ver, .slice x.pa x.procs.length x.pc, .slice x.la x.links.length x.lc, .slice x.ea x.events.length x.ec] 26) rfl
  have hB1 := below_one w (.cells #[.int .i64 x.ver, .slice x.pa x.procs.length x.pc, .slice x.la x.links.length x.lc, .slice x.ea x.events.length x.ec] 26)
  have HT : Hid (Lb x l w ((w.alloc (.cells #[.int .i64 x.ver, .slice x.pa x.procs.length x.pc, .slice x.la x.links.length x.lc, .slice x.ea x.events.length x.ec] 26)).alloc (.cells #[.string l.name, .string l.frm, .string l.to_, .int .i64 l.delay, .int .i64 l.weight] 42))) := Lib.hid ⟨heap_alloc hX1 _, heap_new _ (by simp), hB1.alloc (by simp) _⟩
  have hrow := h.links.kept hB1 (Nat.le_refl _)
  have ha := h.links.addr.resolve_left (by omega)
  have r0 := hrow.cell i l hl 0 _ rfl
  have r1 := hrow.cell i l hl 1 _ rfl
  have r2 := hrow.cell i l hl 2 _ rfl
  have r3 := hrow.cell i l hl 3 _ rfl
  have r4 := hrow.cell i l hl 4 _ rfl
  simp only [Nat.add_zero] at r0 r1 r2 r3 r4
  have a2 := heap_cell hX1 (i := 2) rfl
  rw [show (#[.int .i64 x.ver, .slice x.pa x.procs.length x.pc, .slice x.la x.links.length x.lc, .slice x.ea x.events.length x.ec] : Array Value)[2] = .slice (some ⟨x.lb, x.lo, none⟩) x.links.length x.lc by rw [ha]; rfl] at a2
  clear h hl hX1 hB1 hrow ha hsm
  generalize lnE x.ver (fstP (nmsP x.m)) (fstP (nmsL x.m)) i l = r at *
  go_enter Tryz.func52, Tryz.ntmps52
  go_wp2_with fail
  clear r0 r1 r2 r3 r4 a2
  generalize (w.alloc (.cells #[.int .i64 x.ver, .slice x.pa x.procs.length x.pc, .slice x.la x.links.length x.lc, .slice x.ea x.events.length x.ec] 26)).alloc (.cells #[.string l.name, .string l.frm, .string l.to_, .int .i64 l.delay, .int .i64 l.weight] 42) = w2 at *
  refine (Ic.xcheck_any l.name hfl _).mono ?_
  rintro e w' ⟨rfl, rfl⟩
  by_cases hc : Ic.chkE l.name = 0
  · have hn2 := HNm.out
    rw [if_neg (by simpa using hc)] at hn2
    have a0 : w2.cell? ⟨w.heap.size, 0, none⟩ = some (.int .i64 x.ver) := heap_cell HT.out.a rfl
    have a1 : w2.cell? ⟨w.heap.size, 1, none⟩ = some (.slice x.pa x.procs.length x.pc) := heap_cell HT.out.a rfl
    have a2 : w2.cell? ⟨w.heap.size, 2, none⟩ = some (.slice x.la x.links.length x.lc) := heap_cell HT.out.a rfl
    have a3 : w2.cell? ⟨w.heap.size, 3, none⟩ = some (.slice x.ea x.events.length x.ec) := heap_cell HT.out.a rfl
    have b0 : w2.cell? ⟨w.heap.size + 1, 0, none⟩ = some (.string l.name) := heap_cell HT.out.b rfl
    have b1 : w2.cell? ⟨w.heap.size + 1, 1, none⟩ = some (.string l.frm) := heap_cell HT.out.b rfl
    have b2 : w2.cell? ⟨w.heap.size + 1, 2, none⟩ = some (.string l.to_) := heap_cell HT.out.b rfl
    have b3 : w2.cell? ⟨w.heap.size + 1, 3, none⟩ = some (.int .i64 l.delay) := heap_cell HT.out.b rfl
    have b4 : w2.cell? ⟨w.heap.size + 1, 4, none⟩ = some (.int .i64 l.weight) := heap_cell HT.out.b rfl
    rw [hc]
    clear hc
    go_wp2_with fail
    clear a0 a1 a2 a3 b0 b1 b2 b3 b4
    refine (rlink_any (HM.out.on HT.out.low) l.name).mono ?_
    rintro e w3 ⟨rfl, hb⟩
    replace HT := Lib.hid (HT.out.on hb)
    clear hb
    by_cases hj : (fstP (nmsL x.m) l.name).getD 0 < i
    · have hne : (plcI (nmsL x.m) l.name != (i : Int)) = true := by
        simp only [bne_iff_ne, ne_eq]
        exact fun e => absurd hj (HPl.out.1 e)
      have HR : Hid (r = 5) := Lib.hid (by rw [HA.out, hn2, if_pos hj]; rfl)
      clear hn2 HPl hj
      generalize plcI (nmsL x.m) l.name = q at *
      go_wp2
      go_ret
      exact ⟨by rw [HR.out]; rfl, HT.out.low⟩
    · have hpe : plcI (nmsL x.m) l.name = (i : Int) := HPl.out.2 hj
      rw [hpe]
      have hn0 : nmE (fstP (nmsL x.m)) l.name i = 0 := by rw [hn2, if_neg hj]
      have HA2 : Hid (r = if !(fstP (nmsP x.m) l.frm).isSome || !(fstP (nmsP x.m) l.to_).isSome then 4 else if !(decide (1 ≤ l.delay) && decide (l.delay ≤ 1099511627776)) then 42 else if wgtB x.ver l.weight then 0 else 41) := Lib.hid (by rw [HA.out, hn0]; rfl)
      clear hn2 HPl hj HA HNm hn0 hpe
      have a0 : w3.cell? ⟨w.heap.size, 0, none⟩ = some (.int .i64 x.ver) := heap_cell HT.out.a rfl
      have a1 : w3.cell? ⟨w.heap.size, 1, none⟩ = some (.slice x.pa x.procs.length x.pc) := heap_cell HT.out.a rfl
      have a2 : w3.cell? ⟨w.heap.size, 2, none⟩ = some (.slice x.la x.links.length x.lc) := heap_cell HT.out.a rfl
      have a3 : w3.cell? ⟨w.heap.size, 3, none⟩ = some (.slice x.ea x.events.length x.ec) := heap_cell HT.out.a rfl
      have b0 : w3.cell? ⟨w.heap.size + 1, 0, none⟩ = some (.string l.name) := heap_cell HT.out.b rfl
      have b1 : w3.cell? ⟨w.heap.size + 1, 1, none⟩ = some (.string l.frm) := heap_cell HT.out.b rfl
      have b2 : w3.cell? ⟨w.heap.size + 1, 2, none⟩ = some (.string l.to_) := heap_cell HT.out.b rfl
      have b3 : w3.cell? ⟨w.heap.size + 1, 3, none⟩ = some (.int .i64 l.delay) := heap_cell HT.out.b rfl
      have b4 : w3.cell? ⟨w.heap.size + 1, 4, none⟩ = some (.int .i64 l.weight) := heap_cell HT.out.b rfl
      go_wp2_with fail
      clear a0 a1 a2 a3 b0 b1 b2 b3 b4
      refine (rproc_any (HM.out.on HT.out.low) l.frm).mono ?_
      rintro e w4 ⟨rfl, hb⟩
      replace HT := Lib.hid (HT.out.on hb)
      clear hb
      have a0 : w4.cell? ⟨w.heap.size, 0, none⟩ = some (.int .i64 x.ver) := heap_cell HT.out.a rfl
      have a1 : w4.cell? ⟨w.heap.size, 1, none⟩ = some (.slice x.pa x.procs.length x.pc) := heap_cell HT.out.a rfl
      have a2 : w4.cell? ⟨w.heap.size, 2, none⟩ = some (.slice x.la x.links.length x.lc) := heap_cell HT.out.a rfl
      have a3 : w4.cell? ⟨w.heap.size, 3, none⟩ = some (.slice x.ea x.events.length x.ec) := heap_cell HT.out.a rfl
      have b0 : w4.cell? ⟨w.heap.size + 1, 0, none⟩ = some (.string l.name) := heap_cell HT.out.b rfl
      have b1 : w4.cell? ⟨w.heap.size + 1, 1, none⟩ = some (.string l.frm) := heap_cell HT.out.b rfl
      have b2 : w4.cell? ⟨w.heap.size + 1, 2, none⟩ = some (.string l.to_) := heap_cell HT.out.b rfl
      have b3 : w4.cell? ⟨w.heap.size + 1, 3, none⟩ = some (.int .i64 l.delay) := heap_cell HT.out.b rfl
      have b4 : w4.cell? ⟨w.heap.size + 1, 4, none⟩ = some (.int .i64 l.weight) := heap_cell HT.out.b rfl
      cases hf : fstP (nmsP x.m) l.frm with
      | none =>
        have HR : Hid (r = 4) := Lib.hid (by rw [HA2.out, hf]; rfl)
        rw [plc_no hf]
        clear hf
        go_wp2
        go_ret
        exact ⟨by rw [HR.out]; rfl, HT.out.low⟩
      | some jf =>
        rw [plc_yes hf]
        have hjf : ¬ ((jf : Int) < 0) := by omega
        have HA3 : Hid (r = if !(fstP (nmsP x.m) l.to_).isSome then 4 else if !(decide (1 ≤ l.delay) && decide (l.delay ≤ 1099511627776)) then 42 else if wgtB x.ver l.weight then 0 else 41) := Lib.hid (by rw [HA2.out, hf]; rfl)
        clear HA2 hf
        go_wp2_with fail
        clear a0 a1 a2 a3 b0 b1 b2 b3 b4
        refine (rproc_any (HM.out.on HT.out.low) l.to_).mono ?_
        rintro e w5 ⟨rfl, hb⟩
        replace HT := Lib.hid (HT.out.on hb)
        clear hb
        have a0 : w5.cell? ⟨w.heap.size, 0, none⟩ = some (.int .i64 x.ver) := heap_cell HT.out.a rfl
        have a1 : w5.cell? ⟨w.heap.size, 1, none⟩ = some (.slice x.pa x.procs.length x.pc) := heap_cell HT.out.a rfl
        have a2 : w5.cell? ⟨w.heap.size, 2, none⟩ = some (.slice x.la x.links.length x.lc) := heap_cell HT.out.a rfl
        have a3 : w5.cell? ⟨w.heap.size, 3, none⟩ = some (.slice x.ea x.events.length x.ec) := heap_cell HT.out.a rfl
        have b0 : w5.cell? ⟨w.heap.size + 1, 0, none⟩ = some (.string l.name) := heap_cell HT.out.b rfl
        have b1 : w5.cell? ⟨w.heap.size + 1, 1, none⟩ = some (.string l.frm) := heap_cell HT.out.b rfl
        have b2 : w5.cell? ⟨w.heap.size + 1, 2, none⟩ = some (.string l.to_) := heap_cell HT.out.b rfl
        have b3 : w5.cell? ⟨w.heap.size + 1, 3, none⟩ = some (.int .i64 l.delay) := heap_cell HT.out.b rfl
        have b4 : w5.cell? ⟨w.heap.size + 1, 4, none⟩ = some (.int .i64 l.weight) := heap_cell HT.out.b rfl
        cases hf : fstP (nmsP x.m) l.to_ with
        | none =>
          have HR : Hid (r = 4) := Lib.hid (by rw [HA3.out, hf]; rfl)
          rw [plc_no hf]
          clear hf
          go_wp2
          go_ret
          exact ⟨by rw [HR.out]; rfl, HT.out.low⟩
        | some jt =>
          rw [plc_yes hf]
          have hjt : ¬ ((jt : Int) < 0) := by omega
          have HA4 : Hid (r = if !(decide (1 ≤ l.delay) && decide (l.delay ≤ 1099511627776)) then 42 else if wgtB x.ver l.weight then 0 else 41) := Lib.hid (by rw [HA3.out, hf]; rfl)
          clear HA3 hf
          by_cases h1 : l.delay < 1
          · have HR : Hid (r = 42) := Lib.hid (by rw [HA4.out, if_pos (by simp; omega)])
            go_wp2
            go_ret
            exact ⟨by rw [HR.out]; rfl, HT.out.low⟩
          · by_cases h2 : 1099511627776 < l.delay
            · have HR : Hid (r = 42) := Lib.hid (by rw [HA4.out, if_pos (by simp; omega)])
              go_wp2
              go_ret
              exact ⟨by rw [HR.out]; rfl, HT.out.low⟩
            · have HA5 : Hid (r = if wgtB x.ver l.weight then 0 else 41) := Lib.hid (by rw [HA4.out, if_neg (by simp; omega)])
              clear HA4
              go_wp2_with fail
              clear a0 a1 a2 a3 b0 b1 b2 b3 b4
              refine (rweight_any x l.weight _).mono ?_
              rintro e w6 ⟨rfl, hb⟩
              replace HT := Lib.hid (HT.out.on hb)
              clear hb
              generalize wgtB x.ver l.weight = gb at *
              cases gb with
              | false =>
                have HR : Hid (r = 41) := Lib.hid (by rw [HA5.out]; rfl)
                go_wp2
                go_ret
                exact ⟨by rw [HR.out]; rfl, HT.out.low⟩
              | true =>
                have HR : Hid (r = 0) := Lib.hid (by rw [HA5.out]; rfl)
                go_wp2
                go_ret
                exact ⟨by rw [HR.out]; rfl, HT.out.low⟩
  · have HR : Hid (r = 40) := Lib.hid (by rw [HA.out, HNm.out, if_pos hc, if_pos hc]; exact (chk_two l.name).resolve_left hc)
    have h40 : Ic.chkE l.name = 40 := (chk_two l.name).resolve_left hc
    rw [h40]
    go_wp2
    go_ret
    exact ⟨by rw [HR.out]; rfl, HT.out.low⟩
theorem md_or {m : ModelM} (g1 : 1 ≤ m.ver ∧ m.ver ≤ 3) (g2 : m.procs.length ≤ 4096 ∧ m.links.length ≤ 16384 ∧ m.events.length ≤ 16384) : mdE m = orF (erP m) (erL m) (erE m) := by
  unfold mdE
  rw [if_neg (by simp; omega), if_neg (by simp; omega)]
theorem md_proc {m : ModelM} (g1 : 1 ≤ m.ver ∧ m.ver ≤ 3) (g2 : m.procs.length ≤ 4096 ∧ m.links.length ≤ 16384 ∧ m.events.length ≤ 16384) {k : Nat} {q : ProcM} (h0 : ∀ j y, j < k → m.procs[j]? = some y → prE m.ver m.links (fstP (nmsP m)) j y = 0) (hk : m.procs[k]? = some q) (hne : prE m.ver m.links (fstP (nmsP m)) k q ≠ 0) : mdE m = (prE m.ver m.links (fstP (nmsP m)) k q, ((k + 1 : Nat) : Int)) := by
  have e1 : erP m = (prE m.ver m.links (fstP (nmsP m)) k q, ((k + 1 : Nat) : Int)) := by
    unfold erP
    rw [fErr_at _ _ 0 k q (fun j y hj hy => by rw [Nat.zero_add]; exact h0 j y hj hy) hk (by rw [Nat.zero_add]; exact hne)]
    unfold fltP
    simp only [Nat.zero_add]
    rw [if_neg hne]
  rw [md_or g1 g2]
  unfold orF
  rw [e1, if_pos (fun h => hne h.1)]
theorem md_link {m : ModelM} (g1 : 1 ≤ m.ver ∧ m.ver ≤ 3) (g2 : m.procs.length ≤ 4096 ∧ m.links.length ≤ 16384 ∧ m.events.length ≤ 16384) (hp : ∀ (j : Nat) y, m.procs[j]? = some y → prE m.ver m.links (fstP (nmsP m)) j y = 0) {k : Nat} {q : LinkM} (h0 : ∀ j y, j < k → m.links[j]? = some y → lnE m.ver (fstP (nmsP m)) (fstP (nmsL m)) j y = 0) (hk : m.links[k]? = some q) (hne : lnE m.ver (fstP (nmsP m)) (fstP (nmsL m)) k q ≠ 0) : mdE m = (lnE m.ver (fstP (nmsP m)) (fstP (nmsL m)) k q, ((m.procs.length + (k + 1) : Nat) : Int)) := by
  have e1 : erP m = (0, 0) := by
    unfold erP fltP
    rw [(fErr_zero _ _ _).2 fun j y hy => by rw [Nat.zero_add]; exact hp j y hy]
    rfl
  have e2 : erL m = (lnE m.ver (fstP (nmsP m)) (fstP (nmsL m)) k q, ((m.procs.length + (k + 1) : Nat) : Int)) := by
    unfold erL
    rw [fErr_at _ _ 0 k q (fun j y hj hy => by rw [Nat.zero_add]; exact h0 j y hj hy) hk (by rw [Nat.zero_add]; exact hne)]
    unfold fltP
    simp only [Nat.zero_add]
    rw [if_neg hne]
  rw [md_or g1 g2]
  unfold orF
  rw [e1, e2, if_neg (fun h => h ⟨rfl, rfl⟩), if_pos (fun h => hne h.1)]
theorem md_event {m : ModelM} (g1 : 1 ≤ m.ver ∧ m.ver ≤ 3) (g2 : m.procs.length ≤ 4096 ∧ m.links.length ≤ 16384 ∧ m.events.length ≤ 16384) (hp : ∀ (j : Nat) y, m.procs[j]? = some y → prE m.ver m.links (fstP (nmsP m)) j y = 0) (hl : ∀ (j : Nat) y, m.links[j]? = some y → lnE m.ver (fstP (nmsP m)) (fstP (nmsL m)) j y = 0) {k : Nat} {q : EventM} (h0 : ∀ j y, j < k → m.events[j]? = some y → evE (fstP (nmsP m)) y = 0) (hk : m.events[k]? = some q) (hne : evE (fstP (nmsP m)) q ≠ 0) : mdE m = (evE (fstP (nmsP m)) q, ((m.procs.length + m.links.length + (k + 1) : Nat) : Int)) := by
  have e1 : erP m = (0, 0) := by
    unfold erP fltP
    rw [(fErr_zero _ _ _).2 fun j y hy => by rw [Nat.zero_add]; exact hp j y hy]
    rfl
  have e2 : erL m = (0, 0) := by
    unfold erL fltP
    rw [(fErr_zero _ _ _).2 fun j y hy => by rw [Nat.zero_add]; exact hl j y hy]
    rfl
  have e3 : erE m = (evE (fstP (nmsP m)) q, ((m.procs.length + m.links.length + (k + 1) : Nat) : Int)) := by
    unfold erE
    rw [fErr_at (fun _ e => evE (fstP (nmsP m)) e) m.events 0 k q (fun j y hj hy => h0 j y hj hy) hk hne]
    unfold fltP
    simp only [Nat.zero_add]
    rw [if_neg hne]
  rw [md_or g1 g2]
  unfold orF
  rw [e1, e2, if_neg (fun h => h ⟨rfl, rfl⟩), if_neg (fun h => h ⟨rfl, rfl⟩), e3]
end Go.Proofs.YtjcmeacgfflfmaaGreat.Md

namespace Go.Proofs.YtjcmeacgfflfmaaGreat.Md
open Go.RowKit Go.Shelf

structure Kb (x : ModelV) (w W : World) : Prop where
  a : W.heap[w.heap.size]? = some (.cells #[.int .i64 x.ver, .slice x.pa x.procs.length x.pc, .slice x.la x.links.length x.lc, .slice x.ea x.events.length x.ec] 26 (0, 0))
  low : Below w.heap.size w W
theorem Kb.on {x : ModelV} {w W W' : World} (h : Kb x w W) (hb : Below W.heap.size W W') : Kb x w W' :=
  ⟨heap_below h.a hb (heap_lt h.a), h.low.trans (hb.mono h.low.size)⟩
structure Eb (x : ModelV) (v : EventM) (w w0 W : World) : Prop where
  t : Kb x w W
  v : W.heap[w0.heap.size]? = some (.cells #[.string v.to_, .int .i64 v.at_, .int .i64 v.val] 57 (0, 0))
theorem Eb.on {x : ModelV} {v : EventM} {w w0 W W' : World} (h : Eb x v w w0 W) (hb : Below W.heap.size W W') : Eb x v w w0 W' := ⟨h.t.on hb, heap_below h.v hb (heap_lt h.v)⟩
theorem succ_zero {α : Type} {L : List α} {k : Nat} {p : α} {F : Nat → α → Int} (hp : L[k]? = some p) (HZ : ∀ j y, j < k → L[j]? = some y → F j y = 0) (h0 : F k p = 0) : ∀ j y, j < k + 1 → L[j]? = some y → F j y = 0 := fun j y hj hy => by
  by_cases e : j = k
  · subst e
    rw [hp] at hy
    cases hy
    exact h0
  · exact HZ j y (by omega) hy
theorem all_zero {α : Type} {L : List α} {F : Nat → α → Int} (HZ : ∀ j y, j < L.length → L[j]? = some y → F j y = 0) : ∀ (j : Nat) y, L[j]? = some y → F j y = 0 := fun j y hy => HZ j y (List.getElem?_eq_some_iff.1 hy).1 hy
set_option maxRecDepth 100000 in
set_option maxHeartbeats 4000000 in
theorem rcheck_any {w : World} {x : ModelV} (h : ModelAt w.heap.size w x) : Calls Tryz.prog 18 #[.agg #[.int .i64 x.ver, .slice x.pa x.procs.length x.pc, .slice x.la x.links.length x.lc, .slice x.ea x.events.length x.ec]] w fun e w' => e = .returned (.tuple #[.int .i64 (mdE x.m).1, .int .i64 (mdE x.m).2]) ∧ Below w.heap.size w w' := by
  have hsP := h.procs.small
  have hsL := h.links.small
  have hsE := h.events.small
  unfold maxLen at hsP hsL hsE
  have HM := Lib.hid h
  have HT : Hid (Kb x w (w.alloc (.cells #[.int .i64 x.ver, .slice x.pa x.procs.length x.pc, .slice x.la x.links.length x.lc, .slice x.ea x.events.length x.ec] 26))) := Lib.hid ⟨heap_new (w := w) _ rfl, below_one w _⟩
  have HA : Hid (mdE x.m = if !(decide (1 ≤ x.ver) && decide (x.ver ≤ 3)) then (43, 0) else if decide (4096 < x.procs.length) || (decide (16384 < x.links.length) || decide (16384 < x.events.length)) then (3, 0) else orF (erP x.m) (erL x.m) (erE x.m)) := Lib.hid (by unfold mdE ModelV.m; simp only [List.length_map])
  have HQ : Hid ((1 ≤ x.m.ver ∧ x.m.ver ≤ 3) → (x.m.procs.length ≤ 4096 ∧ x.m.links.length ≤ 16384 ∧ x.m.events.length ≤ 16384) → ∀ k q, (∀ j y, j < k → x.m.procs[j]? = some y → prE x.ver x.links (fstP (nmsP x.m)) j y = 0) → x.m.procs[k]? = some q → prE x.ver x.links (fstP (nmsP x.m)) k q ≠ 0 → mdE x.m = (prE x.ver x.links (fstP (nmsP x.m)) k q, ((k + 1 : Nat) : Int))) := Lib.hid (fun g1 g2 k q h0 hk hne => md_proc g1 g2 h0 hk hne)
  have HL : Hid ((1 ≤ x.m.ver ∧ x.m.ver ≤ 3) → (x.m.procs.length ≤ 4096 ∧ x.m.links.length ≤ 16384 ∧ x.m.events.length ≤ 16384) → (∀ (j : Nat) y, x.m.procs[j]? = some y → prE x.ver x.links (fstP (nmsP x.m)) j y = 0) → ∀ k q, (∀ j y, j < k → x.links[j]? = some y → lnE x.ver (fstP (nmsP x.m)) (fstP (nmsL x.m)) j y = 0) → x.links[k]? = some q → lnE x.ver (fstP (nmsP x.m)) (fstP (nmsL x.m)) k q ≠ 0 → mdE x.m = (lnE x.ver (fstP (nmsP x.m)) (fstP (nmsL x.m)) k q, ((x.procs.length + (k + 1) : Nat) : Int))) := Lib.hid (fun g1 g2 hp k q h0 hk hne => by
    have := md_link g1 g2 hp h0 hk hne
    rw [show x.m.procs.length = x.procs.length by unfold ModelV.m; simp] at this
    exact this)
  have HEv : Hid ((1 ≤ x.m.ver ∧ x.m.ver ≤ 3) → (x.m.procs.length ≤ 4096 ∧ x.m.links.length ≤ 16384 ∧ x.m.events.length ≤ 16384) → (∀ (j : Nat) y, x.m.procs[j]? = some y → prE x.ver x.links (fstP (nmsP x.m)) j y = 0) → (∀ (j : Nat) y, x.links[j]? = some y → lnE x.ver (fstP (nmsP x.m)) (fstP (nmsL x.m)) j y = 0) → ∀ k q, (∀ j y, j < k → x.events[j]? = some y → evE (fstP (nmsP x.m)) y = 0) → x.events[k]? = some q → evE (fstP (nmsP x.m)) q ≠ 0 → mdE x.m = (evE (fstP (nmsP x.m)) q, ((x.procs.length + x.links.length + (k + 1) : Nat) : Int))) := Lib.hid (fun g1 g2 hp hl k q h0 hk hne => by
    have := md_event g1 g2 hp hl h0 hk hne
    rw [show x.m.procs.length = x.procs.length by unfold ModelV.m; simp] at this
    exact this)
  have HR0 : Hid ((1 ≤ x.m.ver ∧ x.m.ver ≤ 3) → (x.m.procs.length ≤ 4096 ∧ x.m.links.length ≤ 16384 ∧ x.m.events.length ≤ 16384) → (∀ (j : Nat) y, x.m.procs[j]? = some y → prE x.ver x.links (fstP (nmsP x.m)) j y = 0) → (∀ (j : Nat) y, x.links[j]? = some y → lnE x.ver (fstP (nmsP x.m)) (fstP (nmsL x.m)) j y = 0) → (∀ (j : Nat) y, x.events[j]? = some y → evE (fstP (nmsP x.m)) y = 0) → mdE x.m = (0, 0)) := Lib.hid (fun g1 g2 hp hl he => right_zero ⟨g1, g2, hp, hl, he⟩)
  clear h
  generalize mdE x.m = R at *
  go_enter Tryz.func18, Tryz.ntmps18
  go_upto_region 1 with fail
  generalize w.alloc (.cells #[.int .i64 x.ver, .slice x.pa x.procs.length x.pc, .slice x.la x.links.length x.lc, .slice x.ea x.events.length x.ec] 26) = w0 at *
  have a0 : w0.cell? ⟨w.heap.size, 0, none⟩ = some (.int .i64 x.ver) := heap_cell HT.out.a rfl
  have a1 : w0.cell? ⟨w.heap.size, 1, none⟩ = some (.slice x.pa x.procs.length x.pc) := heap_cell HT.out.a rfl
  have a2 : w0.cell? ⟨w.heap.size, 2, none⟩ = some (.slice x.la x.links.length x.lc) := heap_cell HT.out.a rfl
  have a3 : w0.cell? ⟨w.heap.size, 3, none⟩ = some (.slice x.ea x.events.length x.ec) := heap_cell HT.out.a rfl
  by_cases g1 : x.ver < 1
  · have HR : Hid (R = (43, 0)) := Lib.hid (by rw [HA.out, if_pos (by simp; omega)])
    go_wp2
    go_ret2
    exact ⟨by rw [HR.out]; rfl, HT.out.low⟩
  · by_cases g2 : 3 < x.ver
    · have HR : Hid (R = (43, 0)) := Lib.hid (by rw [HA.out, if_pos (by simp; omega)])
      go_wp2
      go_ret2
      exact ⟨by rw [HR.out]; rfl, HT.out.low⟩
    · have HV : Hid (1 ≤ x.m.ver ∧ x.m.ver ≤ 3) := Lib.hid (by show 1 ≤ x.ver ∧ x.ver ≤ 3; omega)
      have HA2 : Hid (R = if decide (4096 < x.procs.length) || (decide (16384 < x.links.length) || decide (16384 < x.events.length)) then (3, 0) else orF (erP x.m) (erL x.m) (erE x.m)) := Lib.hid (by rw [HA.out, if_neg (by simp; omega)])
      clear HA
      by_cases g3 : 4096 < x.procs.length
      · have c3 : decide ((4096 : Int) < (x.procs.length : Int)) = true := by simp; omega
        have HR : Hid (R = (3, 0)) := Lib.hid (by rw [HA2.out, if_pos (by simp; omega)])
        clear g3
        go_wp2
        go_ret2
        exact ⟨by rw [HR.out]; rfl, HT.out.low⟩
      · have c3 : decide ((4096 : Int) < (x.procs.length : Int)) = false := by simp; omega
        by_cases g4 : 16384 < x.links.length
        · have c4 : decide ((16384 : Int) < (x.links.length : Int)) = true := by simp; omega
          have HR : Hid (R = (3, 0)) := Lib.hid (by rw [HA2.out, if_pos (by simp; omega)])
          clear g3 g4
          go_wp2
          go_ret2
          exact ⟨by rw [HR.out]; rfl, HT.out.low⟩
        · have c4 : decide ((16384 : Int) < (x.links.length : Int)) = false := by simp; omega
          by_cases g5 : 16384 < x.events.length
          · have c5 : decide ((16384 : Int) < (x.events.length : Int)) = true := by simp; omega
            have HR : Hid (R = (3, 0)) := Lib.hid (by rw [HA2.out, if_pos (by simp; omega)])
            clear g3 g4 g5
            go_wp2
            go_ret2
            exact ⟨by rw [HR.out]; rfl, HT.out.low⟩
          · have c5 : decide ((16384 : Int) < (x.events.length : Int)) = false := by simp; omega
            have HN : Hid (x.m.procs.length ≤ 4096 ∧ x.m.links.length ≤ 16384 ∧ x.m.events.length ≤ 16384) := Lib.hid (by unfold ModelV.m; dsimp only; rw [List.length_map]; omega)
            have HNl : Hid (x.procs.length ≤ 4096 ∧ x.links.length ≤ 16384 ∧ x.events.length ≤ 16384) := Lib.hid (by omega)
            clear g3 g4 g5 HA2
            go_wp2
            clear a0 a1 a2 a3 c3 c4 c5
            go_loopw [4, 5] (fun n i wr => ∃ k : Nat, n = .int .i64 (k : Int) ∧ i = .int .i64 (k : Int) ∧ k ≤ x.procs.length ∧ Hid (Kb x w wr) ∧ Hid (∀ j y, j < k → x.m.procs[j]? = some y → prE x.ver x.links (fstP (nmsP x.m)) j y = 0)) (fun _ i _ => x.procs.length - (intOf i).toNat)
            case atStart => exact ⟨0, rfl, rfl, Nat.zero_le _, HT, Lib.hid (fun j v hj => by omega)⟩
            case round =>
              clear HT
              obtain ⟨k, rfl, rfl, hk, HT, HZ⟩ := hrel
              have hk0 : (0 : Int) ≤ (k : Int) := Int.natCast_nonneg k
              have hkb : (k : Int) ≤ 4096 := by have := HNl.out.1; omega
              have a0 : wr.cell? ⟨w.heap.size, 0, none⟩ = some (.int .i64 x.ver) := heap_cell HT.out.a rfl
              have a1 : wr.cell? ⟨w.heap.size, 1, none⟩ = some (.slice x.pa x.procs.length x.pc) := heap_cell HT.out.a rfl
              have a2 : wr.cell? ⟨w.heap.size, 2, none⟩ = some (.slice x.la x.links.length x.lc) := heap_cell HT.out.a rfl
              have a3 : wr.cell? ⟨w.heap.size, 3, none⟩ = some (.slice x.ea x.events.length x.ec) := heap_cell HT.out.a rfl
              by_cases hlt : k < x.procs.length
              · have hki : (k : Int) < (x.procs.length : Int) := by omega
                obtain ⟨p, hp⟩ : ∃ p, x.procs[k]? = some p := ⟨_, List.getElem?_eq_getElem hlt⟩
                have hpm : x.m.procs[k]? = some p.p := by unfold ModelV.m; rw [List.getElem?_map, hp]; rfl
                go_wp2_with fail
                clear a0 a1 a2 a3
                refine (rprocE_any (HM.out.on HT.out.low) hp).mono ?_
                rintro e w3 ⟨rfl, hb⟩
                replace HT := Lib.hid (HT.out.on hb)
                clear hb
                have HE := Lib.hid (HQ.out HV.out HN.out k p.p HZ.out hpm)
                have HZ2 := Lib.hid (succ_zero hpm HZ.out)
                clear hp hpm HZ
                obtain ⟨se, hse⟩ : ∃ se, prE x.ver x.links (fstP (nmsP x.m)) k p.p = se := ⟨_, rfl⟩
                rw [hse] at HE HZ2 ⊢
                by_cases h0 : se = 0
                · have HZ3 := Lib.hid (HZ2.out h0)
                  subst h0
                  clear hse
                  go_wp2
                  refine ⟨⟨k + 1, by simp, by simp, by omega, HT, HZ3⟩, ?_⟩
                  unfold intOf
                  simp
                  omega
                · have h0b : (se != 0) = true := by simpa using h0
                  have HR := Lib.hid (HE.out h0)
                  clear hse
                  go_wp2
                  go_ret2
                  exact ⟨by rw [HR.out]; simp, HT.out.low⟩
              · obtain rfl : k = x.procs.length := by omega
                have HZp : Hid (∀ (j : Nat) y, x.m.procs[j]? = some y → prE x.ver x.links (fstP (nmsP x.m)) j y = 0) := Lib.hid (fun j y hy => HZ.out j y (by
                  have h1 := (List.getElem?_eq_some_iff.1 hy).1
                  unfold ModelV.m at h1
                  rwa [List.length_map] at h1) hy)
                clear HZ
                go_wp2
                clear a0 a1 a2 a3
                go_loopw [4, 7] (fun n i wr => ∃ k : Nat, n = .int .i64 ((x.procs.length : Int) + (k : Int)) ∧ i = .int .i64 (k : Int) ∧ k ≤ x.links.length ∧ Hid (Kb x w wr) ∧ Hid (∀ j y, j < k → x.links[j]? = some y → lnE x.ver (fstP (nmsP x.m)) (fstP (nmsL x.m)) j y = 0)) (fun _ i _ => x.links.length - (intOf i).toNat)
                case atStart => exact ⟨0, by simp, rfl, Nat.zero_le _, HT, Lib.hid (fun j v hj => by omega)⟩
                case round =>
                  clear HT
                  obtain ⟨k, rfl, rfl, hk, HT, HZ⟩ := hrel
                  have hk0 : (0 : Int) ≤ (k : Int) := Int.natCast_nonneg k
                  have hkb2 : (k : Int) ≤ 16384 := by have := HNl.out.2.1; omega
                  have a0 : wr.cell? ⟨w.heap.size, 0, none⟩ = some (.int .i64 x.ver) := heap_cell HT.out.a rfl
                  have a1 : wr.cell? ⟨w.heap.size, 1, none⟩ = some (.slice x.pa x.procs.length x.pc) := heap_cell HT.out.a rfl
                  have a2 : wr.cell? ⟨w.heap.size, 2, none⟩ = some (.slice x.la x.links.length x.lc) := heap_cell HT.out.a rfl
                  have a3 : wr.cell? ⟨w.heap.size, 3, none⟩ = some (.slice x.ea x.events.length x.ec) := heap_cell HT.out.a rfl
                  by_cases hlt : k < x.links.length
                  · have hki : (k : Int) < (x.links.length : Int) := by omega
                    obtain ⟨l, hl⟩ : ∃ l, x.links[k]? = some l := ⟨_, List.getElem?_eq_getElem hlt⟩
                    go_wp2_with fail
                    clear a0 a1 a2 a3
                    refine (rlinkE_any (HM.out.on HT.out.low) hl).mono ?_
                    rintro e w3 ⟨rfl, hb⟩
                    replace HT := Lib.hid (HT.out.on hb)
                    clear hb
                    have HE := Lib.hid (HL.out HV.out HN.out HZp.out k l HZ.out hl)
                    have HZ2 := Lib.hid (succ_zero hl HZ.out)
                    clear hl HZ
                    obtain ⟨se, hse⟩ : ∃ se, lnE x.ver (fstP (nmsP x.m)) (fstP (nmsL x.m)) k l = se := ⟨_, rfl⟩
                    rw [hse] at HE HZ2 ⊢
                    by_cases h0 : se = 0
                    · have HZ3 := Lib.hid (HZ2.out h0)
                      subst h0
                      clear hse
                      go_wp2
                      refine ⟨⟨k + 1, by simp; omega, by simp, by omega, HT, HZ3⟩, ?_⟩
                      unfold intOf
                      simp
                      omega
                    · have h0b : (se != 0) = true := by simpa using h0
                      have HR := Lib.hid (HE.out h0)
                      clear hse
                      go_wp2
                      go_ret2
                      exact ⟨by rw [HR.out]; simp; omega, HT.out.low⟩
                  · obtain rfl : k = x.links.length := by omega
                    have HZl := Lib.hid (all_zero HZ.out)
                    clear HZ
                    go_wp2
                    clear a0 a1 a2 a3
                    go_loopw [4, 9] (fun n i wr => ∃ k : Nat, n = .int .i64 ((x.procs.length : Int) + (x.links.length : Int) + (k : Int)) ∧ i = .int .i64 (k : Int) ∧ k ≤ x.events.length ∧ Hid (Kb x w wr) ∧ Hid (∀ j y, j < k → x.events[j]? = some y → evE (fstP (nmsP x.m)) y = 0)) (fun _ i _ => x.events.length - (intOf i).toNat)
                    case atStart => exact ⟨0, by simp, rfl, Nat.zero_le _, HT, Lib.hid (fun j v hj => by omega)⟩
                    case round =>
                      clear HT
                      obtain ⟨k, rfl, rfl, hk, HT, HZ⟩ := hrel
                      have hk0 : (0 : Int) ≤ (k : Int) := Int.natCast_nonneg k
                      have hkb3 : (k : Int) ≤ 16384 := by have := HNl.out.2.2; omega
                      have a0 : wr.cell? ⟨w.heap.size, 0, none⟩ = some (.int .i64 x.ver) := heap_cell HT.out.a rfl
                      have a1 : wr.cell? ⟨w.heap.size, 1, none⟩ = some (.slice x.pa x.procs.length x.pc) := heap_cell HT.out.a rfl
                      have a2 : wr.cell? ⟨w.heap.size, 2, none⟩ = some (.slice x.la x.links.length x.lc) := heap_cell HT.out.a rfl
                      have a3 : wr.cell? ⟨w.heap.size, 3, none⟩ = some (.slice x.ea x.events.length x.ec) := heap_cell HT.out.a rfl
                      by_cases hlt : k < x.events.length
                      · have hki : (k : Int) < (x.events.length : Int) := by omega
                        obtain ⟨v, hv⟩ : ∃ v, x.events[k]? = some v := ⟨_, List.getElem?_eq_getElem hlt⟩
                        have hI := (HM.out.events.kept HT.out.low (Nat.le_refl _))
                        have ha := hI.addr.resolve_left (by omega)
                        have r0 : wr.cell? ⟨x.eb, x.eo + k * 3, none⟩ = some (.string v.to_) := hI.cell k v hv 0 _ rfl
                        have r1 : wr.cell? ⟨x.eb, x.eo + k * 3 + 1, none⟩ = some (.int .i64 v.at_) := hI.cell k v hv 1 _ rfl
                        have r2 : wr.cell? ⟨x.eb, x.eo + k * 3 + 2, none⟩ = some (.int .i64 v.val) := hI.cell k v hv 2 _ rfl
                        rw [ha] at a3
                        have HV2 : Hid (Eb x v w wr (wr.alloc (.cells #[.string v.to_, .int .i64 v.at_, .int .i64 v.val] 57))) := Lib.hid ⟨HT.out.on (below_one _ _), heap_new _ rfl⟩
                        have HE := Lib.hid (HEv.out HV.out HN.out HZp.out HZl.out k v HZ.out hv)
                        have HZ2 := Lib.hid (succ_zero (F := fun _ y => evE (fstP (nmsP x.m)) y) hv HZ.out)
                        have HA : Hid (evE (fstP (nmsP x.m)) v = if !(fstP (nmsP x.m) v.to_).isSome then 4 else if !(decide (0 ≤ v.at_) && decide (v.at_ ≤ 1099511627776)) || !numB v.val then 23 else 0) := Lib.hid rfl
                        have hlA := heap_lt HT.out.a
                        have hnA : ¬ w.heap.size = wr.heap.size := by omega
                        clear hI ha hv HZ
                        go_upto_region 25 with fail
                        clear a0 a1 a2 a3 r0 r1 r2 hlA hnA
                        generalize wr.alloc (.cells #[.string v.to_, .int .i64 v.at_, .int .i64 v.val] 57) = w5 at *
                        have a0 : w5.cell? ⟨w.heap.size, 0, none⟩ = some (.int .i64 x.ver) := heap_cell HV2.out.t.a rfl
                        have a1 : w5.cell? ⟨w.heap.size, 1, none⟩ = some (.slice x.pa x.procs.length x.pc) := heap_cell HV2.out.t.a rfl
                        have a2 : w5.cell? ⟨w.heap.size, 2, none⟩ = some (.slice x.la x.links.length x.lc) := heap_cell HV2.out.t.a rfl
                        have a3 : w5.cell? ⟨w.heap.size, 3, none⟩ = some (.slice x.ea x.events.length x.ec) := heap_cell HV2.out.t.a rfl
                        have v0 : w5.cell? ⟨wr.heap.size, 0, none⟩ = some (.string v.to_) := heap_cell HV2.out.v rfl
                        have v1 : w5.cell? ⟨wr.heap.size, 1, none⟩ = some (.int .i64 v.at_) := heap_cell HV2.out.v rfl
                        have v2 : w5.cell? ⟨wr.heap.size, 2, none⟩ = some (.int .i64 v.val) := heap_cell HV2.out.v rfl
                        go_wp2_with fail
                        clear a0 a1 a2 a3 v0 v1 v2
                        refine (rproc_any (HM.out.on HV2.out.t.low) v.to_).mono ?_
                        rintro e w6 ⟨rfl, hb⟩
                        replace HV2 := Lib.hid (HV2.out.on hb)
                        clear hb
                        obtain ⟨se, hse⟩ : ∃ se, evE (fstP (nmsP x.m)) v = se := ⟨_, rfl⟩
                        rw [hse] at HE HA
                        rw [hse] at HZ2
                        clear hse
                        have v0 : w6.cell? ⟨wr.heap.size, 0, none⟩ = some (.string v.to_) := heap_cell HV2.out.v rfl
                        have v1 : w6.cell? ⟨wr.heap.size, 1, none⟩ = some (.int .i64 v.at_) := heap_cell HV2.out.v rfl
                        have v2 : w6.cell? ⟨wr.heap.size, 2, none⟩ = some (.int .i64 v.val) := heap_cell HV2.out.v rfl
                        cases hf : fstP (nmsP x.m) v.to_ with
                        | none =>
                          have h4 : se = 4 := by rw [HA.out, hf]; rfl
                          have HR := Lib.hid (HE.out (by rw [h4]; decide))
                          rw [plc_no hf]
                          subst h4
                          clear hf
                          go_wp2
                          go_ret2
                          exact ⟨by rw [HR.out]; simp; omega, HV2.out.t.low⟩
                        | some jt =>
                          rw [plc_yes hf]
                          have hjt : ¬ ((jt : Int) < 0) := by omega
                          have HA2 : Hid (se = if !(decide (0 ≤ v.at_) && decide (v.at_ ≤ 1099511627776)) || !numB v.val then 23 else 0) := Lib.hid (by rw [HA.out, hf]; rfl)
                          clear HA hf
                          by_cases q1 : v.at_ < 0
                          · have h4 : se = 23 := by rw [HA2.out, if_pos (by simp; omega)]
                            have HR := Lib.hid (HE.out (by rw [h4]; decide))
                            subst h4
                            go_wp2
                            go_ret2
                            exact ⟨by rw [HR.out]; simp; omega, HV2.out.t.low⟩
                          · by_cases q2 : 1099511627776 < v.at_
                            · have h4 : se = 23 := by rw [HA2.out, if_pos (by simp; omega)]
                              have HR := Lib.hid (HE.out (by rw [h4]; decide))
                              subst h4
                              go_wp2
                              go_ret2
                              exact ⟨by rw [HR.out]; simp; omega, HV2.out.t.low⟩
                            · have HA3 : Hid (se = if numB v.val then 0 else 23) := Lib.hid (by
                                rw [HA2.out]
                                cases numB v.val with
                                | true => rw [if_neg (by simp; omega)]; rfl
                                | false => rw [if_pos (by simp)]; rfl)
                              clear HA2
                              go_wp2_with fail
                              refine (rnumber_any v.val _).mono ?_
                              rintro e w' ⟨rfl, rfl⟩
                              clear v0 v1 v2
                              generalize numB v.val = nb at *
                              cases nb with
                              | true =>
                                have h4 : se = 0 := by rw [HA3.out]; rfl
                                have HZ3 := Lib.hid (HZ2.out h4)
                                have HTt := Lib.hid HV2.out.t
                                clear HZ2 HE HV2 HA3 h4
                                go_wp2
                                refine ⟨⟨k + 1, by simp; omega, by simp, by omega, HTt, HZ3⟩, ?_⟩
                                unfold intOf
                                simp
                                omega
                              | false =>
                                have h4 : se = 23 := by rw [HA3.out]; rfl
                                have HR := Lib.hid (HE.out (by rw [h4]; decide))
                                subst h4
                                go_wp2
                                go_ret2
                                exact ⟨by rw [HR.out]; simp; omega, HV2.out.t.low⟩
                      · obtain rfl : k = x.events.length := by omega
                        have HR := Lib.hid (HR0.out HV.out HN.out HZp.out HZl.out (all_zero (F := fun _ y => evE (fstP (nmsP x.m)) y) HZ.out))
                        go_wp2
                        go_ret2
                        exact ⟨by rw [HR.out]; rfl, HT.out.low⟩
end Go.Proofs.YtjcmeacgfflfmaaGreat.Md
