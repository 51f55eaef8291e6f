/- Contract: what hands out all pairs is made. -/
import Derived.Test.YtjpgkocffceeoaaGr
import Derived.Test.YtjpgkocffceeoaaEa
import Derived.Deep.RegionHeld3
import Derived.IntWalk
import Derived.Laws.EntriesVeiled
set_option linter.unusedVariables false
set_option linter.unusedSectionVars false
namespace Go.Proofs.Ytjpgkocffceeoaa
open Go.RowKit Rk

theorem IsSeq.turned {W W' : World} {v : Value} {n₀ m : Nat} {D : List (Int × Int)} (h : IsSeq W v n₀ D) (ht : Turned (fun c => c = m) W W') (hn : n₀ ≤ m) {cs : Array Value} {fr : Nat × Nat} (hm : W.heap[m]? = some (.cells cs 86 fr)) : IsSeq W' v n₀ D := by
  obtain ⟨B1, B2, p, t, s, h1, h2, h3, h4, h5, h6, h7, h8⟩ := h
  exact ⟨B1, B2, p, t, s, h1, ht.old h2 (fun e => by subst e; rw [h2] at hm; cases hm), ht.old h3 (fun e => by subst e; rw [h3] at hm; cases hm), h4.turned ht (fun b _ hb e => by omega), h5, h6, h7, Nat.le_trans h8 ht.size⟩
theorem IsSeq.form {W : World} {v : Value} {n₀ : Nat} {D : List (Int × Int)} (h : IsSeq W v n₀ D) : ∃ lb, v = .func (.func 91) #[] lb := by
  obtain ⟨B1, B2, p, t, s, h1, _⟩ := h
  exact ⟨_, h1⟩
/-- The row of what is between a thing and later ones. -/
def lateD (n : Nat) (F : Nat → Nat → Int) (a : Nat) : List (Int × Int) := rowOf n (above ((a : Int) + 1) (F a))
/-- While the iterators are laid. -/
structure EdR (n₀ : Nat) (w : World) (n : Nat) (F : Nat → Nat → Int) (Bl lb k : Nat) (cs : Array Value) (W : World) : Prop where
  box : W.heap[Bl]? = some (.cells #[.slice (some ⟨lb, 0, none⟩) n n] 110 (0, 0))
  row : W.heap[lb]? = some (.cells cs 86 (0, 0))
  size : cs.size = n
  done : ∀ a, a < k → ∃ u, cs[a]? = some u ∧ IsSeq W u n₀ (lateD n F a) ∧ NewSeq w.heap.size u
  below : Below w.heap.size w W
theorem EdR.on {n₀ : Nat} {w : World} {n : Nat} {F : Nat → Nat → Int} {Bl lb k : Nat} {cs : Array Value} {W W' : World} (h : EdR n₀ w n F Bl lb k cs W) (hb : Below W.heap.size W W') : EdR n₀ w n F Bl lb k cs W' :=
  ⟨heap_below h.box hb (heap_lt h.box), heap_below h.row hb (heap_lt h.row), h.size, fun a ha => by obtain ⟨u, h1, h2, h3⟩ := h.done a ha; exact ⟨u, h1, h2.below hb, h3⟩, h.below.trans (hb.mono h.below.size)⟩
theorem EdR.set {n₀ : Nat} {w : World} {n : Nat} {F : Nat → Nat → Int} {Bl lb k : Nat} {cs : Array Value} {W : World} {u : Value} (h : EdR n₀ w n F Bl lb k cs W) (hk : k < n) (hu : IsSeq W u n₀ (lateD n F k)) (hv : NewSeq w.heap.size u) (hl : n₀ ≤ lb) (hw : w.heap.size ≤ lb) : EdR n₀ w n F Bl lb (k + 1) (cs.setIfInBounds k u) (W.setCell ⟨lb, k, none⟩ u) := by
  have ht := Turned.set W lb k u
  refine ⟨heap_other h.box (fun e => ?_) _ _, heap_set h.row k u, by simp [h.size], fun a ha => ?_, h.below.setCell (p := ⟨lb, k, none⟩) hw _⟩
  · subst e
    have := h.box
    rw [h.row] at this
    cases this
  · by_cases e : a = k
    · subst e
      exact ⟨u, by simp [h.size, hk], hu.turned ht hl h.row, hv⟩
    · obtain ⟨v, h1, h2, h3⟩ := h.done a (by omega)
      exact ⟨v, by rw [Array.getElem?_setIfInBounds_ne (Ne.symm e)]; exact h1, h2.turned ht hl h.row, h3⟩
theorem Try.infoSeq : (Try.prog.info? 86).map (fun i => (i.zero, i.size, i.bytes)) = some (some Value.nilFunc, 1, 8) := by kernel_rfl
theorem madeSeq (w : World) (n : Nat) (hn : n ≤ 4096) :
    (Instr.makeSlice 110 (.int .i64 (n : Int)) (.int .i64 (n : Int))).run Try.prog w = .ok (.slice (some ⟨w.heap.size, 0, none⟩) n n) (w.alloc (.cells (madeCells #[Value.nilFunc] n) 86)) := by
  obtain ⟨i0, hi, hz0, hz1, hz2⟩ := info_parts Try.infoSeq
  have h := run_make (P := Try.prog) w 110 86 i0 _ Try.underlying110 hi hz0 .i64 .i64 n n (by omega) (Int.le_refl _) (by rw [hz2]; omega) (by omega)
  rw [hz1, show (Value.nilFunc).cells = #[Value.nilFunc] from rfl] at h
  simpa using h
/-- A function that hands out all pairs. -/
def IsE (W : World) (v : Value) (n₀ lo n : Nat) (F : Nat → Nat → Int) : Prop :=
  ∃ Bl lb cs, v = .func (.func 67) #[] #[.pointer (some ⟨Bl, 0, none⟩)] ∧ W.heap[Bl]? = some (.cells #[.slice (some ⟨lb, 0, none⟩) n n] 110 (0, 0)) ∧ W.heap[lb]? = some (.cells cs 86 (0, 0)) ∧
    cs.size = n ∧ (∀ a, a < n → ∃ u, cs[a]? = some u ∧ IsSeq W u n₀ (lateD n F a) ∧ NewSeq lo u) ∧ n ≤ 4096 ∧ n₀ ≤ lo ∧ lo ≤ Bl ∧ lo ≤ lb
def EPost (n₀ n : Nat) (F : Nat → Nat → Int) (w : World) (e : Ending) (w' : World) : Prop := ∃ v, e = .returned v ∧ IsE w' v n₀ w.heap.size n F ∧ Below w.heap.size w w'
set_option maxHeartbeats 1000000 in
theorem medges_any {w0 w : World} {g nb : Nat} {ws : List Int} {F : Nat → Nat → Int} (h0 : IsG w0 g nb ws F) (hb : Below w0.heap.size w0 w) :
    Calls Try.prog 48 #[.pointer (some ⟨g, 0, none⟩)] w (EPost w0.heap.size ws.length F w) := by
  have h := h0.below hb
  have HLn := Lib.hid (glen_any h)
  have hsm := h.small
  have hz := hb.size
  have HF : Hid (∀ k, k < ws.length → ∀ W, Below w0.heap.size w0 W → Calls Try.prog 66 #[.pointer (some ⟨nb, k, none⟩), .int .i64 ((k : Int) + 1)] W (SeqPost w0.heap.size (lateD ws.length F k) W)) := Lib.hid (fun k hk W hW => by
    have := mfrom_any ((k : Int) + 1) (h0.map k hk) hW (Nat.le_trans (rowOf_length _ _) (by omega))
    rw [drop_rowOf] at this
    exact this)
  obtain ⟨wa, wc, wb, h1, h2⟩ := h.box
  have H1 := Lib.hid h1
  have HB := Lib.hid hb
  clear h h0 h1 h2 hb
  generalize ws.length = n at *
  have hmk := fun W => madeSeq W n hsm
  go_enter Try.func48, Try.ntmps48
  go_wp2_with fail
  refine HLn.out.mono ?_
  rintro e _ ⟨rfl, rfl⟩
  go_wp2
  go_loopw [10] (fun i wr => ∃ (k : Nat) (cs : Array Value), i = .int .i64 k ∧ k ≤ n ∧ Hid (EdR w0.heap.size w n F (w.heap.size + 1) w.heap.size k cs wr)) (fun i _ => n - (intOf i).toNat)
  case atStart =>
    exact ⟨0, madeCells #[Value.nilFunc] n, rfl, Nat.zero_le _, Lib.hid ⟨heap_new _ (by simp), heap_alloc (heap_new _ rfl) _, by simp [size_madeCells], fun a ha => absurd ha (Nat.not_lt_zero _), ((Below.refl _ w).alloc (Nat.le_refl _) _).alloc (by simp) _⟩⟩
  case round =>
    obtain ⟨k, cs, rfl, hk, hR⟩ := hrel
    have c3 : wr.cell? ⟨w.heap.size + 1, 0, none⟩ = some (.slice (some ⟨w.heap.size, 0, none⟩) n n) := heap_cell hR.out.box rfl
    have hzr := hR.out.below.size
    by_cases hlt : k < n
    · have hki : (k : Int) < (n : Int) := by omega
      have hk0 : (0 : Int) ≤ (k : Int) := by omega
      have c1 : wr.cell? ⟨g, 1, none⟩ = some (.slice (some ⟨nb, 0, none⟩) n n) := heap_cell (heap_below H1.out hR.out.below (heap_lt H1.out)) rfl
      have HC := Lib.hid (fun W (hW : Below wr.heap.size wr W) => HF.out k hlt W (HB.out.trans ((hR.out.below.trans (hW.mono hzr)).mono hz)))
      have HL := Lib.hid hlt
      obtain ⟨x0, hx0⟩ : ∃ x0, cs[k]? = some x0 := ⟨cs[k]'(by rw [hR.out.size]; exact hlt), Array.getElem?_eq_getElem _⟩
      have HX := Lib.hid hx0
      clear hx0
      go_wp2
      have hgl := heap_lt H1.out
      have hS1 : ∀ W, Turned (fun c => c = w.heap.size) wr W → W.cell? ⟨w.heap.size + 1, 0, none⟩ = some (.slice (some ⟨w.heap.size, 0, none⟩) n n) := fun W hW => heap_cell (hW.old hR.out.box (by omega)) rfl
      have hS2 : ∀ W, Turned (fun c => c = w.heap.size) wr W → W.cell? ⟨g, 1, none⟩ = some (.slice (some ⟨nb, 0, none⟩) n n) := fun W hW => heap_cell (hW.old (heap_below H1.out hR.out.below (heap_lt H1.out)) (by omega)) rfl
      have hk1 : IntKind.i64.wrap ((k : Int) + 1) = (k : Int) + 1 := IntWalk.i64_in _ (by omega)
      have hk2 : ((k : Int)).toNat = k := by omega
      go_region_held3 (fun W => Turned (fun c => c = w.heap.size) wr W) (first | exact Turned.refl _ _ | exact Turned.drewN _ _ 1 | exact HT1.out | exact HT1.out.trans (Turned.drewN _ _ 1) | exact HT1.out.trans (Turned.set _ _ _ _) | exact (HT1.out.trans (Turned.set _ _ _ _)).trans (Turned.drewN _ _ 1)) (first
        | (go_at_call 66; refine (HC.out _ (by first | exact Below.refl _ _ | exact (Below.refl _ _).drew)).mono ?_; rintro e w1 ⟨v, rfl, hsq, hB1, hnw⟩; have hB2 : Below wr.heap.size wr w1 := (by first | exact hB1 | exact ((Below.refl _ wr).drew).trans hB1); have HR2 := Lib.hid (hR.out.on hB2); have HQ := Lib.hid hsq; have HV := Lib.hid (show NewSeq w.heap.size v from hnw.mono hzr); obtain ⟨lq, rfl⟩ := hsq.form; have HT1 := Lib.hid ((turned_of_below hB2).weak (R' := fun c => c = w.heap.size) (fun _ _ e => e.elim)); have f1 : w1.frozen? ⟨w.heap.size, k, none⟩ = false := heap_frozen HR2.out.row k; have d4 : w1.cell? ⟨w.heap.size, k, none⟩ = some x0 := heap_cell HR2.out.row HX.out; clear hsq hB1 hB2 hnw))
      all_goals
        have HR3 := Lib.hid (HR2.out.set HL.out HQ.out HV.out hz (Nat.le_refl _))
        clear HR2 HQ d4 f1 hS1 hS2 hk1 hk2
        go_wp2
        go_roundw
        case rel => exact ⟨k + 1, _, by go_num, by omega, by first | exact HR3 | exact Lib.hid (HR3.out.on ((Below.refl _ _).drew))⟩
        case measure => simp [intOf]; omega
    · obtain rfl : k = n := by omega
      have HE := Lib.hid (show EPost w0.heap.size k F w (.returned (.func (.func 67) #[] #[.pointer (some ⟨w.heap.size + 1, 0, none⟩)])) wr from ⟨_, rfl, ⟨_, _, cs, rfl, hR.out.box, hR.out.row, hR.out.size, hR.out.done, hsm, hz, Nat.le_succ _, Nat.le_refl _⟩, hR.out.below⟩)
      clear hR
      go_wp2
      go_ret
      exact HE.out
end Go.Proofs.Ytjpgkocffceeoaa
