/- General: a range over a function that lays new blocks between two rounds, and keeps a few of them; a round keeps those. No program in this text. -/
import Derived.Test.YtnkhpmpoemodiaaRg
import Derived.Test.YtnkhpmpoemodiaaEa
set_option linter.unusedVariables false
set_option linter.unusedSectionVars false
namespace Go.Proofs.Ytnkhpmpoemodiaa
open Go.RowKit

theorem below_put {A0 A : World} (h : Below A0.heap.size A0 A) {k : Nat} (hk : k < A0.heap.size) (o : Obj) : Below (A0.putObj k o).heap.size (A0.putObj k o) (A.putObj k o) :=
  ⟨h.os, h.tape, h.output, by simpa using h.size, fun j hj => by
    have hj' : j < A0.heap.size := by simpa using hj
    have hs := h.size
    by_cases e : j = k
    · subst e
      rw [World.putObj_heap_same hk, World.putObj_heap_same (by omega)]
    · rw [World.putObj_heap_other e, World.putObj_heap_other e]
      exact h.block j hj'⟩
/-- An iterator that hands out D and lays new blocks before each; a round keeps what lies below n₀, from lo to up, and what was laid since the round ahead. -/
def SeqF {α : Type} (F : Fence) (n : Nat) (P : Program) (g : Nat) (lb : Array Value) (encs : α → Array Value) (n₀ lo up : Nat) (D : List α) (w : World) : Prop :=
  ∀ (l : Nat) (J Jx : List α → World → Prop) (W : World), Below w.heap.size w W →
    (∀ pre x A0 A, J pre A0 → Below A0.heap.size A0 A → pre ++ [x] <+: D → YieldAt F (n - 1) P l (encs x) A fun e B => (Below n₀ A B ∧ Mid lo up A B ∧ Mid A0.heap.size A.heap.size A B) ∧ ((e = .returned (.bool true) ∧ J (pre ++ [x]) B) ∨ (e = .returned (.bool false) ∧ Jx (pre ++ [x]) B))) →
    J [] W →
    CallsIn F n P g (#[.func (.yield l) #[] #[]] ++ lb) W fun e B => (∃ v, e = .returned v) ∧ ∃ B0, Below B0.heap.size B0 B ∧ (J D B0 ∨ (∃ pre, pre <+: D ∧ Jx pre B0))

variable {F : Fence} {n : Nat} {P : Program}
theorem wpIn_rangeFunc_seqF {α : Type} {g : Operand} {ps : Array Tmp} {assign body : Code} {Q : Exit → Act → World → Prop} {a : Act} {w : World}
    (hro : F.round = none) (h1 : 1 ≤ n) {gf : Nat} {lb : Array Value} (hg : a.eval g = .func (.func gf) #[] lb) (hFg : F.fn gf) (eg : ∀ args w, (callFunc gf args).run P w = .ok (.enter gf args) w)
    {encs : α → Array Value} {n₀ lo up : Nat} {D : List α} {w0 : World} (hseq : SeqF F (n - 1) P gf lb encs n₀ lo up D w0)
    (hn0 : n₀ ≤ w.heap.size) (hup : up ≤ w.heap.size)
    (hb0 : Below w0.heap.size w0 w) (hps : ∀ x, (encs x).size = ps.size)
    (I : List α → World → Prop) (Ix : Code → List α → World → Prop) (hI : OwnFrom w.heap.size I) (hIx : ∀ c, OwnFrom w.heap.size (Ix c)) (h0 : I [] w) (Ax : α → Act → World → Prop)
    (hAx : ∀ (x : α) (a' : Act) (A : World) (l : Nat) (o o' : Obj), Ax x a' A → w.heap.size ≤ l → A.heap[l]? = some o → o.isCells = false → Ax x a' (A.putObj l o'))
    (hassign : ∀ (l : Nat) (pre : List α) (x : α) (A0 A : World) (K : Act → World → Prop), I pre A0 → Below A0.heap.size A0 A → (∀ a' B, Below A.heap.size A B → Ax x a' B → K a' B) →
      assign.wpIn (F.inRound l) (n - 1 - 1) P (Exit.then K (fun _ _ _ => False)) { tmps := (ps.zip (encs x)).foldl (fun t (p, v) => t.setIfInBounds p v) a.tmps, defers := [] } A)
    (hbody : ∀ (l u : Nat) (pre : List α) (x : α) (a' : Act) (A0 W : World), I pre A0 → w.heap.size + 2 ≤ A0.heap.size → Below A0.heap.size A0 W → A0.heap.size ≤ u → u ≤ W.heap.size → Ax x a' W → pre ++ [x] <+: D → body.wpIn (F.inRound l) (n - 1 - 1) P (turnPost w.heap.size (fun A B => Below n₀ A B ∧ Mid lo up A B ∧ Mid A0.heap.size u A B) I Ix (pre ++ [x]) W) a' W)
    (hdone : ∀ (C : Nat) (W0 W : World), w.heap.size ≤ C → I D W0 → Below W0.heap.size W0 W → W.heap[C]? = some (.deferred (some [])) → Q .normal { a with defers := { target := .collected C, args := #[] } :: a.defers } W)
    (hstop : ∀ (C : Nat) (c : Code) (pre : List α) (W0 W : World), w.heap.size ≤ C → pre <+: D → Ix c pre W0 → Below W0.heap.size W0 W → W.heap[C]? = some (.deferred (some [])) → c.wpIn F n P Q { a with defers := { target := .collected C, args := #[] } :: a.defers } W) :
    (Code.rangeFunc g ps assign body).wpIn F n P Q a w := by
  refine wpIn_rangeFunc fun fn hfn => ?_
  rw [hro]
  let rec0 : Loop := { state := .ready, pending := none, fn, tmps := a.tmps, params := ps, assign, body, defers := w.heap.size }
  have hstart : Laid w.heap.size rec0 ((w.alloc (.deferred (some []))).alloc (.loop rec0)) :=
    ⟨heap_alloc (heap_new _ rfl) _, heap_new _ (by simp)⟩
  have hI1 : I [] ((w.alloc (.deferred (some []))).alloc (.loop rec0)) := hI.alloc _ (hI.alloc _ h0)
  have hb1 : Below w0.heap.size w0 ((w.alloc (.deferred (some []))).alloc (.loop rec0)) := hb0.trans ((((Below.refl _ w).alloc (Nat.le_refl _) _).alloc (by simp) _).mono hb0.size)
  have hent := run_enterLoop_outer (P := P) (w := w) fn a.tmps ps assign body
  generalize (w.alloc (.deferred (some []))).alloc (.loop rec0) = W1 at *
  refine ⟨w.heap.size + 1, _, W1, { target := .fn (.func gf) lb, args := #[.func (.yield (w.heap.size + 1)) #[] #[]] }, W1, gf, #[.func (.yield (w.heap.size + 1)) #[] #[]] ++ lb, W1, hent, ?_, ?_, ?_, fun _ => h1, ?_⟩
  · simp only [resolve, hg]
    simp [go_sem]
  · intro f' hf'
    simp [Target.leads] at hf'
    subst hf'
    exact hFg
  · simp [invoke, go_sem, eg]
  · refine (hseq (w.heap.size + 1) (fun pre W => I pre W ∧ Laid w.heap.size rec0 W) (fun pre W => ∃ c, Ix c pre W ∧ Laid w.heap.size { rec0 with state := .done, pending := some c } W) W1 hb1
      ?_ ⟨hI1, hstart⟩).mono ?_
    · -- one round
      rintro pre x A0 A1 ⟨hi0, hl0⟩ hbA hN
      have hz0 := heap_lt hl0.record
      have hz1 := hbA.size
      have hl1 : Laid w.heap.size rec0 A1 := ⟨heap_below hl0.defers hbA (heap_lt hl0.defers), heap_below hl0.record hbA hz0⟩
      refine ⟨fn, _, assign, body, run_yield (P := P) (args := encs x) hl1.record (hps x), roundIn_of_wpIn hfn (hassign _ pre x A0 A1 _ hi0 hbA fun a' A hk0 hax => ?_)⟩
      have hz2 := hk0.size
      have hl : Laid w.heap.size rec0 A := ⟨heap_below hl1.defers hk0 (heap_lt hl1.defers), heap_below hl1.record hk0 (heap_lt hl1.record)⟩
      refine ⟨_, run_beginRound hl.record rfl, ?_⟩
      have hl2 := hl.put { rec0 with state := .busy }
      have hi2 := hI.putObj (.loop { rec0 with state := .busy }) hi0 (by omega) hl0.record rfl
      have hb2 := below_put (hbA.trans (hk0.mono hz1)) hz0 (.loop { rec0 with state := .busy })
      have ha2 := hAx x a' A _ _ (.loop { rec0 with state := .busy }) hax (Nat.le_succ _) hl.record rfl
      have hbody2 := hbody (w.heap.size + 1) A1.heap.size pre x a' _ _ hi2 (by simp; omega) hb2 (by simpa using hz1) (by simpa using hz2) ha2 hN
      have hzz : (A0.putObj (w.heap.size + 1) (.loop { rec0 with state := .busy })).heap.size = A0.heap.size := by simp
      rw [hzz] at hbody2
      refine wpIn_mono hbody2 ?_
      have leave : ∀ (jump : Option Code) (B : World), KeepsFrom w.heap.size (A.putObj (w.heap.size + 1) (.loop { rec0 with state := .busy })) B → (Below n₀ (A.putObj (w.heap.size + 1) (.loop { rec0 with state := .busy })) B ∧ Mid lo up (A.putObj (w.heap.size + 1) (.loop { rec0 with state := .busy })) B ∧ Mid A0.heap.size A1.heap.size (A.putObj (w.heap.size + 1) (.loop { rec0 with state := .busy })) B) →
          (Instr.endRound (w.heap.size + 1) jump).run P B = .ok (.bool jump.isNone) (B.putObj (w.heap.size + 1) (.loop { rec0 with state := if jump.isNone then .ready else .done, pending := jump })) ∧
          Laid w.heap.size { rec0 with state := .busy } B ∧ (Below n₀ A1 (B.putObj (w.heap.size + 1) (.loop { rec0 with state := if jump.isNone then .ready else .done, pending := jump })) ∧ Mid lo up A1 (B.putObj (w.heap.size + 1) (.loop { rec0 with state := if jump.isNone then .ready else .done, pending := jump })) ∧ Mid A0.heap.size A1.heap.size A1 (B.putObj (w.heap.size + 1) (.loop { rec0 with state := if jump.isNone then .ready else .done, pending := jump }))) := by
        intro jump B hk hkp
        have hl3 := hl2.keeps hk
        have h5 := run_endRound (P := P) jump hl3.record
        have q1 : Below n₀ A1 (A.putObj (w.heap.size + 1) (.loop { rec0 with state := .busy })) := (hk0.mono (by omega)).trans ((Below.refl n₀ A).grown (grownBy_putObj' A _ _) (by omega) (fun k e => by cases e; omega))
        have q2 : Mid lo up A1 (A.putObj (w.heap.size + 1) (.loop { rec0 with state := .busy })) := (Mid.of_below hk0 (by omega)).trans (Mid.put A _ _ (by omega))
        have q3 : Mid A0.heap.size A1.heap.size A1 (A.putObj (w.heap.size + 1) (.loop { rec0 with state := .busy })) := (Mid.of_below hk0 (Nat.le_refl _)).trans ⟨by simp, fun k h1 _ => World.putObj_heap_other (by omega)⟩
        have hzB := heap_lt hl3.record
        exact ⟨h5, hl3, (q1.trans hkp.1).grown (grownBy_putObj' B _ _) (by omega) (fun k e => by cases e; omega), (q2.trans hkp.2.1).trans (Mid.put B _ _ (by omega)), (q3.trans hkp.2.2).trans ⟨by simp, fun k h1 _ => World.putObj_heap_other (by omega)⟩⟩
      rintro e a3 B hp
      cases e with
      | normal =>
        obtain ⟨hk, hkp, hi3⟩ := hp
        obtain ⟨h5, h6, h7⟩ := leave none B hk hkp
        exact ⟨_, _, h5, h7, .inl ⟨rfl, hI.putObj _ hi3 (by omega) h6.record rfl, h6.put rec0⟩⟩
      | ret =>
        obtain ⟨hk, hkp, hi3⟩ := hp
        obtain ⟨h5, h6, h7⟩ := leave (some .ret) B hk hkp
        exact ⟨_, _, h5, h7, .inr ⟨rfl, .ret, (hIx _).putObj _ hi3 (by omega) h6.record rfl, h6.put _⟩⟩
      | exit id =>
        obtain ⟨hk, hkp, hi3⟩ := hp
        obtain ⟨h5, h6, h7⟩ := leave (some (.exit id)) B hk hkp
        exact ⟨_, _, h5, h7, .inr ⟨rfl, .exit id, (hIx _).putObj _ hi3 (by omega) h6.record rfl, h6.put _⟩⟩
      | goto t =>
        obtain ⟨hk, hkp, hi3⟩ := hp
        obtain ⟨h5, h6, h7⟩ := leave (some (.goto t)) B hk hkp
        exact ⟨_, _, h5, h7, .inr ⟨rfl, .goto t, (hIx _).putObj _ hi3 (by omega) h6.record rfl, h6.put _⟩⟩
      | panic ch => exact hp.elim
      | outgrown => exact hp.elim
    · -- behind the iterator
      rintro e B ⟨⟨v, rfl⟩, B0, hb, (⟨h3, h4⟩ | ⟨pre, h2, c, h3, h4⟩)⟩
      · have h5 : Laid w.heap.size rec0 B := ⟨heap_below h4.defers hb (heap_lt h4.defers), heap_below h4.record hb (heap_lt h4.record)⟩
        exact ⟨none, _, run_endLoop (P := P) h5.record (by simp [rec0]), hdone _ _ _ (Nat.le_refl _) (hI.putObj _ h3 (by omega) h4.record rfl) (below_put hb (heap_lt h4.record) _) (h5.put _).defers⟩
      · have h5 : Laid w.heap.size { rec0 with state := .done, pending := some c } B := ⟨heap_below h4.defers hb (heap_lt h4.defers), heap_below h4.record hb (heap_lt h4.record)⟩
        exact ⟨some c, _, run_endLoop (P := P) h5.record (by simp), hstop _ c pre _ _ (Nat.le_refl _) h2 ((hIx c).putObj _ h3 (by omega) h4.record rfl) (below_put hb (heap_lt h4.record) _) (h5.put _).defers⟩
end Go.Proofs.Ytnkhpmpoemodiaa
