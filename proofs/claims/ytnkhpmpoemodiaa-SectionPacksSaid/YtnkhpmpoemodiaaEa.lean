/- General: a range over a function that ranges over others itself: it lays blocks, and turns those of its own that are no cells. No program in this text. -/
import Derived.Test.YtnkhpmpoemodiaaRg
set_option linter.unusedVariables false
set_option linter.unusedSectionVars false
namespace Go.Proofs.Ytnkhpmpoemodiaa
open Go.RowKit

/-- What lies from hi on and is no row of E stays. -/
structure KeepsT (E : TypeId) (hi : Nat) (A B : World) : Prop where
  size : A.heap.size ≤ B.heap.size
  same : ∀ k o, hi ≤ k → A.heap[k]? = some o → (∀ cs fr, o ≠ .cells cs E fr) → B.heap[k]? = some o
theorem KeepsT.refl (E : TypeId) (hi : Nat) (A : World) : KeepsT E hi A A := ⟨Nat.le_refl _, fun _ _ _ h _ => h⟩
theorem KeepsT.trans {E : TypeId} {hi : Nat} {A B C : World} (h : KeepsT E hi A B) (k : KeepsT E hi B C) : KeepsT E hi A C := ⟨Nat.le_trans h.size k.size, fun i o h1 h2 h3 => k.same i o h1 (h.same i o h1 h2 h3) h3⟩
theorem KeepsT.mono {E : TypeId} {hi hi' : Nat} {A B : World} (h : KeepsT E hi A B) (hh : hi ≤ hi') : KeepsT E hi' A B := ⟨h.size, fun i o h1 h2 h3 => h.same i o (Nat.le_trans hh h1) h2 h3⟩
theorem KeepsT.grown {E : TypeId} {hi : Nat} {A B : World} {row : Option Nat} (hg : A.grownBy B row) (hr : ∀ r, row = some r → r < hi ∨ ∃ cs fr, A.heap[r]? = some (.cells cs E fr)) : KeepsT E hi A B :=
  ⟨hg.size, fun k o h1 h2 h3 => (hg.block k (heap_lt h2) (fun e => by
    rcases hr k e.symm with h | ⟨cs, fr, h⟩
    · omega
    · rw [h] at h2; cases h2; exact h3 _ _ rfl)).trans h2⟩
theorem KeepsT.set {E : TypeId} {hi : Nat} (A : World) (b i : Nat) (v : Value) (h : b < hi) : KeepsT E hi A (A.setCell ⟨b, i, none⟩ v) := .grown (grown_set A b i v) (fun r e => by cases e; exact .inl h)
theorem KeepsT.alloc (E : TypeId) (hi : Nat) (A : World) (o : Obj) : KeepsT E hi A (A.alloc o) := .grown (World.grownBy_alloc A o none) (fun r e => by cases e)
theorem KeepsT.put {E : TypeId} {hi : Nat} (A : World) (l : Nat) (o : Obj) (h : l < hi) : KeepsT E hi A (A.putObj l o) := .grown (grownBy_putObj' A l o) (fun r e => by cases e; exact .inl h)
theorem KeepsT.drew (E : TypeId) (hi : Nat) (A : World) : KeepsT E hi A A.drew := ⟨Nat.le_refl _, fun _ _ _ h _ => h⟩
/-- What is no cells is no row. -/
theorem KeepsT.from {E : TypeId} {hi : Nat} {A B : World} (h : KeepsT E hi A B) {b : Nat} (hb : hi ≤ b) : KeepsFrom b A B :=
  ⟨h.size, fun k o h1 h2 h3 => h.same k o (Nat.le_trans hb h1) h2 (fun cs fr e => by subst e; simp [Obj.isCells] at h3)⟩

theorem Mid.put {lo hi : Nat} (A : World) (l : Nat) (o : Obj) (h : hi ≤ l) : Mid lo hi A (A.putObj l o) := ⟨by simp, fun k _ h2 => World.putObj_heap_other (by omega)⟩
theorem Mid.set {lo hi : Nat} (A : World) (b i : Nat) (v : Value) (h : b < lo ∨ hi ≤ b) : Mid lo hi A (A.setCell ⟨b, i, none⟩ v) := ⟨by simp [World.setCell], fun k _ h2 => Below.heap_setCell _ _ _ _ (by show k ≠ b; omega)⟩
theorem Mid.alloc (lo hi : Nat) (A : World) (o : Obj) (h : hi ≤ A.heap.size) : Mid lo hi A (A.alloc o) := ⟨by simp, fun k _ h2 => Below.heap_alloc _ _ _ (by omega)⟩
theorem Mid.grown {lo hi : Nat} {A B : World} {row : Option Nat} (hg : A.grownBy B row) (hs : hi ≤ A.heap.size) (hr : ∀ r, row = some r → r < lo ∨ hi ≤ r) : Mid lo hi A B := ⟨hg.size, fun k h1 h2 => hg.block k (by omega) (fun e => by have := hr k e.symm; omega)⟩

/-- An iterator that hands out S, lays blocks, and turns those that are no cells; a round keeps what lies below n0, and of the rest what is no row of E. -/
def SeqN {α : Type} (F : Fence) (n : Nat) (P : Program) (g : Nat) (lb : Array Value) (encs : α → Array Value) (n₀ lo up : Nat) (E : TypeId) (S Sp : List α → Prop) (N : Nat) (w : World) : Prop :=
  ∀ (l : Nat) (J Jx : List α → World → Prop) (W : World), Below w.heap.size w W → OwnFrom W.heap.size J → OwnFrom W.heap.size Jx →
    (∀ pre x A, J pre A → pre.length < N → YieldAt F (n - 1) P l (encs x) A fun e B => (Below n₀ A B ∧ Mid lo up A B ∧ KeepsT E W.heap.size A B) ∧ ((e = .returned (.bool true) ∧ J (pre ++ [x]) B) ∨ (e = .returned (.bool false) ∧ Jx (pre ++ [x]) B))) →
    J [] W → CallsIn F n P g (#[.func (.yield l) #[] #[]] ++ lb) W fun e B => (∃ v, e = .returned v) ∧ ((∃ xs, S xs ∧ J xs B) ∨ (∃ pre, Sp pre ∧ Jx pre B))
theorem laid_own {b : Nat} {r : Loop} {A B : World} {B0 : Nat} {row : Option Nat} (h : Laid b r A) (hg : A.grownBy B row) (hB : b + 2 ≤ B0) (hr : ∀ r, row = some r → B0 ≤ r ∧ ∃ o : Obj, A.heap[r]? = some o ∧ o.isCells = false) : Laid b r B :=
  ⟨(hg.block b (heap_lt h.defers) (fun e => by have := (hr b e.symm).1; omega)).trans h.defers, (hg.block (b + 1) (heap_lt h.record) (fun e => by have := (hr (b + 1) e.symm).1; omega)).trans h.record⟩

variable {F : Fence} {n : Nat} {P : Program}
theorem wpIn_rangeFunc_seqN {α : Type} {g : Operand} {ps : Array Tmp} {assign body : Code} {Q : Exit → Act → World → Prop} {a : Act} {w : World}
    (hro : F.round = none) (h1 : 1 ≤ n) {gf : Nat} {lb : Array Value} (hg : a.eval g = .func (.func gf) #[] lb) (hFg : F.fn gf) (eg : ∀ args w, (callFunc gf args).run P w = .ok (.enter gf args) w)
    {encs : α → Array Value} {n₀ lo up : Nat} {E : TypeId} {S Sp : List α → Prop} {N : Nat} {w0 : World} (hseq : SeqN F (n - 1) P gf lb encs n₀ lo up E S Sp N w0)
    (hn0 : n₀ ≤ w.heap.size) (hup : up ≤ w.heap.size)
    (hb0 : Below w0.heap.size w0 w) (hps : ∀ x, (encs x).size = ps.size)
    (I : List α → World → Prop) (Ix : Code → List α → World → Prop) (hI : OwnFrom w.heap.size I) (hIx : ∀ c, OwnFrom w.heap.size (Ix c)) (h0 : I [] w) (Ax : α → Act → World → Prop)
    (hAx : ∀ (x : α) (a' : Act) (A : World) (l : Nat) (o o' : Obj), Ax x a' A → w.heap.size ≤ l → A.heap[l]? = some o → o.isCells = false → Ax x a' (A.putObj l o'))
    (hassign : ∀ (l : Nat) (pre : List α) (x : α) (W : World) (K : Act → World → Prop), I pre W → (∀ a' B, KeepsFrom w.heap.size W B → (Below n₀ W B ∧ Mid lo up W B ∧ KeepsT E w.heap.size W B) → I pre B → Ax x a' B → K a' B) →
      assign.wpIn (F.inRound l) (n - 1 - 1) P (Exit.then K (fun _ _ _ => False)) { tmps := (ps.zip (encs x)).foldl (fun t (p, v) => t.setIfInBounds p v) a.tmps, defers := [] } W)
    (hbody : ∀ (l : Nat) (pre : List α) (x : α) (a' : Act) (W : World), I pre W → Ax x a' W → pre.length < N → body.wpIn (F.inRound l) (n - 1 - 1) P (turnPost w.heap.size (fun A B => Below n₀ A B ∧ Mid lo up A B ∧ KeepsT E w.heap.size A B) I Ix (pre ++ [x]) W) a' W)
    (hdone : ∀ (D : Nat) (xs : List α) (W : World), w.heap.size ≤ D → S xs → I xs W → W.heap[D]? = some (.deferred (some [])) → Q .normal { a with defers := { target := .collected D, args := #[] } :: a.defers } W)
    (hstop : ∀ (D : Nat) (c : Code) (pre : List α) (W : World), w.heap.size ≤ D → Sp pre → Ix c pre W → W.heap[D]? = some (.deferred (some [])) → c.wpIn F n P Q { a with defers := { target := .collected D, args := #[] } :: a.defers } W) :
    (Code.rangeFunc g ps assign body).wpIn F n P Q a w := by
  refine wpIn_rangeFunc fun fn hfn => ?_
  rw [hro]
  let rec0 : Loop := { state := .ready, pending := none, fn, tmps := a.tmps, params := ps, assign, body, defers := w.heap.size }
  have hstart : Laid w.heap.size rec0 ((w.alloc (.deferred (some []))).alloc (.loop rec0)) :=
    ⟨heap_alloc (heap_new _ rfl) _, heap_new _ (by simp)⟩
  have hI1 : I [] ((w.alloc (.deferred (some []))).alloc (.loop rec0)) := hI.alloc _ (hI.alloc _ h0)
  have hb1 : Below w0.heap.size w0 ((w.alloc (.deferred (some []))).alloc (.loop rec0)) := hb0.trans ((((Below.refl _ w).alloc (Nat.le_refl _) _).alloc (by simp) _).mono hb0.size)
  have hent := run_enterLoop_outer (P := P) (w := w) fn a.tmps ps assign body
  have hz1 : ((w.alloc (.deferred (some []))).alloc (.loop rec0)).heap.size = w.heap.size + 2 := by simp
  generalize (w.alloc (.deferred (some []))).alloc (.loop rec0) = W1 at *
  refine ⟨w.heap.size + 1, _, W1, { target := .fn (.func gf) lb, args := #[.func (.yield (w.heap.size + 1)) #[] #[]] }, W1, gf, #[.func (.yield (w.heap.size + 1)) #[] #[]] ++ lb, W1, hent, ?_, ?_, ?_, fun _ => h1, ?_⟩
  · simp only [resolve, hg]
    simp [go_sem]
  · intro f' hf'
    simp [Target.leads] at hf'
    subst hf'
    exact hFg
  · simp [invoke, go_sem, eg]
  · refine (hseq (w.heap.size + 1) (fun pre W => I pre W ∧ Laid w.heap.size rec0 W) (fun pre W => ∃ c, Ix c pre W ∧ Laid w.heap.size { rec0 with state := .done, pending := some c } W) W1 hb1
      (fun s A B row hs hg' hr => ⟨hI s A B row hs.1 hg' (fun r e => ⟨by have := (hr r e).1; omega, (hr r e).2⟩), laid_own hs.2 hg' (Nat.le_refl _) (fun r e => ⟨by have := (hr r e).1; omega, (hr r e).2⟩)⟩)
      (fun s A B row hs hg' hr => by obtain ⟨c, h1, h2⟩ := hs; exact ⟨c, hIx c s A B row h1 hg' (fun r e => ⟨by have := (hr r e).1; omega, (hr r e).2⟩), laid_own h2 hg' (Nat.le_refl _) (fun r e => ⟨by have := (hr r e).1; omega, (hr r e).2⟩)⟩) ?_ ⟨hI1, hstart⟩).mono ?_
    · -- one round
      rintro pre x A0 ⟨hi0, hl0⟩ hN
      refine ⟨fn, _, assign, body, run_yield (P := P) (args := encs x) hl0.record (hps x), roundIn_of_wpIn hfn (hassign _ pre x A0 _ hi0 fun a' A hk0 hkp0 hi hax => ?_)⟩
      have hl := hl0.keeps hk0
      refine ⟨_, run_beginRound hl.record rfl, ?_⟩
      have hl2 := hl.put { rec0 with state := .busy }
      have hKb : ∀ (A B : World) (o' : Obj), w.heap.size + 1 < B.heap.size → (Below n₀ A B ∧ Mid lo up A B ∧ KeepsT E W1.heap.size A B) → Below n₀ A (B.putObj (w.heap.size + 1) o') ∧ Mid lo up A (B.putObj (w.heap.size + 1) o') ∧ KeepsT E W1.heap.size A (B.putObj (w.heap.size + 1) o') := fun A B o' hz h => ⟨h.1.grown (grownBy_putObj' B _ o') (by omega) (fun k e => by cases e; omega), h.2.1.trans (Mid.put B _ o' (by omega)), h.2.2.trans (KeepsT.put B _ o' (by omega))⟩
      have hkp0' : Below n₀ A0 A ∧ Mid lo up A0 A ∧ KeepsT E W1.heap.size A0 A := ⟨hkp0.1, hkp0.2.1, hkp0.2.2.mono (by omega)⟩
      have hk2 := hKb A0 A (.loop { rec0 with state := .busy }) (heap_lt hl.record) hkp0'
      have hi2 := hI.putObj (.loop { rec0 with state := .busy }) hi (by omega) hl.record rfl
      have ha2 := hAx x a' A _ _ (.loop { rec0 with state := .busy }) hax (Nat.le_succ _) hl.record rfl
      refine wpIn_mono (hbody _ pre x a' _ hi2 ha2 hN) ?_
      have leave : ∀ (jump : Option Code) (B : World), KeepsFrom w.heap.size (A.putObj (w.heap.size + 1) (.loop { rec0 with state := .busy })) B → (Below n₀ (A.putObj (w.heap.size + 1) (.loop { rec0 with state := .busy })) B ∧ Mid lo up (A.putObj (w.heap.size + 1) (.loop { rec0 with state := .busy })) B ∧ KeepsT E w.heap.size (A.putObj (w.heap.size + 1) (.loop { rec0 with state := .busy })) B) →
          (Instr.endRound (w.heap.size + 1) jump).run P B = .ok (.bool jump.isNone) (B.putObj (w.heap.size + 1) (.loop { rec0 with state := if jump.isNone then .ready else .done, pending := jump })) ∧
          Laid w.heap.size { rec0 with state := .busy } B ∧ (Below n₀ A0 (B.putObj (w.heap.size + 1) (.loop { rec0 with state := if jump.isNone then .ready else .done, pending := jump })) ∧ Mid lo up A0 (B.putObj (w.heap.size + 1) (.loop { rec0 with state := if jump.isNone then .ready else .done, pending := jump })) ∧ KeepsT E W1.heap.size A0 (B.putObj (w.heap.size + 1) (.loop { rec0 with state := if jump.isNone then .ready else .done, pending := jump }))) := by
        intro jump B hk hkp
        have hl3 := hl2.keeps hk
        have h5 := run_endRound (P := P) jump hl3.record
        exact ⟨h5, hl3, hKb _ _ _ (heap_lt hl3.record) ⟨hk2.1.trans hkp.1, hk2.2.1.trans hkp.2.1, hk2.2.2.trans (hkp.2.2.mono (by omega))⟩⟩
      rintro e a3 B hp
      cases e with
      | normal =>
        obtain ⟨hk, hkp, hi3⟩ := hp
        obtain ⟨h5, h6, h7⟩ := leave none B hk hkp
        exact ⟨_, _, h5, h7, .inl ⟨rfl, hI.putObj _ hi3 (by omega) h6.record rfl, h6.put rec0⟩⟩
      | ret =>
        obtain ⟨hk, hkp, hi3⟩ := hp
        obtain ⟨h5, h6, h7⟩ := leave (some .ret) B hk hkp
        exact ⟨_, _, h5, h7, .inr ⟨rfl, .ret, (hIx _).putObj _ hi3 (by omega) h6.record rfl, h6.put _⟩⟩
      | exit id =>
        obtain ⟨hk, hkp, hi3⟩ := hp
        obtain ⟨h5, h6, h7⟩ := leave (some (.exit id)) B hk hkp
        exact ⟨_, _, h5, h7, .inr ⟨rfl, .exit id, (hIx _).putObj _ hi3 (by omega) h6.record rfl, h6.put _⟩⟩
      | goto t =>
        obtain ⟨hk, hkp, hi3⟩ := hp
        obtain ⟨h5, h6, h7⟩ := leave (some (.goto t)) B hk hkp
        exact ⟨_, _, h5, h7, .inr ⟨rfl, .goto t, (hIx _).putObj _ hi3 (by omega) h6.record rfl, h6.put _⟩⟩
      | panic ch => exact hp.elim
      | outgrown => exact hp.elim
    · -- behind the iterator
      rintro e B ⟨⟨v, rfl⟩, (⟨xs, h2, h3, h4⟩ | ⟨pre, h2, c, h3, h4⟩)⟩
      · exact ⟨none, _, run_endLoop (P := P) h4.record (by simp [rec0]), hdone _ xs _ (Nat.le_refl _) h2 (hI.putObj _ h3 (by omega) h4.record rfl) (h4.put _).defers⟩
      · exact ⟨some c, _, run_endLoop (P := P) h4.record (by simp), hstop _ c pre _ (Nat.le_refl _) h2 ((hIx c).putObj _ h3 (by omega) h4.record rfl) (h4.put _).defers⟩
end Go.Proofs.Ytnkhpmpoemodiaa
