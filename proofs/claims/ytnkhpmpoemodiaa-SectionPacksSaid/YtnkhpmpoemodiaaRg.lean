/- General: a range over a function that turns memory of its own (a heap that it empties) between two rounds. No program in this text. -/
import Derived.Test.YtnkhpmpoemodiaaCol
import Derived.Test.YtnkhpmpoemodiaaHp
set_option linter.unusedVariables false
set_option linter.unusedSectionVars false
namespace Go.Proofs.Ytnkhpmpoemodiaa
open Go.RowKit

/-- Blocks of R may have turned; new ones may be there. -/
structure Turned (R : Nat → Prop) (w w' : World) : Prop where
  os : w'.os = w.os
  tape : w'.tape = w.tape
  output : w'.output = w.output
  size : w.heap.size ≤ w'.heap.size
  block : ∀ k, k < w.heap.size → ¬ R k → w'.heap[k]? = w.heap[k]?
theorem Turned.old {R : Nat → Prop} {w w' : World} (h : Turned R w w') {k : Nat} {o : Obj} (ho : w.heap[k]? = some o) (hn : ¬ R k) : w'.heap[k]? = some o := (h.block k (heap_lt ho) hn).trans ho

/-- What an iterator that turns blocks of R does: S, Sp: what has come, and what the memory is then; Kp: what a round keeps of what the iterator needs. -/
def SeqTurns {α : Type} (F : Fence) (n : Nat) (P : Program) (g : Nat) (lb : Array Value) (encs : α → Array Value) (R : Nat → Prop) (Kp : World → World → Prop) (S Sp : List α → World → Prop) (N : Nat) (w : World) : Prop :=
  ∀ (l : Nat) (J Jx : List α → World → Prop) (W : World), Below w.heap.size w W → (∀ s A B, J s A → Turned R A B → J s B) →
    (∀ pre x A, J pre A → pre.length < N → YieldAt F (n - 1) P l (encs x) A fun e B => Kp A B ∧ ((e = .returned (.bool true) ∧ J (pre ++ [x]) B) ∨ (e = .returned (.bool false) ∧ Jx (pre ++ [x]) B))) →
    J [] W → CallsIn F n P g (#[.func (.yield l) #[] #[]] ++ lb) W fun e B => (∃ v, e = .returned v) ∧ ((∃ xs, S xs B ∧ J xs B) ∨ (∃ pre, Sp pre B ∧ Jx pre B))

/-- How a round may be left. -/
def turnPost {α : Type} (b : Nat) (Kp : World → World → Prop) (I : List α → World → Prop) (Ix : Code → List α → World → Prop) (xs : List α) (A : World) : Exit → Act → World → Prop
  | .normal, _, B => KeepsFrom b A B ∧ Kp A B ∧ I xs B
  | .ret, _, B => KeepsFrom b A B ∧ Kp A B ∧ Ix .ret xs B
  | .exit id, _, B => KeepsFrom b A B ∧ Kp A B ∧ Ix (.exit id) xs B
  | .goto t, _, B => KeepsFrom b A B ∧ Kp A B ∧ Ix (.goto t) xs B
  | .panic _, _, _ => False
  | .outgrown, _, _ => False

/-- What the statement lays, and keeps: the deferred calls' block and the loop's record. -/
structure Laid (b : Nat) (r : Loop) (W : World) : Prop where
  defers : W.heap[b]? = some (.deferred (some []))
  record : W.heap[b + 1]? = some (.loop r)
theorem Laid.turned {b : Nat} {r : Loop} {R : Nat → Prop} {A B : World} (h : Laid b r A) (ht : Turned R A B) (hR : ∀ k, R k → k < b) : Laid b r B :=
  ⟨ht.old h.defers (fun e => by have := hR _ e; omega), ht.old h.record (fun e => by have := hR _ e; omega)⟩
theorem Laid.put {b : Nat} {r : Loop} {A : World} (h : Laid b r A) (r' : Loop) : Laid b r' (A.putObj (b + 1) (.loop r')) :=
  ⟨(World.putObj_heap_other (by omega)).trans h.defers, World.putObj_heap_same (heap_lt h.record)⟩
theorem Laid.keeps {b : Nat} {r : Loop} {A B : World} (h : Laid b r A) (hk : KeepsFrom b A B) : Laid b r B :=
  ⟨hk.same _ _ (Nat.le_refl _) h.defers rfl, hk.same _ _ (by omega) h.record rfl⟩

variable {F : Fence} {n : Nat} {P : Program}
theorem wpIn_rangeFunc_turns {α : Type} {g : Operand} {ps : Array Tmp} {assign body : Code} {Q : Exit → Act → World → Prop} {a : Act} {w : World}
    (hro : F.round = none) (h1 : 1 ≤ n) {gf : Nat} {lb : Array Value} (hg : a.eval g = .func (.func gf) #[] lb) (hFg : F.fn gf) (eg : ∀ args w, (callFunc gf args).run P w = .ok (.enter gf args) w)
    {encs : α → Array Value} {R : Nat → Prop} {Kp : World → World → Prop} {S Sp : List α → World → Prop} {N : Nat} {w0 : World} (hseq : SeqTurns F (n - 1) P gf lb encs R Kp S Sp N w0)
    (hR : ∀ k, R k → k < w.heap.size) (hKt : ∀ {A B C : World}, Kp A B → Kp B C → Kp A C) (hKb : ∀ (A : World) (l : Nat) (o o' : Obj), w.heap.size ≤ l → A.heap[l]? = some o → o.isCells = false → Kp A (A.putObj l o'))
    (hS : ∀ (xs : List α) (A : World) (l : Nat) (o o' : Obj), S xs A → w.heap.size ≤ l → A.heap[l]? = some o → o.isCells = false → S xs (A.putObj l o'))
    (hSp : ∀ (xs : List α) (A : World) (l : Nat) (o o' : Obj), Sp xs A → w.heap.size ≤ l → A.heap[l]? = some o → o.isCells = false → Sp xs (A.putObj l o'))
    (hb0 : Below w0.heap.size w0 w) (hps : ∀ x, (encs x).size = ps.size)
    (I : List α → World → Prop) (Ix : Code → List α → World → Prop) (hI : OwnFrom w.heap.size I) (hIx : ∀ c, OwnFrom w.heap.size (Ix c)) (hIR : ∀ s A B, I s A → Turned R A B → I s B) (h0 : I [] w) (Ax : α → Act → World → Prop)
    (hAx : ∀ (x : α) (a' : Act) (A : World) (l : Nat) (o o' : Obj), Ax x a' A → w.heap.size ≤ l → A.heap[l]? = some o → o.isCells = false → Ax x a' (A.putObj l o'))
    (hassign : ∀ (l : Nat) (pre : List α) (x : α) (W : World) (K : Act → World → Prop), I pre W → (∀ a' B, KeepsFrom w.heap.size W B → Kp W B → I pre B → Ax x a' B → K a' B) →
      assign.wpIn (F.inRound l) (n - 1 - 1) P (Exit.then K (fun _ _ _ => False)) { tmps := (ps.zip (encs x)).foldl (fun t (p, v) => t.setIfInBounds p v) a.tmps, defers := [] } W)
    (hbody : ∀ (l : Nat) (pre : List α) (x : α) (a' : Act) (W : World), I pre W → Ax x a' W → pre.length < N → body.wpIn (F.inRound l) (n - 1 - 1) P (turnPost w.heap.size Kp I Ix (pre ++ [x]) W) a' W)
    (hdone : ∀ (D : Nat) (xs : List α) (W : World), w.heap.size ≤ D → S xs W → I xs W → W.heap[D]? = some (.deferred (some [])) → Q .normal { a with defers := { target := .collected D, args := #[] } :: a.defers } W)
    (hstop : ∀ (D : Nat) (c : Code) (pre : List α) (W : World), w.heap.size ≤ D → Sp pre W → Ix c pre W → W.heap[D]? = some (.deferred (some [])) → c.wpIn F n P Q { a with defers := { target := .collected D, args := #[] } :: a.defers } W) :
    (Code.rangeFunc g ps assign body).wpIn F n P Q a w := by
  refine wpIn_rangeFunc fun fn hfn => ?_
  rw [hro]
  let rec0 : Loop := { state := .ready, pending := none, fn, tmps := a.tmps, params := ps, assign, body, defers := w.heap.size }
  have hstart : Laid w.heap.size rec0 ((w.alloc (.deferred (some []))).alloc (.loop rec0)) :=
    ⟨heap_alloc (heap_new _ rfl) _, heap_new _ (by simp)⟩
  have hI1 : I [] ((w.alloc (.deferred (some []))).alloc (.loop rec0)) := hI.alloc _ (hI.alloc _ h0)
  have hb1 : Below w0.heap.size w0 ((w.alloc (.deferred (some []))).alloc (.loop rec0)) := hb0.trans ((((Below.refl _ w).alloc (Nat.le_refl _) _).alloc (by simp) _).mono hb0.size)
  have hent := run_enterLoop_outer (P := P) (w := w) fn a.tmps ps assign body
  generalize (w.alloc (.deferred (some []))).alloc (.loop rec0) = W1 at *
  refine ⟨w.heap.size + 1, _, W1, { target := .fn (.func gf) lb, args := #[.func (.yield (w.heap.size + 1)) #[] #[]] }, W1, gf, #[.func (.yield (w.heap.size + 1)) #[] #[]] ++ lb, W1, hent, ?_, ?_, ?_, fun _ => h1, ?_⟩
  · simp only [resolve, hg]
    simp [go_sem]
  · intro f' hf'
    simp [Target.leads] at hf'
    subst hf'
    exact hFg
  · simp [invoke, go_sem, eg]
  · refine (hseq (w.heap.size + 1) (fun pre W => I pre W ∧ Laid w.heap.size rec0 W) (fun pre W => ∃ c, Ix c pre W ∧ Laid w.heap.size { rec0 with state := .done, pending := some c } W) W1 hb1
      (fun s A B hs ht => ⟨hIR s A B hs.1 ht, hs.2.turned ht hR⟩) ?_ ⟨hI1, hstart⟩).mono ?_
    · -- one round
      rintro pre x A0 ⟨hi0, hl0⟩ hN
      refine ⟨fn, _, assign, body, run_yield (P := P) (args := encs x) hl0.record (hps x), roundIn_of_wpIn hfn (hassign _ pre x A0 _ hi0 fun a' A hk0 hkp0 hi hax => ?_)⟩
      have hl := hl0.keeps hk0
      refine ⟨_, run_beginRound hl.record rfl, ?_⟩
      have hl2 := hl.put { rec0 with state := .busy }
      have hk2 := hKt hkp0 (hKb A _ _ (.loop { rec0 with state := .busy }) (by omega) hl.record rfl)
      have hi2 := hI.putObj (.loop { rec0 with state := .busy }) hi (by omega) hl.record rfl
      have ha2 := hAx x a' A _ _ (.loop { rec0 with state := .busy }) hax (Nat.le_succ _) hl.record rfl
      refine wpIn_mono (hbody _ pre x a' _ hi2 ha2 hN) ?_
      have leave : ∀ (jump : Option Code) (B : World), KeepsFrom w.heap.size (A.putObj (w.heap.size + 1) (.loop { rec0 with state := .busy })) B → Kp (A.putObj (w.heap.size + 1) (.loop { rec0 with state := .busy })) B →
          (Instr.endRound (w.heap.size + 1) jump).run P B = .ok (.bool jump.isNone) (B.putObj (w.heap.size + 1) (.loop { rec0 with state := if jump.isNone then .ready else .done, pending := jump })) ∧
          Laid w.heap.size { rec0 with state := .busy } B ∧ Kp A0 (B.putObj (w.heap.size + 1) (.loop { rec0 with state := if jump.isNone then .ready else .done, pending := jump })) := by
        intro jump B hk hkp
        have hl3 := hl2.keeps hk
        have h5 := run_endRound (P := P) jump hl3.record
        exact ⟨h5, hl3, hKt (hKt hk2 hkp) (hKb _ _ _ _ (by omega) hl3.record rfl)⟩
      rintro e a3 B hp
      cases e with
      | normal =>
        obtain ⟨hk, hkp, hi3⟩ := hp
        obtain ⟨h5, h6, h7⟩ := leave none B hk hkp
        exact ⟨_, _, h5, h7, .inl ⟨rfl, hI.putObj _ hi3 (by omega) h6.record rfl, h6.put rec0⟩⟩
      | ret =>
        obtain ⟨hk, hkp, hi3⟩ := hp
        obtain ⟨h5, h6, h7⟩ := leave (some .ret) B hk hkp
        exact ⟨_, _, h5, h7, .inr ⟨rfl, .ret, (hIx _).putObj _ hi3 (by omega) h6.record rfl, h6.put _⟩⟩
      | exit id =>
        obtain ⟨hk, hkp, hi3⟩ := hp
        obtain ⟨h5, h6, h7⟩ := leave (some (.exit id)) B hk hkp
        exact ⟨_, _, h5, h7, .inr ⟨rfl, .exit id, (hIx _).putObj _ hi3 (by omega) h6.record rfl, h6.put _⟩⟩
      | goto t =>
        obtain ⟨hk, hkp, hi3⟩ := hp
        obtain ⟨h5, h6, h7⟩ := leave (some (.goto t)) B hk hkp
        exact ⟨_, _, h5, h7, .inr ⟨rfl, .goto t, (hIx _).putObj _ hi3 (by omega) h6.record rfl, h6.put _⟩⟩
      | panic ch => exact hp.elim
      | outgrown => exact hp.elim
    · -- behind the iterator
      rintro e B ⟨⟨v, rfl⟩, (⟨xs, h2, h3, h4⟩ | ⟨pre, h2, c, h3, h4⟩)⟩
      · exact ⟨none, _, run_endLoop (P := P) h4.record (by simp [rec0]), hdone _ xs _ (Nat.le_refl _) (hS xs B _ _ _ h2 (by omega) h4.record rfl) (hI.putObj _ h3 (by omega) h4.record rfl) (h4.put _).defers⟩
      · exact ⟨some c, _, run_endLoop (P := P) h4.record (by simp), hstop _ c pre _ (Nat.le_refl _) (hSp pre B _ _ _ h2 (by omega) h4.record rfl) ((hIx c).putObj _ h3 (by omega) h4.record rfl) (h4.put _).defers⟩
end Go.Proofs.Ytnkhpmpoemodiaa
