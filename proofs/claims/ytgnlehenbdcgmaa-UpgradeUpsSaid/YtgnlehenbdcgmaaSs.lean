/- General: a range over a function that lays and keeps blocks of its own (a set that grows), and hands out things that lie in memory. No program in this text. -/
import Derived.Test.YtgnlehenbdcgmaaSq
set_option linter.unusedVariables false
set_option linter.unusedSectionVars false
namespace Go.Proofs.Ytgnlehenbdcgmaa
open Go.RowKit

/-- What lies in S stays. -/
def KeepS (S : Nat → Prop) (A B : World) : Prop := Turned (fun k => ¬ S k) A B
theorem KeepS.refl (S : Nat → Prop) (A : World) : KeepS S A A := ⟨rfl, rfl, rfl, Nat.le_refl _, fun _ _ _ => rfl⟩
theorem KeepS.trans {S : Nat → Prop} {A B C : World} (h : KeepS S A B) (k : KeepS S B C) : KeepS S A C :=
  ⟨k.os.trans h.os, k.tape.trans h.tape, k.output.trans h.output, Nat.le_trans h.size k.size, fun c hc hn => (k.block c (Nat.lt_of_lt_of_le hc h.size) hn).trans (h.block c hc hn)⟩
theorem KeepS.of_below {S : Nat → Prop} {A B : World} {m : Nat} (h : Below m A B) (hm : ∀ k, S k → k < A.heap.size → k < m) : KeepS S A B :=
  ⟨h.os, h.tape, h.output, h.size, fun k hk hn => h.block k (hm k (Classical.byContradiction hn) hk)⟩
theorem KeepS.put {S : Nat → Prop} {A : World} {l : Nat} (o : Obj) (hl : ¬ S l) : KeepS S A (A.putObj l o) :=
  ⟨rfl, rfl, rfl, by simp, fun k hk hn => World.putObj_heap_other (fun e => hn (fun hs => hl (e ▸ hs)))⟩
theorem KeepS.mono {S S' : Nat → Prop} {A B : World} (h : KeepS S A B) (hS : ∀ k, k < A.heap.size → S' k → S k) : KeepS S' A B :=
  ⟨h.os, h.tape, h.output, h.size, fun k hk hn => h.block k hk (fun hs => hn (fun hs' => hs (hS k hk hs')))⟩
theorem KeepS.at_ {S : Nat → Prop} {A B : World} (h : KeepS S A B) {k : Nat} (hS : S k) {o : Obj} (ho : A.heap[k]? = some o) : B.heap[k]? = some o := (h.block k (heap_lt ho) (fun hn => hn hS)).trans ho
/-- Blocks of cells stay. -/
def CellsStay (A B : World) : Prop := A.heap.size ≤ B.heap.size ∧ ∀ (k : Nat) (o : Obj), A.heap[k]? = some o → o.isCells = true → B.heap[k]? = some o
theorem CellsStay.below {A B : World} (h : Below A.heap.size A B) : CellsStay A B := ⟨h.size, fun k o ho _ => heap_below ho h (heap_lt ho)⟩
theorem CellsStay.put {A : World} {l : Nat} {o : Obj} (o' : Obj) (hl : A.heap[l]? = some o) (hc : o.isCells = false) : CellsStay A (A.putObj l o') :=
  ⟨by simp, fun k q hq hqc => (World.putObj_heap_other (fun e => by rw [e, hl] at hq; cases hq; rw [hc] at hqc; cases hqc)).trans hq⟩
theorem CellsStay.unput {A : World} {l : Nat} {o o' : Obj} (hl : A.heap[l]? = some o) (hc : o'.isCells = false) : CellsStay (A.putObj l o') A :=
  ⟨by simp, fun k q hq hqc => by
    by_cases e : k = l
    · subst e
      rw [World.putObj_heap_same (heap_lt hl)] at hq
      cases hq
      rw [hc] at hqc
      cases hqc
    · rwa [World.putObj_heap_other e] at hq⟩
theorem CellsStay.trans {A B C : World} (h : CellsStay A B) (k : CellsStay B C) : CellsStay A C := ⟨Nat.le_trans h.1 k.1, fun i o ho hc => k.2 i o (h.2 i o ho hc) hc⟩
/-- Is it a block of the iterator's own? -/
def OwnB (S0 S : Nat → Prop) (k : Nat) : Prop := S k ∧ ¬ S0 k
theorem turned_put {R : Nat → Prop} {A0 A : World} (h : Turned R A0 A) {k : Nat} (hk : k < A0.heap.size) (o : Obj) : Turned R (A0.putObj k o) (A.putObj k o) :=
  ⟨h.os, h.tape, h.output, by simpa using h.size, fun j hj hn => by
    have hj' : j < A0.heap.size := by simpa using hj
    have hs := h.size
    by_cases e : j = k
    · subst e
      rw [World.putObj_heap_same hk, World.putObj_heap_same (by omega)]
    · rw [World.putObj_heap_other e, World.putObj_heap_other e]
      exact h.block j hj' hn⟩
theorem turned_below {R : Nat → Prop} {A B C : World} (h : Turned R A B) (k : Below B.heap.size B C) : Turned R A C :=
  ⟨k.os.trans h.os, k.tape.trans h.tape, k.output.trans h.output, Nat.le_trans h.size k.size, fun c hc hn => (k.block c (Nat.lt_of_lt_of_le hc h.size)).trans (h.block c hc hn)⟩
/-- An iterator that hands out things whose plain words are D; what it lays joins a set that a round keeps. -/
def SeqS {α β : Type} (F : Fence) (n : Nat) (P : Program) (g : Nat) (lb : Array Value) (encs : α → Array Value) (pl : α → β) (At : (Nat → Prop) → α → World → Prop) (D : List β) (S0 : Nat → Prop) (w : World) : Prop :=
  ∀ (l : Nat) (J Jx : (Nat → Prop) → List α → World → Prop) (W : World), Below w.heap.size w W →
    (∀ S pre x A0 A, J S pre A0 → Turned (OwnB S0 S) A0 A → (∀ x' ∈ pre, ∀ S', At S' x' A0 → At S' x' A) → (pre ++ [x]).map pl <+: D → At (fun k => S k ∨ A0.heap.size ≤ k) x A → YieldAt F (n - 1) P l (encs x) A fun e B => KeepS (fun k => S k ∨ A0.heap.size ≤ k) A B ∧
      ((e = .returned (.bool true) ∧ J (fun k => S k ∨ (A0.heap.size ≤ k ∧ k < A.heap.size)) (pre ++ [x]) B) ∨ (e = .returned (.bool false) ∧ Jx (fun k => S k ∨ (A0.heap.size ≤ k ∧ k < A.heap.size)) (pre ++ [x]) B))) →
    J S0 [] W →
    CallsIn F n P g (#[.func (.yield l) #[] #[]] ++ lb) W fun e B => (∃ v, e = .returned v) ∧ ∃ S pre B0, Turned (OwnB S0 S) B0 B ∧ (∀ x' ∈ pre, ∀ S', At S' x' B0 → At S' x' B) ∧ ((pre.map pl = D ∧ J S pre B0) ∨ (pre.map pl <+: D ∧ Jx S pre B0))
/-- How a round may be left: the statement's own two blocks stay. -/
def sPost {α : Type} (b : Nat) (Kp : World → World → Prop) (I : List α → World → Prop) (Ix : Code → List α → World → Prop) (xs : List α) (A : World) : Exit → Act → World → Prop
  | .normal, _, B => (B.heap[b]? = A.heap[b]? ∧ B.heap[b + 1]? = A.heap[b + 1]?) ∧ Kp A B ∧ I xs B
  | .ret, _, B => (B.heap[b]? = A.heap[b]? ∧ B.heap[b + 1]? = A.heap[b + 1]?) ∧ Kp A B ∧ Ix .ret xs B
  | .exit id, _, B => (B.heap[b]? = A.heap[b]? ∧ B.heap[b + 1]? = A.heap[b + 1]?) ∧ Kp A B ∧ Ix (.exit id) xs B
  | .goto t, _, B => (B.heap[b]? = A.heap[b]? ∧ B.heap[b + 1]? = A.heap[b + 1]?) ∧ Kp A B ∧ Ix (.goto t) xs B
  | .panic _, _, _ => False
  | .outgrown, _, _ => False
/-- What is known of the set while rounds go on. -/
def SetOk (S0 S : Nat → Prop) (b m : Nat) : Prop := (∀ k, S k → (S0 k ∨ b + 2 ≤ k) ∧ k < m)
variable {F : Fence} {n : Nat} {P : Program}
theorem wpIn_rangeFunc_seqS {α β : Type} {g : Operand} {ps : Array Tmp} {assign body : Code} {Q : Exit → Act → World → Prop} {a : Act} {w : World}
    (hro : F.round = none) (h1 : 1 ≤ n) {gf : Nat} {lb : Array Value} (hg : a.eval g = .func (.func gf) #[] lb) (hFg : F.fn gf) (eg : ∀ args w, (callFunc gf args).run P w = .ok (.enter gf args) w)
    {encs : α → Array Value} {pl : α → β} {At : (Nat → Prop) → α → World → Prop} {D : List β} {S0 : Nat → Prop} {w0 : World} (hseq : SeqS F (n - 1) P gf lb encs pl At D S0 w0)
    (hS0 : ∀ k, S0 k → k < w.heap.size) (hAt : ∀ S x A B, At S x A → CellsStay A B → At S x B) (hAtm : ∀ S S' x A, At S x A → (∀ k, k < A.heap.size → S k → S' k) → At S' x A)
    (hb0 : Below w0.heap.size w0 w) (hps : ∀ x, (encs x).size = ps.size)
    (I : (Nat → Prop) → List α → World → Prop) (Ix : Code → (Nat → Prop) → List α → World → Prop) (hI : ∀ S pre W o o', I S pre W → W.heap[w.heap.size + 1]? = some o → o.isCells = false → I S pre (W.putObj (w.heap.size + 1) o')) (hIx : ∀ c S pre W o o', Ix c S pre W → W.heap[w.heap.size + 1]? = some o → o.isCells = false → Ix c S pre (W.putObj (w.heap.size + 1) o')) (h0 : ∀ r : Loop, I S0 [] ((w.alloc (.deferred (some []))).alloc (.loop r))) (Ax : α → Act → World → Prop)
    (hAx : ∀ (x : α) (a' : Act) (A : World) (l : Nat) (o o' : Obj), Ax x a' A → w.heap.size ≤ l → A.heap[l]? = some o → o.isCells = false → Ax x a' (A.putObj l o'))
    (hassign : ∀ (l : Nat) (S : Nat → Prop) (pre : List α) (x : α) (A0 A : World) (K : Act → World → Prop), I S pre A0 → Turned (OwnB S0 S) A0 A → At (fun k => S k ∨ A0.heap.size ≤ k) x A → (∀ a' B, Below A.heap.size A B → Ax x a' B → K a' B) →
      assign.wpIn (F.inRound l) (n - 1 - 1) P (Exit.then K (fun _ _ _ => False)) { tmps := (ps.zip (encs x)).foldl (fun t (p, v) => t.setIfInBounds p v) a.tmps, defers := [] } A)
    (hbody : ∀ (l u : Nat) (S : Nat → Prop) (pre : List α) (x : α) (a' : Act) (A0 W : World), I S pre A0 → SetOk S0 S w.heap.size A0.heap.size → w.heap.size + 2 ≤ A0.heap.size → Turned (OwnB S0 S) A0 W → (∀ x' ∈ pre, ∀ S', At S' x' A0 → At S' x' W) → A0.heap.size ≤ u → u ≤ W.heap.size → Ax x a' W → At (fun k => S k ∨ (A0.heap.size ≤ k ∧ k < u)) x W → (pre ++ [x]).map pl <+: D →
      body.wpIn (F.inRound l) (n - 1 - 1) P (sPost w.heap.size (KeepS (fun k => S k ∨ (A0.heap.size ≤ k ∧ k < u))) (I (fun k => S k ∨ (A0.heap.size ≤ k ∧ k < u))) (fun c => Ix c (fun k => S k ∨ (A0.heap.size ≤ k ∧ k < u))) (pre ++ [x]) W) a' W)
    (hdone : ∀ (C : Nat) (S : Nat → Prop) (pre : List α) (W0 W : World), C = w.heap.size → pre.map pl = D → SetOk S0 S w.heap.size W0.heap.size → I S pre W0 → Turned (OwnB S0 S) W0 W → (∀ x' ∈ pre, ∀ S', At S' x' W0 → At S' x' W) → W.heap[C]? = some (.deferred (some [])) → Q .normal { a with defers := { target := .collected C, args := #[] } :: a.defers } W)
    (hstop : ∀ (C : Nat) (c : Code) (S : Nat → Prop) (pre : List α) (W0 W : World), C = w.heap.size → pre.map pl <+: D → SetOk S0 S w.heap.size W0.heap.size → Ix c S pre W0 → Turned (OwnB S0 S) W0 W → (∀ x' ∈ pre, ∀ S', At S' x' W0 → At S' x' W) → W.heap[C]? = some (.deferred (some [])) → c.wpIn F n P Q { a with defers := { target := .collected C, args := #[] } :: a.defers } W) :
    (Code.rangeFunc g ps assign body).wpIn F n P Q a w := by
  refine wpIn_rangeFunc fun fn hfn => ?_
  rw [hro]
  let rec0 : Loop := { state := .ready, pending := none, fn, tmps := a.tmps, params := ps, assign, body, defers := w.heap.size }
  have hstart : Laid w.heap.size rec0 ((w.alloc (.deferred (some []))).alloc (.loop rec0)) :=
    ⟨heap_alloc (heap_new _ rfl) _, heap_new _ (by simp)⟩
  have hI1 : I S0 [] ((w.alloc (.deferred (some []))).alloc (.loop rec0)) := h0 rec0
  have hz1' : ((w.alloc (.deferred (some []))).alloc (.loop rec0)).heap.size = w.heap.size + 2 := by simp
  have hb1 : Below w0.heap.size w0 ((w.alloc (.deferred (some []))).alloc (.loop rec0)) := hb0.trans ((((Below.refl _ w).alloc (Nat.le_refl _) _).alloc (by simp) _).mono hb0.size)
  have hent := run_enterLoop_outer (P := P) (w := w) fn a.tmps ps assign body
  generalize (w.alloc (.deferred (some []))).alloc (.loop rec0) = W1 at *
  refine ⟨w.heap.size + 1, _, W1, { target := .fn (.func gf) lb, args := #[.func (.yield (w.heap.size + 1)) #[] #[]] }, W1, gf, #[.func (.yield (w.heap.size + 1)) #[] #[]] ++ lb, W1, hent, ?_, ?_, ?_, fun _ => h1, ?_⟩
  · simp only [resolve, hg]
    simp [go_sem]
  · intro f' hf'
    simp [Target.leads] at hf'
    subst hf'
    exact hFg
  · simp [invoke, go_sem, eg]
  · refine (hseq (w.heap.size + 1) (fun S pre W => I S pre W ∧ Laid w.heap.size rec0 W ∧ SetOk S0 S w.heap.size W.heap.size) (fun S pre W => ∃ c, Ix c S pre W ∧ Laid w.heap.size { rec0 with state := .done, pending := some c } W ∧ SetOk S0 S w.heap.size W.heap.size) W1 hb1
      ?_ ⟨hI1, hstart, fun k hk => ⟨.inl hk, by have := hS0 k hk; omega⟩⟩).mono ?_
    · -- one round
      rintro S pre x A0 A1 ⟨hi0, hl0, hok⟩ hbA hall hN hat
      have hz0 := heap_lt hl0.record
      have hz1 := hbA.size
      have hnr0 : ∀ k, S k → k ≠ w.heap.size ∧ k ≠ w.heap.size + 1 := fun k hk => by
        rcases (hok k hk).1 with h2 | h2
        · have := hS0 _ h2; omega
        · omega
      have hl1 : Laid w.heap.size rec0 A1 := ⟨hbA.old hl0.defers (fun h => (hnr0 _ h.1).1 rfl), hbA.old hl0.record (fun h => (hnr0 _ h.1).2 rfl)⟩
      have hnr : ¬ (S (w.heap.size + 1) ∨ A0.heap.size ≤ w.heap.size + 1) := by
        rintro (h | h)
        · rcases (hok _ h).1 with h2 | h2
          · have := hS0 _ h2; omega
          · omega
        · omega
      have hnr2 : ¬ (S (w.heap.size + 1) ∨ (A0.heap.size ≤ w.heap.size + 1 ∧ w.heap.size + 1 < A1.heap.size)) := fun h => hnr (h.imp id (fun h => h.1))
      refine ⟨fn, _, assign, body, run_yield (P := P) (args := encs x) hl1.record (hps x), roundIn_of_wpIn hfn (hassign _ S pre x A0 A1 _ hi0 hbA hat fun a' A hk0 hax => ?_)⟩
      have hz2 := hk0.size
      have hl : Laid w.heap.size rec0 A := ⟨heap_below hl1.defers hk0 (heap_lt hl1.defers), heap_below hl1.record hk0 (heap_lt hl1.record)⟩
      refine ⟨_, run_beginRound hl.record rfl, ?_⟩
      have hl2 := hl.put { rec0 with state := .busy }
      have hi2 := hI S pre A0 _ (.loop { rec0 with state := .busy }) hi0 hl0.record rfl
      have hb2 := turned_put (turned_below hbA hk0) hz0 (.loop { rec0 with state := .busy })
      have ha2 := hAx x a' A _ _ (.loop { rec0 with state := .busy }) hax (Nat.le_succ _) hl.record rfl
      have hst2 : CellsStay A1 (A.putObj (w.heap.size + 1) (.loop { rec0 with state := .busy })) := (CellsStay.below hk0).trans (CellsStay.put _ hl.record rfl)
      have hat2 := hAt _ x A1 (A.putObj (w.heap.size + 1) (.loop { rec0 with state := .busy })) (hAtm _ (fun k => S k ∨ (A0.heap.size ≤ k ∧ k < A1.heap.size)) x A1 hat (fun k hk h => h.imp id (fun h => ⟨h, hk⟩))) hst2
      have hall2 : ∀ x' ∈ pre, ∀ S', At S' x' (A0.putObj (w.heap.size + 1) (.loop { rec0 with state := .busy })) → At S' x' (A.putObj (w.heap.size + 1) (.loop { rec0 with state := .busy })) := fun x' hx' S' h =>
        hAt _ x' A1 _ (hall x' hx' S' (hAt _ x' _ A0 h (CellsStay.unput hl0.record rfl))) hst2
      have hbody2 := hbody (w.heap.size + 1) A1.heap.size S pre x a' _ _ hi2 (by simpa using hok) (by simp; omega) hb2 hall2 (by simpa using hz1) (by simpa using hz2) ha2 (by simpa using hat2) hN
      have hzz : (A0.putObj (w.heap.size + 1) (.loop { rec0 with state := .busy })).heap.size = A0.heap.size := by simp
      rw [hzz] at hbody2
      refine wpIn_mono hbody2 ?_
      have leave : ∀ (jump : Option Code) (B : World), (B.heap[w.heap.size]? = (A.putObj (w.heap.size + 1) (.loop { rec0 with state := .busy })).heap[w.heap.size]? ∧ B.heap[w.heap.size + 1]? = (A.putObj (w.heap.size + 1) (.loop { rec0 with state := .busy })).heap[w.heap.size + 1]?) → KeepS (fun k => S k ∨ (A0.heap.size ≤ k ∧ k < A1.heap.size)) (A.putObj (w.heap.size + 1) (.loop { rec0 with state := .busy })) B →
          (Instr.endRound (w.heap.size + 1) jump).run P B = .ok (.bool jump.isNone) (B.putObj (w.heap.size + 1) (.loop { rec0 with state := if jump.isNone then .ready else .done, pending := jump })) ∧
          Laid w.heap.size { rec0 with state := .busy } B ∧ KeepS (fun k => S k ∨ A0.heap.size ≤ k) A1 (B.putObj (w.heap.size + 1) (.loop { rec0 with state := if jump.isNone then .ready else .done, pending := jump })) ∧ A1.heap.size ≤ B.heap.size := by
        intro jump B hk hkp
        have hl3 : Laid w.heap.size { rec0 with state := .busy } B := ⟨hk.1.trans hl2.defers, hk.2.trans hl2.record⟩
        have h5 := run_endRound (P := P) jump hl3.record
        have q1 : KeepS (fun k => S k ∨ (A0.heap.size ≤ k ∧ k < A1.heap.size)) A1 A := KeepS.of_below hk0 (fun k _ h => h)
        have q2 := (q1.trans (KeepS.put (.loop { rec0 with state := .busy }) hnr2)).trans hkp
        have q3 := q2.trans (KeepS.put (.loop { rec0 with state := if jump.isNone then .ready else .done, pending := jump }) hnr2)
        refine ⟨h5, hl3, q3.mono (fun k hk h => h.imp id (fun h => ⟨h, hk⟩)), q2.size⟩
      have hok' : ∀ B : World, A1.heap.size ≤ B.heap.size → SetOk S0 (fun k => S k ∨ (A0.heap.size ≤ k ∧ k < A1.heap.size)) w.heap.size B.heap.size := fun B hB k hk => by
        rcases hk with h | ⟨h, h'⟩
        · have := hok k h
          exact ⟨this.1, by omega⟩
        · exact ⟨.inr (by omega), by omega⟩
      rintro e a3 B hp
      cases e with
      | normal =>
        obtain ⟨hk, hkp, hi3⟩ := hp
        obtain ⟨h5, h6, h7, h8⟩ := leave none B hk hkp
        exact ⟨_, _, h5, h7, .inl ⟨rfl, hI _ _ _ _ _ hi3 h6.record rfl, h6.put rec0, hok' _ (by simpa using h8)⟩⟩
      | ret =>
        obtain ⟨hk, hkp, hi3⟩ := hp
        obtain ⟨h5, h6, h7, h8⟩ := leave (some .ret) B hk hkp
        exact ⟨_, _, h5, h7, .inr ⟨rfl, .ret, hIx _ _ _ _ _ _ hi3 h6.record rfl, h6.put _, hok' _ (by simpa using h8)⟩⟩
      | exit id =>
        obtain ⟨hk, hkp, hi3⟩ := hp
        obtain ⟨h5, h6, h7, h8⟩ := leave (some (.exit id)) B hk hkp
        exact ⟨_, _, h5, h7, .inr ⟨rfl, .exit id, hIx _ _ _ _ _ _ hi3 h6.record rfl, h6.put _, hok' _ (by simpa using h8)⟩⟩
      | goto t =>
        obtain ⟨hk, hkp, hi3⟩ := hp
        obtain ⟨h5, h6, h7, h8⟩ := leave (some (.goto t)) B hk hkp
        exact ⟨_, _, h5, h7, .inr ⟨rfl, .goto t, hIx _ _ _ _ _ _ hi3 h6.record rfl, h6.put _, hok' _ (by simpa using h8)⟩⟩
      | panic ch => exact hp.elim
      | outgrown => exact hp.elim
    · -- behind the iterator
      rintro e B ⟨⟨v, rfl⟩, S, pre, B0, hb, hall, (⟨h2, h3, h4, hok⟩ | ⟨h2, c, h3, h4, hok⟩)⟩
      all_goals
        have hnr0 : ∀ k, S k → k ≠ w.heap.size ∧ k ≠ w.heap.size + 1 := fun k hk => by
          rcases (hok k hk).1 with h2 | h2
          · have := hS0 _ h2; omega
          · omega
      · have h5 : Laid w.heap.size rec0 B := ⟨hb.old h4.defers (fun h => (hnr0 _ h.1).1 rfl), hb.old h4.record (fun h => (hnr0 _ h.1).2 rfl)⟩
        exact ⟨none, _, run_endLoop (P := P) h5.record (by simp [rec0]), hdone _ S pre _ _ rfl h2 (by simpa using hok) (hI S _ _ _ _ h3 h4.record rfl) (turned_put hb (heap_lt h4.record) _) (fun x' hx' S' h => hAt _ x' B _ (hall x' hx' S' (hAt _ x' _ B0 h (CellsStay.unput h4.record (by rfl)))) (CellsStay.put _ h5.record rfl)) (h5.put _).defers⟩
      · have h5 : Laid w.heap.size { rec0 with state := .done, pending := some c } B := ⟨hb.old h4.defers (fun h => (hnr0 _ h.1).1 rfl), hb.old h4.record (fun h => (hnr0 _ h.1).2 rfl)⟩
        exact ⟨some c, _, run_endLoop (P := P) h5.record (by simp), hstop _ c S pre _ _ rfl h2 (by simpa using hok) (hIx c S _ _ _ _ h3 h4.record rfl) (turned_put hb (heap_lt h4.record) _) (fun x' hx' S' h => hAt _ x' B _ (hall x' hx' S' (hAt _ x' _ B0 h (CellsStay.unput h4.record (by rfl)))) (CellsStay.put _ h5.record rfl)) (h5.put _).defers⟩
end Go.Proofs.Ytgnlehenbdcgmaa
