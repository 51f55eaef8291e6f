/- The moves. -/
import Derived.Test.YtjpgkocffceeoaaRfA
import Derived.Test.YtjpgkocffceeoaaZl
import Derived.Test.YtjpgkocffceeoaaEa
import Derived.Test.YtjpgkocffceeoaaZa
import Derived.Laws.StructEq
import Derived.Deep.WholeRow
import Derived.ChangeKeysEq
set_option linter.unusedVariables false
set_option linter.unusedSectionVars false
namespace Go.Proofs.Ytjpgkocffceeoaa
open Go.RowKit Rk

/-- A thing of a list goes to the other part. -/
def flipL (ms : List Int) (i : Nat) : List Int := ms.set i (1 - ms.getD i 0)
theorem flipL_length (ms : List Int) (i : Nat) : (flipL ms i).length = ms.length := by simp [flipL]
theorem flipL_of {ms : List Int} {i : Nat} (hi : i < ms.length) : mOf (flipL ms i) = flipM (mOf ms) i := by
  funext c
  unfold flipM upd mOf flipL
  by_cases e : c = i
  · subst e
    simp [List.getD_eq_getElem?_getD, hi]
  · rw [if_neg e]
    simp [List.getD_eq_getElem?_getD, show ¬ i = c from fun h => e h.symm]
theorem cut_move {n : Nat} {F : Nat → Nat → Int} (h : Tab n F) {ms : List Int} (hl : ms.length = n) (h2 : twoM n (mOf ms)) {i : Nat} (hi : i < n) :
    cuS ms (edgesD n F) - cuS (flipL ms i) (edgesD n F) = tG n F (mOf ms) i := by
  have hf := flipL_of (ms := ms) (i := i) (by omega)
  rw [cut_gain h hi (tq := 1 - mOf ms i) (by rw [hf, flip_at]) (fun b hb => by rw [hf, flip_ne _ hb]), gnS_row h]
  unfold tG
  refine sumTo_congr fun b hb => ?_
  rcases h2 i hi with e1 | e1 <;> rcases h2 b hb with e2 | e2 <;> rw [e1, e2] <;> simp
/-- The parts behind moves. -/
def behindL (ms : List Int) (L : List (Nat × Int)) : List Int := L.foldl (fun a x => flipL a x.1) ms
theorem behindL_length (L : List (Nat × Int)) : ∀ ms, (behindL ms L).length = ms.length := by
  induction L with
  | nil => intro ms; rfl
  | cons x r ih =>
    intro ms
    show (behindL (flipL ms x.1) r).length = _
    rw [ih, flipL_length]
theorem moves_cut {n : Nat} {F : Nat → Nat → Int} (h : Tab n F) (ws : Nat → Int) (b : Int → Int) : ∀ (k : Nat) (ms : List Int) (mv : Nat → Bool), ms.length = n → twoM n (mOf ms) →
    cuS ms (edgesD n F) - cuS (behindL ms (movesM n F ws b k (mOf ms) mv)) (edgesD n F) = ((movesM n F ws b k (mOf ms) mv).map (·.2)).sum
  | 0, ms, mv, hl, h2 => by simp [movesM, behindL]
  | k + 1, ms, mv, hl, h2 => by
    unfold movesM
    split
    · simp [behindL]
    · rename_i i hi
      obtain ⟨h1, _⟩ := bestM_lt _ _ _ _ hi
      have hf := flipL_of (ms := ms) (i := i) (by omega)
      have ih := moves_cut h ws b k (flipL ms i) (fun c => if c = i then true else mv c) (by rw [flipL_length]; exact hl) (by rw [hf]; exact h2.flip h1)
      have hc := cut_move h hl h2 h1
      rw [hf] at ih
      have e : behindL ms ((i, tG n F (mOf ms) i) :: movesM n F ws b k (flipM (mOf ms) i) (fun c => if c = i then true else mv c)) = behindL (flipL ms i) (movesM n F ws b k (flipM (mOf ms) i) (fun c => if c = i then true else mv c)) := rfl
      rw [e, List.map_cons, List.sum_cons]
      simp only
      omega
theorem movesM_length (n : Nat) (F : Nat → Nat → Int) (ws : Nat → Int) (b : Int → Int) : ∀ (k : Nat) (m : Nat → Int) (mv : Nat → Bool), (movesM n F ws b k m mv).length ≤ k
  | 0, m, mv => by simp [movesM]
  | k + 1, m, mv => by
    unfold movesM
    split
    · simp
    · simp only [List.length_cons]
      exact Nat.succ_le_succ (movesM_length n F ws b k _ _)
/-- A pass, move by move: what fell, the most, behind how many moves, how many moves. -/
structure PsS where
  fell : Int
  most : Int
  few : Nat
  len : Nat
def stepS (s : PsS) (x : Nat × Int) : PsS := if s.most < s.fell + x.2 then ⟨s.fell + x.2, s.fell + x.2, s.len + 1, s.len + 1⟩ else ⟨s.fell + x.2, s.most, s.few, s.len + 1⟩
def passS (L : List (Nat × Int)) : PsS := L.foldl stepS ⟨0, 0, 0, 0⟩
theorem passS_snoc (L : List (Nat × Int)) (x : Nat × Int) : passS (L ++ [x]) = stepS (passS L) x := by simp [passS]
theorem passS_take (L : List (Nat × Int)) : ∀ k, k ≤ L.length → (passS (L.take k)).len = k ∧ (passS (L.take k)).fell = ((L.take k).map (·.2)).sum ∧ (passS (L.take k)).few ≤ k ∧ (passS (L.take k)).most = ((L.take (passS (L.take k)).few).map (·.2)).sum ∧ 0 ≤ (passS (L.take k)).most := fun k => by
  induction k with
  | zero => intro _; simp [passS]
  | succ k ih =>
    intro hk
    obtain ⟨h1, h2, h3, h4, h5⟩ := ih (by omega)
    have hx : L.take (k + 1) = L.take k ++ [L[k]] := by rw [List.take_succ_eq_append_getElem (by omega)]
    have hf : ((L.take (k + 1)).map (·.2)).sum = ((L.take k).map (·.2)).sum + L[k].2 := by rw [hx, List.map_append, List.sum_append]; simp
    have hs : passS (L.take (k + 1)) = stepS (passS (L.take k)) L[k] := by rw [hx, passS_snoc]
    rw [hs]
    unfold stepS
    split
    · rename_i h6
      exact ⟨by show _ + 1 = _; omega, by show _ + _ = _; omega, by show _ + 1 ≤ _; omega, by show _ + _ = _; rw [h1, hf, h2], by show 0 ≤ _ + _; omega⟩
    · exact ⟨by show _ + 1 = _; omega, by show _ + _ = _; omega, Nat.le_succ_of_le h3, h4, h5⟩
end Go.Proofs.Ytjpgkocffceeoaa

namespace Go.Proofs.Ytjpgkocffceeoaa
open Go.RowKit

/-- An iterator that hands out D: its own blocks lie from where the heap ended up to hi; it turns none else. A round keeps those, and what lies below n₀ and from lo to up. -/
def SeqO {α : Type} (F : Fence) (n : Nat) (P : Program) (g : Nat) (lb : Array Value) (encs : α → Array Value) (n₀ lo up : Nat) (D : List α) (w : World) : Prop :=
  ∀ (l : Nat) (J Jx : Nat → List α → World → Prop) (W : World), Below w.heap.size w W →
    (∀ hi s A B, J hi s A → Turned (fun k => W.heap.size ≤ k ∧ k < hi) A B → J hi s B) →
    (∀ hi pre x A, W.heap.size ≤ hi → hi ≤ A.heap.size → J hi pre A → pre ++ [x] <+: D → YieldAt F (n - 1) P l (encs x) A fun e B => (Below n₀ A B ∧ Mid lo up A B ∧ Mid W.heap.size hi A B) ∧ ((e = .returned (.bool true) ∧ J hi (pre ++ [x]) B) ∨ (e = .returned (.bool false) ∧ Jx hi (pre ++ [x]) B))) →
    (∀ hi W1, Below W.heap.size W W1 → hi ≤ W1.heap.size → W.heap.size ≤ hi → J hi [] W1) →
    CallsIn F n P g (#[.func (.yield l) #[] #[]] ++ lb) W fun e B => (∃ v, e = .returned v) ∧ ∃ hi, W.heap.size ≤ hi ∧ (J hi D B ∨ (∃ pre, pre <+: D ∧ Jx hi pre B))

variable {F : Fence} {n : Nat} {P : Program}
theorem wpIn_rangeFunc_seqO {α : Type} {g : Operand} {ps : Array Tmp} {assign body : Code} {Q : Exit → Act → World → Prop} {a : Act} {w : World}
    (hro : F.round = none) (h1 : 1 ≤ n) {gf : Nat} {lb : Array Value} (hg : a.eval g = .func (.func gf) #[] lb) (hFg : F.fn gf) (eg : ∀ args w, (callFunc gf args).run P w = .ok (.enter gf args) w)
    {encs : α → Array Value} {n₀ lo up : Nat} {D : List α} {w0 : World} (hseq : SeqO F (n - 1) P gf lb encs n₀ lo up D w0)
    (hn0 : n₀ ≤ w.heap.size) (hup : up ≤ w.heap.size)
    (hb0 : Below w0.heap.size w0 w) (hps : ∀ x, (encs x).size = ps.size)
    (I : Nat → List α → World → Prop) (Ix : Code → Nat → List α → World → Prop) (hI : ∀ hi, OwnFrom w.heap.size (I hi)) (hIx : ∀ c hi, OwnFrom w.heap.size (Ix c hi)) (hIt : ∀ hi s A B, I hi s A → Turned (fun k => w.heap.size + 2 ≤ k ∧ k < hi) A B → I hi s B) (h0 : ∀ hi W1, Below w.heap.size w W1 → hi ≤ W1.heap.size → w.heap.size + 2 ≤ hi → I hi [] W1) (Ax : α → Act → World → Prop)
    (hAx : ∀ (x : α) (a' : Act) (A : World) (l : Nat) (o o' : Obj), Ax x a' A → w.heap.size ≤ l → A.heap[l]? = some o → o.isCells = false → Ax x a' (A.putObj l o'))
    (hassign : ∀ (l hi : Nat) (pre : List α) (x : α) (W : World) (K : Act → World → Prop), I hi pre W → (∀ a' B, KeepsFrom w.heap.size W B → (Below n₀ W B ∧ Mid lo up W B ∧ Mid (w.heap.size + 2) hi W B) → I hi pre B → Ax x a' B → K a' B) →
      assign.wpIn (F.inRound l) (n - 1 - 1) P (Exit.then K (fun _ _ _ => False)) { tmps := (ps.zip (encs x)).foldl (fun t (p, v) => t.setIfInBounds p v) a.tmps, defers := [] } W)
    (hbody : ∀ (l hi : Nat) (pre : List α) (x : α) (a' : Act) (W : World), w.heap.size + 2 ≤ hi → hi ≤ W.heap.size → I hi pre W → Ax x a' W → pre ++ [x] <+: D → body.wpIn (F.inRound l) (n - 1 - 1) P (turnPost w.heap.size (fun A B => Below n₀ A B ∧ Mid lo up A B ∧ Mid (w.heap.size + 2) hi A B) (I hi) (fun c => Ix c hi) (pre ++ [x]) W) a' W)
    (hdone : ∀ (C hi : Nat) (W : World), w.heap.size ≤ C → I hi D W → W.heap[C]? = some (.deferred (some [])) → Q .normal { a with defers := { target := .collected C, args := #[] } :: a.defers } W)
    (hstop : ∀ (C hi : Nat) (c : Code) (pre : List α) (W : World), w.heap.size ≤ C → pre <+: D → Ix c hi pre W → W.heap[C]? = some (.deferred (some [])) → c.wpIn F n P Q { a with defers := { target := .collected C, args := #[] } :: a.defers } W) :
    (Code.rangeFunc g ps assign body).wpIn F n P Q a w := by
  refine wpIn_rangeFunc fun fn hfn => ?_
  rw [hro]
  let rec0 : Loop := { state := .ready, pending := none, fn, tmps := a.tmps, params := ps, assign, body, defers := w.heap.size }
  have hstart : Laid w.heap.size rec0 ((w.alloc (.deferred (some []))).alloc (.loop rec0)) :=
    ⟨heap_alloc (heap_new _ rfl) _, heap_new _ (by simp)⟩
  have hbw : Below w.heap.size w ((w.alloc (.deferred (some []))).alloc (.loop rec0)) := ((Below.refl _ w).alloc (Nat.le_refl _) _).alloc (by simp) _
  have hb1 : Below w0.heap.size w0 ((w.alloc (.deferred (some []))).alloc (.loop rec0)) := hb0.trans ((((Below.refl _ w).alloc (Nat.le_refl _) _).alloc (by simp) _).mono hb0.size)
  have hent := run_enterLoop_outer (P := P) (w := w) fn a.tmps ps assign body
  have hz1 : ((w.alloc (.deferred (some []))).alloc (.loop rec0)).heap.size = w.heap.size + 2 := by simp
  generalize (w.alloc (.deferred (some []))).alloc (.loop rec0) = W1 at *
  refine ⟨w.heap.size + 1, _, W1, { target := .fn (.func gf) lb, args := #[.func (.yield (w.heap.size + 1)) #[] #[]] }, W1, gf, #[.func (.yield (w.heap.size + 1)) #[] #[]] ++ lb, W1, hent, ?_, ?_, ?_, fun _ => h1, ?_⟩
  · simp only [resolve, hg]
    simp [go_sem]
  · intro f' hf'
    simp [Target.leads] at hf'
    subst hf'
    exact hFg
  · simp [invoke, go_sem, eg]
  · refine (hseq (w.heap.size + 1) (fun hi pre W => I hi pre W ∧ Laid w.heap.size rec0 W) (fun hi pre W => ∃ c, Ix c hi pre W ∧ Laid w.heap.size { rec0 with state := .done, pending := some c } W) W1 hb1
      (fun hi s A B h ht => ⟨hIt hi s A B h.1 ⟨ht.os, ht.tape, ht.output, ht.size, fun k h1 h2 => ht.block k h1 (fun h3 => h2 ⟨by rw [← hz1]; exact h3.1, h3.2⟩)⟩, ⟨ht.old h.2.defers (fun h3 => by have := h3.1; omega), ht.old h.2.record (fun h3 => by have := h3.1; omega)⟩⟩)
      ?_ (fun hi W2 hb2 h2 h3 => ⟨h0 hi W2 (hbw.trans (hb2.mono (by omega))) h2 (by omega), heap_below hstart.defers hb2 (heap_lt hstart.defers), heap_below hstart.record hb2 (heap_lt hstart.record)⟩)).mono ?_
    · -- one round
      rintro hi pre x A0 hlo hup0 ⟨hi0, hl0⟩ hN
      refine ⟨fn, _, assign, body, run_yield (P := P) (args := encs x) hl0.record (hps x), roundIn_of_wpIn hfn (hassign _ hi pre x A0 _ hi0 fun a' A hk0 hkp0 hi1 hax => ?_)⟩
      have hl := hl0.keeps hk0
      refine ⟨_, run_beginRound hl.record rfl, ?_⟩
      have hl2 := hl.put { rec0 with state := .busy }
      have hKb : ∀ (A B : World) (o' : Obj), w.heap.size + 1 < B.heap.size → (Below n₀ A B ∧ Mid lo up A B ∧ Mid W1.heap.size hi A B) → Below n₀ A (B.putObj (w.heap.size + 1) o') ∧ Mid lo up A (B.putObj (w.heap.size + 1) o') ∧ Mid W1.heap.size hi A (B.putObj (w.heap.size + 1) o') := fun A B o' hz h => ⟨h.1.grown (grownBy_putObj' B _ o') (by omega) (fun k e => by cases e; omega), h.2.1.trans (Mid.put B _ o' (by omega)), h.2.2.trans ⟨by simp, fun k h1 _ => World.putObj_heap_other (by omega)⟩⟩
      have hkp0' : Below n₀ A0 A ∧ Mid lo up A0 A ∧ Mid W1.heap.size hi A0 A := ⟨hkp0.1, hkp0.2.1, ⟨hkp0.2.2.size, fun k h1 h2 => hkp0.2.2.block k (by omega) h2⟩⟩
      have hk2 := hKb A0 A (.loop { rec0 with state := .busy }) (heap_lt hl.record) hkp0'
      have hi2 := (hI hi).putObj (.loop { rec0 with state := .busy }) hi1 (by omega) hl.record rfl
      have ha2 := hAx x a' A _ _ (.loop { rec0 with state := .busy }) hax (Nat.le_succ _) hl.record rfl
      refine wpIn_mono (hbody _ hi pre x a' _ (by omega) (by have := hkp0.1.size; simp; omega) hi2 ha2 hN) ?_
      have leave : ∀ (jump : Option Code) (B : World), KeepsFrom w.heap.size (A.putObj (w.heap.size + 1) (.loop { rec0 with state := .busy })) B → (Below n₀ (A.putObj (w.heap.size + 1) (.loop { rec0 with state := .busy })) B ∧ Mid lo up (A.putObj (w.heap.size + 1) (.loop { rec0 with state := .busy })) B ∧ Mid (w.heap.size + 2) hi (A.putObj (w.heap.size + 1) (.loop { rec0 with state := .busy })) B) →
          (Instr.endRound (w.heap.size + 1) jump).run P B = .ok (.bool jump.isNone) (B.putObj (w.heap.size + 1) (.loop { rec0 with state := if jump.isNone then .ready else .done, pending := jump })) ∧
          Laid w.heap.size { rec0 with state := .busy } B ∧ (Below n₀ A0 (B.putObj (w.heap.size + 1) (.loop { rec0 with state := if jump.isNone then .ready else .done, pending := jump })) ∧ Mid lo up A0 (B.putObj (w.heap.size + 1) (.loop { rec0 with state := if jump.isNone then .ready else .done, pending := jump })) ∧ Mid W1.heap.size hi A0 (B.putObj (w.heap.size + 1) (.loop { rec0 with state := if jump.isNone then .ready else .done, pending := jump }))) := by
        intro jump B hk hkp
        have hl3 := hl2.keeps hk
        have h5 := run_endRound (P := P) jump hl3.record
        exact ⟨h5, hl3, hKb _ _ _ (heap_lt hl3.record) ⟨hk2.1.trans hkp.1, hk2.2.1.trans hkp.2.1, hk2.2.2.trans ⟨hkp.2.2.size, fun k h1 h2 => hkp.2.2.block k (by omega) h2⟩⟩⟩
      rintro e a3 B hp
      cases e with
      | normal =>
        obtain ⟨hk, hkp, hi3⟩ := hp
        obtain ⟨h5, h6, h7⟩ := leave none B hk hkp
        exact ⟨_, _, h5, h7, .inl ⟨rfl, (hI hi).putObj _ hi3 (by omega) h6.record rfl, h6.put rec0⟩⟩
      | ret =>
        obtain ⟨hk, hkp, hi3⟩ := hp
        obtain ⟨h5, h6, h7⟩ := leave (some .ret) B hk hkp
        exact ⟨_, _, h5, h7, .inr ⟨rfl, .ret, (hIx _ hi).putObj _ hi3 (by omega) h6.record rfl, h6.put _⟩⟩
      | exit id =>
        obtain ⟨hk, hkp, hi3⟩ := hp
        obtain ⟨h5, h6, h7⟩ := leave (some (.exit id)) B hk hkp
        exact ⟨_, _, h5, h7, .inr ⟨rfl, .exit id, (hIx _ hi).putObj _ hi3 (by omega) h6.record rfl, h6.put _⟩⟩
      | goto t =>
        obtain ⟨hk, hkp, hi3⟩ := hp
        obtain ⟨h5, h6, h7⟩ := leave (some (.goto t)) B hk hkp
        exact ⟨_, _, h5, h7, .inr ⟨rfl, .goto t, (hIx _ hi).putObj _ hi3 (by omega) h6.record rfl, h6.put _⟩⟩
      | panic ch => exact hp.elim
      | outgrown => exact hp.elim
    · -- behind the iterator
      rintro e B ⟨⟨v, rfl⟩, hi, _, (⟨h3, h4⟩ | ⟨pre, h2, c, h3, h4⟩)⟩
      · exact ⟨none, _, run_endLoop (P := P) h4.record (by simp [rec0]), hdone _ hi _ (Nat.le_refl _) ((hI hi).putObj _ h3 (by omega) h4.record rfl) (h4.put _).defers⟩
      · exact ⟨some c, _, run_endLoop (P := P) h4.record (by simp), hstop _ hi c pre _ (Nat.le_refl _) h2 ((hIx c hi).putObj _ h3 (by omega) h4.record rfl) (h4.put _).defers⟩
end Go.Proofs.Ytjpgkocffceeoaa

namespace Go.Proofs.Ytjpgkocffceeoaa
open Go.RowKit Go.Shelf Rk

attribute [local go_sem] Oper.semAt_some

/-- How many are not moved yet. -/
def unm (mv : Nat → Bool) : Nat → Nat
  | 0 => 0
  | k + 1 => unm mv k + (if mv k = true then 0 else 1)
theorem unm_all (n : Nat) : unm (fun _ => false) n = n := by
  induction n with
  | zero => rfl
  | succ n ih => simp [unm, ih]
theorem unm_same {mv mv' : Nat → Bool} : ∀ n, (∀ i, i < n → mv i = mv' i) → unm mv n = unm mv' n
  | 0, _ => rfl
  | n + 1, h => by
    simp only [unm]
    rw [unm_same n (fun i hi => h i (by omega)), h n (by omega)]
theorem unm_one {mv : Nat → Bool} {i : Nat} : ∀ n, i < n → mv i = false → unm mv n = unm (fun c => if c = i then true else mv c) n + 1
  | 0, h, _ => by omega
  | n + 1, h, hm => by
    by_cases e : i = n
    · subst e
      have := unm_same (mv := mv) (mv' := fun c => if c = i then true else mv c) i (fun j hj => by simp [show ¬ j = i by omega])
      simp only [unm, if_true, ← this]
      rw [if_neg (by rw [hm]; decide)]
    · have := unm_one n (by omega) hm
      have e2 : ¬ n = i := fun h => e h.symm
      simp only [unm, if_neg e2]
      omega
def bF (b0 b1 : Int) (t : Int) : Int := if t = 0 then b0 else b1
def encI (L : List (Nat × Int)) : List (Int × Int) := L.map (fun x => ((x.1 : Int), x.2))
/-- The moves of a pass over right parts. -/
def movD (ws : List Int) (F : Nat → Nat → Int) (b : Int → Int) (ms : List Int) : List (Nat × Int) := movesM ws.length F (wsF ws) b ws.length (mOf ms) (fun _ => false)
/-- Those that are left. -/
def leftM (n : Nat) (F : Nat → Nat → Int) (ws : Nat → Int) (b : Int → Int) (m : Nat → Int) (mv : Nat → Bool) : List (Nat × Int) := movesM n F ws b (unm mv n) m mv
theorem leftM_none {n : Nat} {F : Nat → Nat → Int} {ws : Nat → Int} {b : Int → Int} {m : Nat → Int} {mv : Nat → Bool} (h : bestM (mayM ws m mv (hvM n ws m) b) (tG n F m) n = none) : leftM n F ws b m mv = [] := by
  unfold leftM
  cases unm mv n with
  | zero => rfl
  | succ k => simp only [movesM, h]
theorem leftM_some {n : Nat} {F : Nat → Nat → Int} {ws : Nat → Int} {b : Int → Int} {m : Nat → Int} {mv : Nat → Bool} {i : Nat} (h : bestM (mayM ws m mv (hvM n ws m) b) (tG n F m) n = some i) :
    i < n ∧ mv i = false ∧ unm (fun c => if c = i then true else mv c) n < unm mv n ∧ leftM n F ws b m mv = (i, tG n F m i) :: leftM n F ws b (flipM m i) (fun c => if c = i then true else mv c) := by
  obtain ⟨h1, h2⟩ := bestM_lt _ _ _ _ h
  have hmv : mv i = false := by
    unfold mayM at h2
    cases e : mv i with
    | false => rfl
    | true => rw [e] at h2; simp at h2
  have hu := unm_one n h1 hmv
  refine ⟨h1, hmv, by omega, ?_⟩
  unfold leftM
  rw [hu]
  simp only [movesM, h]
theorem mayM_congr {ws m : Nat → Int} {mv : Nat → Bool} {H H' b : Int → Int} {n : Nat} (h2 : twoM n m) (h : ∀ t, t = 0 ∨ t = 1 → H t = H' t) : ∀ i, i < n → mayM ws m mv H b i = mayM ws m mv H' b i := fun i hi => by
  unfold mayM
  rw [h (1 - m i) (by rcases h2 i hi with e | e <;> omega)]
/-- What a pass is made of, as its moves are asked for. -/
structure MvB (W : World) (Bf : Nat) (v : PsV) (n₀ lo up : Nat) (ws : List Int) (F : Nat → Nat → Int) (zs : List Int) (b : Int → Int) : Prop where
  box : W.heap[Bf]? = some (.cells #[.slice v.wa ws.length v.wc, .slice v.na ws.length v.nc, .slice v.pa ws.length v.pc, .int .i64 (b 0), .int .i64 (b 1), .int .i64 0, .int .i64 0, .slice none 0 0, .slice none 0 0] 116 (0, 0))
  blo : lo ≤ Bf ∧ Bf < up
  bgl : BgL v n₀ lo up ws F W
  part : IntsAt .i64 up W v.pa v.pb 0 ws.length zs
  pnil : v.pa = none → ws.length = 0 ∧ v.pc = 0
  two : twoM ws.length (mOf zs)
  tab : Tab ws.length F
  small : ws.length ≤ 4096
  wts : ∀ x ∈ ws, 1 ≤ x ∧ x ≤ 1099511627776
  n0 : n₀ ≤ up
  size : up ≤ W.heap.size
theorem MvB.below {W W' : World} {Bf : Nat} {v : PsV} {n₀ lo up : Nat} {ws : List Int} {F : Nat → Nat → Int} {zs : List Int} {b : Int → Int} (h : MvB W Bf v n₀ lo up ws F zs b) (hb : Below up W W') : MvB W' Bf v n₀ lo up ws F zs b :=
  ⟨heap_below h.box hb h.blo.2, h.blo, h.bgl.below h.n0 hb, h.part.kept hb (Nat.le_refl _), h.pnil, h.two, h.tab, h.small, h.wts, h.n0, Nat.le_trans h.size hb.size⟩
/-- Between two moves. -/
structure MwR (v : PsV) (n₀ lo up W0z o hi : Nat) (ws : List Int) (F : Nat → Nat → Int) (b : Int → Int) (D : List (Int × Int)) (J : Nat → List (Int × Int) → World → Prop) (m : Nat → Int) (mv : Nat → Bool) (G : Nat → Int) (H : Int → Int) (xs : List (Int × Int)) (W : World) : Prop where
  ps : PsR v n₀ W0z o ws F m mv G b H W
  bgl : BgL v n₀ lo up ws F W
  upz : up ≤ W0z
  n0 : n₀ ≤ up
  own : o < hi ∧ (ws.length = 0 ∨ v.pb < hi) ∧ (ws.length = 0 ∨ v.gb < hi) ∧ (ws.length = 0 ∨ v.vb < hi)
  at_ : D = xs ++ encI (leftM ws.length F (wsF ws) b m mv)
  j : J hi xs W
  size : hi ≤ W.heap.size
set_option maxRecDepth 100000 in
set_option maxHeartbeats 4000000 in
theorem moves2_seq {w : World} {Bf : Nat} {v : PsV} {n₀ lo up : Nat} {ws : List Int} {F : Nat → Nat → Int} {zs : List Int} {b : Int → Int} (h : MvB w Bf v n₀ lo up ws F zs b) (q : Nat) :
    SeqO Fence.wide q Try.prog 73 #[.pointer (some ⟨Bf, 0, none⟩)] encP n₀ lo up (encI (movD ws F b zs)) w := by
  intro l J Jx W hW hJ hY h0
  have hB := h.below (hW.mono h.size)
  have hsz := hB.size
  have c0 := heap_cell hB.box (i := 0) rfl
  have c1 := heap_cell hB.box (i := 1) rfl
  have c2 := heap_cell hB.box (i := 2) rfl
  have c3 := heap_cell hB.box (i := 3) rfl
  have c4 := heap_cell hB.box (i := 4) rfl
  have c5 := heap_cell hB.box (i := 5) rfl
  have c6 := heap_cell hB.box (i := 6) rfl
  have c7 := heap_cell hB.box (i := 7) rfl
  have c8 := heap_cell hB.box (i := 8) rfl
  simp only [List.getElem_toArray, List.getElem_cons_zero, List.getElem_cons_succ] at c0 c1 c2 c3 c4 c5 c6 c7 c8
  have HAg := Lib.hid (again_ps hB.bgl.bg hsz (hB.part.mono hsz) hB.pnil hB.two hB.tab hB.small hB.wts b)
  obtain ⟨D, hD⟩ : ∃ D, encI (movD ws F b zs) = D := ⟨_, rfl⟩
  rw [hD] at hY ⊢
  have HD0 := Lib.hid hD
  have HB := Lib.hid hB
  have HJ := Lib.hid hJ
  have HY := Lib.hid hY
  have H0 := Lib.hid h0
  clear h hB hW hJ hY h0 hD
  refine callsIn_of_wp Try.func73 rfl trivial ?_ rfl
  simp only [Try.ntmps73, List.size_toArray, List.length_cons, List.length_nil, Nat.reduceAdd, Nat.reduceSub, Array.replicate_succ, Array.replicate_zero, List.push_toArray, List.append_toArray, List.nil_append, List.cons_append]
  gi_wp2_with fail
  refine ⟨trivial, fun h => (by cases h), (callsIn_wide.2 HAg.out).mono ?_⟩
  rintro e w1 ⟨v', o, rfl, hP, hb, hsam⟩
  have HR0 : Hid (MwR v' n₀ lo up W.heap.size o w1.heap.size ws F b D J (mOf zs) (fun _ => false) (fun i => tG ws.length F (fun i => zs.getD i 0) i) (fun t => hvM ws.length (wsF ws) (fun i => zs.getD i 0) t) [] w1) := Lib.hid
    ⟨hP, (HB.out.bgl.below HB.out.n0 (hb.mono hsz)).same hsam, hsz, HB.out.n0, ⟨heap_lt hP.box, (by
      by_cases e : ws.length = 0
      · exact ⟨.inl e, .inl e, .inl e⟩
      · exact ⟨.inr (hP.part.lt (by omega)), .inr (hP.gain.lt (by omega)), .inr (hP.moved.lt (by omega))⟩)⟩, (by rw [← HD0.out]; unfold leftM; rw [unm_all]; rfl), H0.out _ _ hb (Nat.le_refl _) hb.size, Nat.le_refl _⟩
  have hhi := hb.size
  generalize w1.heap.size = hi at *
  obtain ⟨m0, hm0⟩ : ∃ m0, mOf zs = m0 := ⟨_, rfl⟩
  rw [hm0] at HR0
  clear HAg HB H0 HD0 hP hb hsam c0 c1 c2 c3 c4 c5 c6 c7 c8 hm0
  gi_wp2_with fail
  refine wpIn_loop_ghost (fun g a wr => ∃ (m : Nat → Int) (mv : Nat → Bool) (G : Nat → Int) (H : Int → Int) (xs : List (Int × Int)) (u2 u4 u5 u6 u7 u8 u9 u10 u11 u12 u13 u14 u15 u16 u17 u18 u19 u20 u21 u22 u23 u24 u25 u26 u27 u28 u29 u30 : Value), g = unm mv ws.length ∧ Hid (MwR v' n₀ lo up W.heap.size o hi ws F b D J m mv G H xs wr) ∧ a = { tmps := #[.func (.yield l) #[] #[], .pointer (some ⟨Bf, 0, none⟩), u2, .pointer (some ⟨o, 0, none⟩), u4, u5, u6, u7, u8, u9, u10, u11, u12, u13, u14, u15, u16, u17, u18, u19, u20, u21, u22, u23, u24, u25, u26, u27, u28, u29, u30], defers := [] }) (unm (fun _ => false) ws.length) ?_ ?_
  · exact ⟨_, _, _, _, _, _, _, _, _, _, _, _, _, _, _, _, _, _, _, _, _, _, _, _, _, _, _, _, _, _, _, _, _, rfl, HR0, rfl⟩
  · rintro g a wr ⟨m, mv, G, H, xs, u2, u4, u5, u6, u7, u8, u9, u10, u11, u12, u13, u14, u15, u16, u17, u18, u19, u20, u21, u22, u23, u24, u25, u26, u27, u28, u29, u30, rfl, HR, rfl⟩
    clear HR0
    have HNx := Lib.hid (next_any HR.out.ps)
    have hbm : bestM (mayM (wsF ws) m mv H b) (tG ws.length F m) ws.length = bestM (mayM (wsF ws) m mv (hvM ws.length (wsF ws) m) b) (tG ws.length F m) ws.length := bestM_congr _ (mayM_congr HR.out.ps.num.two HR.out.ps.num.hv) (fun _ _ _ => rfl)
    have HBm := Lib.hid hbm
    clear hbm
    gi_wp2_with fail
    refine ⟨trivial, fun h => (by cases h), (callsIn_wide.2 HNx.out).mono ?_⟩
    rintro e w2 ⟨r, rfl, hr, hst⟩
    have hJ2 : J hi xs w2 := HJ.out hi xs _ _ HR.out.j ⟨hst.1, hst.2.1, hst.2.2.1, by rw [hst.2.2.2]; exact Nat.le_refl _, fun _ _ _ => by rw [hst.2.2.2]⟩
    have HP2 := Lib.hid (HR.out.ps.still hst)
    have HJ2 := Lib.hid hJ2
    have HBl2 := Lib.hid (HR.out.bgl.below HR.out.n0 (hst.below _))
    have hz2 : hi ≤ w2.heap.size := by rw [hst.2.2.2]; exact HR.out.size
    rw [HBm.out] at hr
    have HRr := Lib.hid hr
    clear hr hJ2 hst HBm HNx
    cases r with
    | none =>
      have hD := HR.out.at_
      rw [leftM_none HRr.out.symm] at hD
      have HD := Lib.hid hD
      clear hD
      gi_wp2_with fail
      refine bodyPost_ret (results_none rfl _ _ _) rfl ?_
      exact ⟨⟨_, rfl⟩, hi, hhi, .inl (by rw [HD.out, show encI [] = [] from rfl, List.append_nil]; exact HJ2.out)⟩
    | some i =>
      obtain ⟨hi1, hmv, hless, hlf⟩ := leftM_some HRr.out.symm
      have hD := HR.out.at_
      rw [hlf] at hD
      have HD := Lib.hid hD
      have hG : G i = tG ws.length F m i := by
        obtain ⟨c, k1, k2, _⟩ := HP2.out.num.gain i hi1
        rw [k1, k2 hmv]; omega
      have HG := Lib.hid hG
      have HLs := Lib.hid hless
      have c7 := heap_cell HP2.out.box (i := 7) rfl
      have g7 := HP2.out.gain.cell hi1
      simp only [List.getElem_toArray, List.getElem_cons_zero, List.getElem_cons_succ] at c7
      rw [hG] at g7
      have hin : (i : Int) < (ws.length : Int) := by omega
      have hi0 : (0 : Int) ≤ (i : Int) := by omega
      have HMv := Lib.hid (move_any HP2.out (Nat.le_trans HR.out.n0 HR.out.upz) hi1 hmv)
      have HI1 := Lib.hid hi1
      obtain ⟨tg, htg⟩ : ∃ x, tG ws.length F m i = x := ⟨_, rfl⟩
      rw [htg] at g7 HD
      clear hD hG hlf hless HG htg
      obtain ⟨n, hn⟩ : ∃ n, ws.length = n := ⟨_, rfl⟩
      rw [hn] at c7 hin
      have HN := Lib.hid hn
      clear hn hi1
      simp only [Option.getD_some, Option.isSome_some]
      gi_wp2_with fail
      refine ⟨trivial, fun h => (by cases h), (callsIn_wide.2 HMv.out).mono ?_⟩
      rintro e w3 ⟨⟨u, rfl⟩, ⟨G', H', hP3⟩, ht3⟩
      have hi1 : i < ws.length := HI1.out
      obtain ⟨o1, o2, o3, o4⟩ := HR.out.own
      obtain ⟨p1, p2, p3, p4⟩ := HP2.out.ups
      have o2' := o2.resolve_left (by omega)
      have o3' := o3.resolve_left (by omega)
      have o4' := o4.resolve_left (by omega)
      have hPB : ∀ k, PsB v' o k → W.heap.size ≤ k ∧ k < hi := fun k hk => by rcases hk with rfl | rfl | rfl | rfl <;> exact ⟨by omega, by omega⟩
      have hJ3 : J hi xs w3 := HJ.out hi xs _ _ HJ2.out ⟨ht3.os, ht3.tape, ht3.output, ht3.size, fun k hk hn => ht3.block k hk (fun e => hn (hPB k e))⟩
      have hup := HR.out.upz
      have hBl3 : BgL v' n₀ lo up ws F w3 := HBl2.out.below HR.out.n0 ⟨ht3.os, ht3.tape, ht3.output, ht3.size, fun k hk => ht3.block k (by omega) (fun e => by have := (hPB k e).1; omega)⟩
      have hz3 : hi ≤ w3.heap.size := Nat.le_trans hz2 ht3.size
      obtain ⟨fn, tmps, assign, body, hy, hRd⟩ := HY.out hi xs ((i : Int), tg) w3 hhi hz3 hJ3 ⟨_, (by rw [HD.out]; simp [encI]; rfl)⟩
      dsimp only [encP] at hy
      have HRd := Lib.hid hRd
      have HP3 := Lib.hid hP3
      have HBl3 := Lib.hid hBl3
      have HOwn := Lib.hid (And.intro o1 (And.intro o2 (And.intro o3 o4)))
      clear hRd hP3 hBl3 o1 o2 o3 o4 p1 p2 p3 p4 o2' o3' o4' hPB hJ3 ht3 HBl2 HP2 HJ2 HMv c7 g7 hi1
      gi_wp2
      refine ⟨fun h => (by cases h), RoundIn.mono HRd.out ?_⟩
      rintro e W9 ⟨⟨hk1, hk2, hk3⟩, ⟨rfl, hj⟩ | ⟨rfl, hj⟩⟩
      · have hBl9 : BgL v' n₀ lo up ws F W9 := HBl3.out.mid hk1 hk2
        obtain ⟨o1, o2, o3, o4⟩ := HOwn.out
        have HR9 : Hid (MwR v' n₀ lo up W.heap.size o hi ws F b D J (flipM m i) (fun c => if c = i then true else mv c) G' H' (xs ++ [((i : Int), tg)]) W9) := Lib.hid
          ⟨HP3.out.mid (hBl9.bg.mono hup rfl rfl rfl rfl) hk3 o1 o2 o3 o4, hBl9, hup, HR.out.n0, ⟨o1, o2, o3, o4⟩, by rw [HD.out]; simp [encI], hj, Nat.le_trans hz3 hk1.size⟩
        have hless := HLs.out
        clear hj hk1 hk2 hk3 hBl9 o1 o2 o3 o4
        gi_wp2
        exact ⟨_, hless, _, _, _, _, _, _, _, _, _, _, _, _, _, _, _, _, _, _, _, _, _, _, _, _, _, _, _, _, _, _, _, _, _, rfl, HR9, rfl⟩
      · have HJ9 := Lib.hid hj
        clear hj hk1 hk2 hk3
        gi_wp2
        refine bodyPost_ret (results_none rfl _ _ _) rfl ?_
        exact ⟨⟨_, rfl⟩, hi, hhi, .inr ⟨_, ⟨_, (by rw [HD.out]; simp [encI]; rfl)⟩, HJ9.out⟩⟩
end Go.Proofs.Ytjpgkocffceeoaa

namespace Go.Proofs.Ytjpgkocffceeoaa
open Go.RowKit Go.Shelf Rk

attribute [local go_sem] Oper.semAt_some

theorem Try.guardTwo : Try.prog.eqGuardType Try.prog.depth 46 = false := by kernel_rfl
theorem Try.cellsI64 : Try.prog.cellsOf 2 = 1 := by kernel_rfl
theorem eql_two (x y : Int) (V : World) : (binOp BinOp.eql 46 (.agg #[.int .i64 x, .int .i64 y]) (.agg #[.int .i64 0, .int .i64 0])).run Try.prog V = .ok (.bool (decide (x = 0 ∧ y = 0))) V := by
  obtain ⟨i0, hi, _⟩ := info_parts Try.infoI64
  rw [run_eql_struct, show (10000 : Nat) = 9999 + 1 from rfl, run_equalIn_array V 9999 _ _ Try.underlying46 hi, Try.cellsI64]
  simp [Op.eqItems, List.range, List.range.loop, go_sem]
  by_cases h1 : x = 0 <;> by_cases h2 : y = 0 <;> simp [h1, h2, go_sem]
theorem BgL.wide {v : PsV} {n₀ lo up lo' up' : Nat} {ws : List Int} {F : Nat → Nat → Int} {W : World} (h : BgL v n₀ lo up ws F W) (hl : lo' ≤ lo) (hu : up ≤ up') : BgL v n₀ lo' up' ws F W :=
  ⟨h.bg.mono hu rfl rfl rfl rfl, h.wlo.imp id (fun g => Nat.le_trans hl g), h.nlo.imp id (fun g => Nat.le_trans hl g), fun a ha => by
    obtain ⟨u, k1, k2⟩ := h.slo a ha
    exact ⟨u, k1, k2.mono hl⟩⟩
theorem moves1_seq (w : World) (n₀ lo up : Nat) (q : Nat) : SeqO Fence.wide q Try.prog 71 #[] encP n₀ lo up [] w := by
  intro l J Jx W hW hJ hY h0
  refine callsIn_of_wp Try.func71 rfl trivial ?_ rfl
  simp only [Try.ntmps71, List.size_toArray, List.length_cons, List.length_nil, Nat.reduceAdd, Nat.reduceSub, Array.replicate_succ, Array.replicate_zero, List.push_toArray, List.append_toArray, List.nil_append, List.cons_append]
  gi_wp2
  go_end0
  exact ⟨⟨_, rfl⟩, W.heap.size, Nat.le_refl _, .inl (h0 _ W (Below.refl _ _) (Nat.le_refl _) (Nat.le_refl _))⟩
/-- What hands out D, whichever function. -/
def IsMv (W : World) (u : Value) (n₀ lo up : Nat) (D : List (Int × Int)) : Prop :=
  ∃ gf lb, u = .func (.func gf) #[] lb ∧ (∀ args w, (callFunc gf args).run Try.prog w = .ok (.enter gf args) w) ∧ ∀ q, SeqO Fence.wide q Try.prog gf lb encP n₀ lo up D W
/-- The moves over whatever parts. -/
def movesD (ws : List Int) (F : Nat → Nat → Int) (b0 b1 : Int) (ms : List Int) : List (Nat × Int) :=
  if (b0 = 0 ∧ b1 = 0) ∨ rightP ws.length ms 2 = false then [] else movD ws F (bF b0 b1) ms
def MovesPost (w0 w : World) (D : List (Int × Int)) (e : Ending) (w' : World) : Prop := ∃ u, e = .returned u ∧ IsMv w' u w0.heap.size w.heap.size w'.heap.size D ∧ Below w.heap.size w w'
set_option maxRecDepth 100000 in
set_option maxHeartbeats 2000000 in
theorem moves_any {w0 w : World} {g nb : Nat} {ws : List Int} {F : Nat → Nat → Int} (h0 : IsG w0 g nb ws F) (hb : Below w0.heap.size w0 w) {a : Option Addr} {b off len cap : Nat} {zs : List Int} (hp : IntsAt .i64 w.heap.size w a b off len zs) (hpn : a = none → len = 0 ∧ cap = 0) (b0 b1 : Int) :
    Calls Try.prog 52 #[.pointer (some ⟨g, 0, none⟩), .slice a len cap, .agg #[.int .i64 b0, .int .i64 b1]] w (MovesPost w0 w (encI (movesD ws F b0 b1 zs))) := by
  have hb1 : Below w.heap.size w (w.alloc (.cells #[.int .i64 b0, .int .i64 b1] 46)) := (Below.refl _ w).alloc (Nat.le_refl _) _
  have hbx : (w.alloc (.cells #[.int .i64 b0, .int .i64 b1] 46)).heap[w.heap.size]? = some (.cells #[.int .i64 b0, .int .i64 b1] 46 (0, 0)) := heap_new (w := w) _ rfl
  have HRt := Lib.hid (cright_any (cap := cap) ((h0.below hb).below hb1) (hp.kept hb1 (Nat.le_refl _)) hb1.size 2)
  have hwhl := hp.length
  have HB1 := Lib.hid hb1
  have HBX := Lib.hid hbx
  have HP := Lib.hid hp
  have HG := Lib.hid h0
  have HB0 := Lib.hid hb
  have HPN := Lib.hid hpn
  have HE := Lib.hid (eql_two b0 b1)
  have HD := Lib.hid (show movesD ws F b0 b1 zs = if (b0 = 0 ∧ b1 = 0) ∨ rightP ws.length zs 2 = false then [] else movD ws F (bF b0 b1) zs from rfl)
  generalize movesD ws F b0 b1 zs = D at *
  clear hb1 hbx hp h0 hb hpn
  have k0 := heap_cell HBX.out (i := 0) rfl
  have k1 := heap_cell HBX.out (i := 1) rfl
  simp only [List.getElem_toArray, List.getElem_cons_zero, List.getElem_cons_succ] at k0 k1
  have hfin : ∀ W', Below w.heap.size w W' → D = [] → MovesPost w0 w (encI D) (.returned (.func (.func 71) #[] #[])) W' := fun W' hW' e => by
    rw [e]
    exact ⟨_, rfl, ⟨_, _, rfl, enters_of Try.func71 (by kernel_rfl) rfl, fun q => moves1_seq W' _ _ _ q⟩, hW'⟩
  have HFin := Lib.hid hfin
  clear hfin
  by_cases hz : b0 = 0 ∧ b1 = 0
  · have hE : ∀ V : World, (binOp BinOp.eql 46 (.agg #[.int .i64 b0, .int .i64 b1]) (.agg #[.int .i64 0, .int .i64 0])).run Try.prog V = .ok (.bool true) V := fun V => by rw [HE.out, decide_eq_true hz]
    have HD2 := Lib.hid (HD.out.trans (if_pos (.inl hz)))
    clear HRt HE HD hz
    go_enter Try.func52, Try.ntmps52
    go_upto_region 1 with fail
    generalize (w.alloc (.cells #[.int .i64 b0, .int .i64 b1] 46)) = w1 at *
    go_wp2
    go_ret
    exact HFin.out _ HB1.out HD2.out
  · have hE : ∀ V : World, (binOp BinOp.eql 46 (.agg #[.int .i64 b0, .int .i64 b1]) (.agg #[.int .i64 0, .int .i64 0])).run Try.prog V = .ok (.bool false) V := fun V => by rw [HE.out, decide_eq_false hz]
    cases hr : rightP ws.length zs 2 with
    | false =>
      have HD2 := Lib.hid (HD.out.trans (if_pos (.inr hr)))
      rw [hr] at HRt
      clear HE HD hz hr
      go_enter Try.func52, Try.ntmps52
      go_upto_region 1 with fail
      generalize (w.alloc (.cells #[.int .i64 b0, .int .i64 b1] 46)) = w1 at *
      go_wp2_with fail
      refine HRt.out.mono ?_
      rintro e w2 ⟨rfl, hb2⟩
      have HB2 := Lib.hid (HB1.out.trans (hb2.mono HB1.out.size))
      clear hb2 HRt
      go_wp2
      go_ret
      exact HFin.out _ HB2.out HD2.out
    | true =>
      have hD2 := HD.out.trans (if_neg (by rw [hr]; simpa using hz))
      rw [hr] at HRt
      obtain ⟨r1, r2, r3⟩ := rightP_t hr
      have HR3 := Lib.hid r3
      have hlen : len = ws.length := by rw [← hwhl]; exact r1
      subst hlen
      rw [hD2]
      clear HE HD hz hr hD2 HFin r3
      go_enter Try.func52, Try.ntmps52
      go_upto_region 1 with fail
      generalize (w.alloc (.cells #[.int .i64 b0, .int .i64 b1] 46)) = w1 at *
      go_wp2_with fail
      refine HRt.out.mono ?_
      rintro e w2 ⟨rfl, hb2⟩
      have HB2 := Lib.hid (HB1.out.trans (hb2.mono HB1.out.size))
      have hz2 := hb2.size
      have HBX2 := Lib.hid (heap_below HBX.out hb2 (heap_lt HBX.out))
      have k0 := heap_cell HBX2.out (i := 0) rfl
      have k1 := heap_cell HBX2.out (i := 1) rfl
      simp only [List.getElem_toArray, List.getElem_cons_zero, List.getElem_cons_succ] at k0 k1
      clear hb2 HRt
      have HBg := Lib.hid (begin_any (cap := cap) HG.out (HB0.out.trans (HB2.out.mono HB0.out.size)) ((HP.out.kept HB2.out (Nat.le_refl _)).mono HB2.out.size) HPN.out b0 b1)
      have HTab := Lib.hid HG.out.tab
      have HWts := Lib.hid HG.out.wts
      have hsm := HG.out.small
      have HLe := Lib.hid HB0.out.size
      clear HG HP HPN HBX HB1 hE
      go_upto_region 3 with fail
      refine wp_region_list ?_
      refine wpList_plain rfl (fun K hK => ?_)
      go_simp
      refine hK _ _ ?_
      clear hK K
      refine wpList_plain rfl (fun K hK => ?_)
      go_simp
      refine hK _ _ ?_
      clear hK K
      refine wpList_plain rfl (fun K hK => ?_)
      go_simp
      refine hK _ _ ?_
      clear hK K
      refine wpList_plain rfl (fun K hK => ?_)
      go_simp
      refine HBg.out.mono ?_
      rintro e w3 ⟨v, rfl, hL, hI, hlo, hnl, hb3⟩
      refine hK _ _ ?_
      clear hK K
      refine wpList_plain rfl (fun K hK => ?_)
      go_simp
      refine hK _ _ ?_
      clear hK K
      refine wpList_store_row rfl 116 (.tmp 7) (.tmp 20) rfl w3.heap.size #[.slice v.wa ws.length v.wc, .slice v.na ws.length v.nc, .slice v.pa ws.length v.pc, .int .i64 b0, .int .i64 b1, .int .i64 0, .int .i64 0, .slice none 0 0, .slice none 0 0] rfl rfl 116 _ (heap_new (w := w3) _ rfl) (by kernel_rfl) rfl (by kernel_rfl) ?_
      rw [World.setRow_alloc_new]
      have hb4 : Below w3.heap.size w3 (w3.alloc (.cells #[.slice v.wa ws.length v.wc, .slice v.na ws.length v.nc, .slice v.pa ws.length v.pc, .int .i64 b0, .int .i64 b1, .int .i64 0, .int .i64 0, .slice none 0 0, .slice none 0 0] 116)) := (Below.refl _ _).alloc (Nat.le_refl _) _
      have hbx4 : (w3.alloc (.cells #[.slice v.wa ws.length v.wc, .slice v.na ws.length v.nc, .slice v.pa ws.length v.pc, .int .i64 b0, .int .i64 b1, .int .i64 0, .int .i64 0, .slice none 0 0, .slice none 0 0] 116)).heap[w3.heap.size]? = some (.cells #[.slice v.wa ws.length v.wc, .slice v.na ws.length v.nc, .slice v.pa ws.length v.pc, .int .i64 b0, .int .i64 b1, .int .i64 0, .int .i64 0, .slice none 0 0, .slice none 0 0] 116 (0, 0)) := heap_new (w := w3) _ rfl
      have hz4 : (w3.alloc (.cells #[.slice v.wa ws.length v.wc, .slice v.na ws.length v.nc, .slice v.pa ws.length v.pc, .int .i64 b0, .int .i64 b1, .int .i64 0, .int .i64 0, .slice none 0 0, .slice none 0 0] 116)).heap.size = w3.heap.size + 1 := by simp
      generalize (w3.alloc (.cells #[.slice v.wa ws.length v.wc, .slice v.na ws.length v.nc, .slice v.pa ws.length v.pc, .int .i64 b0, .int .i64 b1, .int .i64 0, .int .i64 0, .slice none 0 0, .slice none 0 0] 116)) = w4 at *
      have hlw := HB2.out.size
      have hl3 := hb3.size
      have hle := HLe.out
      have hBt : Below w.heap.size w w4 := (HB2.out.trans (hb3.mono hlw)).trans (hb4.mono (by omega))
      have hM : MvB w4 w3.heap.size v w0.heap.size w.heap.size w4.heap.size ws F zs (bF b0 b1) :=
        ⟨hbx4, ⟨by omega, by omega⟩, (hL.below (by omega) hb4).wide hlw (by omega), (hI.kept hb4 (Nat.le_refl _)).mono (by omega), hnl, fun i hi => by
          have := HR3.out (zs.getD i 0) (by rw [List.getD_eq_getElem?_getD, List.getElem?_eq_getElem (show i < zs.length by omega)]; exact List.getElem_mem _)
          show zs.getD i 0 = 0 ∨ zs.getD i 0 = 1
          omega, HTab.out, hsm, HWts.out, by omega, Nat.le_refl _⟩
      have HE : Hid (MovesPost w0 w (encI (movD ws F (bF b0 b1) zs)) (.returned (.func (.func 73) #[] #[.pointer (some ⟨w3.heap.size, 0, none⟩)])) w4) := Lib.hid ⟨_, rfl, ⟨_, _, rfl, enters_of Try.func73 (by kernel_rfl) rfl, fun q => moves2_seq hM q⟩, hBt⟩
      clear hM hBt hb4 hbx4 hL hI hlo hnl hb3 hz4 hl3
      go_wp2
      go_ret
      exact HE.out
end Go.Proofs.Ytjpgkocffceeoaa
