/- Contracts: the example; plain: what it answers. -/
import Derived.Test.YtgnlehenbdcgmaaMdO
set_option linter.unusedVariables false
set_option linter.unusedSectionVars false
set_option linter.unusedSimpArgs false
namespace Go.Proofs.Ytgnlehenbdcgmaa.Md
open Go.RowKit Go.Shelf

theorem rows_flat {α : Type} {enc : α → List Value} {sz : Nat} (hsz : ∀ x, (enc x).length = sz) : ∀ (L : List α) (i : Nat) (x : α), L[i]? = some x → ∀ j u, (enc x)[j]? = some u → (L.flatMap enc)[i * sz + j]? = some u
  | [], i, x, h, _, _, _ => by simp at h
  | y :: L, 0, x, h, j, u, hu => by
    have : y = x := by simpa using h
    subst this
    have hj := (List.getElem?_eq_some_iff.1 hu).1
    rw [Nat.zero_mul, Nat.zero_add, List.flatMap_cons, List.getElem?_append_left hj]
    exact hu
  | y :: L, i + 1, x, h, j, u, hu => by
    rw [List.flatMap_cons, List.getElem?_append_right (by rw [hsz]; rw [Nat.add_mul]; omega), hsz]
    rw [show (i + 1) * sz + j - sz = i * sz + j by rw [Nat.add_mul]; omega]
    exact rows_flat hsz L i x (by simpa using h) j u hu
/-- A row that is a block of its own. -/
theorem rows_block {α : Type} {enc : α → List Value} {fit : α → Prop} {sz : Nat} (hsz : ∀ x, (enc x).length = sz) {W : World} {b : Nat} {L : List α} {cs : Array Value} {t : TypeId} (h : W.heap[b]? = some (.cells cs t (0, 0))) (hcs : cs.toList = L.flatMap enc) (hm : L.length ≤ maxLen) (hf : ∀ x ∈ L, fit x) {len : Nat} (hl : L.length = len) :
    RowsAt enc fit sz W.heap.size W (some ⟨b, 0, none⟩) b 0 len L :=
  ⟨.inr rfl, hl, by omega, .inr (heap_lt h), fun i x hi j u hu => by
    have h1 := rows_flat hsz L i x hi j u hu
    rw [← hcs, Array.getElem?_toList] at h1
    rw [Nat.zero_add]
    exact heap_cell h h1, hf⟩
def smA : ByteArray := ⟨#[97]⟩
def smB : ByteArray := ⟨#[98]⟩
def smX : ByteArray := ⟨#[120]⟩
def smL : ByteArray := ⟨#[108]⟩
/-- The document's example; its event goes to so and so. -/
def smM (to_ : ByteArray) : ModelM := ⟨3, [⟨smA, 1, [⟨smX, 0⟩], [⟨1, smX, 2, 0, ⟨#[]⟩⟩, ⟨4, smL, 1, 0, smX⟩]⟩, ⟨smB, 2, [], []⟩], [⟨smL, smA, smB, 5, 1⟩], [⟨to_, 1, 7⟩]⟩
def smP0 (B : Nat) : ProcV := ⟨⟨smA, 1, [⟨smX, 0⟩], [⟨1, smX, 2, 0, ⟨#[]⟩⟩, ⟨4, smL, 1, 0, smX⟩]⟩, some ⟨B + 1, 0, none⟩, B + 1, 0, 1, some ⟨B + 1 + 1, 0, none⟩, B + 1 + 1, 0, 2⟩
def smP1 : ProcV := ⟨⟨smB, 2, [], []⟩, none, 0, 0, 0, none, 0, 0, 0⟩
def smV (B : Nat) (to_ : ByteArray) : ModelV := ⟨3, [smP0 B, smP1], [⟨smL, smA, smB, 5, 1⟩], [⟨to_, 1, 7⟩], some ⟨B + 1 + 1 + 1, 0, none⟩, B + 1 + 1 + 1, 0, 2, some ⟨B + 1 + 1 + 1 + 1, 0, none⟩, B + 1 + 1 + 1 + 1, 0, 1, some ⟨B + 1 + 1 + 1 + 1 + 1, 0, none⟩, B + 1 + 1 + 1 + 1 + 1, 0, 1⟩
theorem smV_m (B : Nat) (to_ : ByteArray) : (smV B to_).m = smM to_ := rfl
/-- The blocks of the example. -/
structure SmAt (B : Nat) (to_ : ByteArray) (W : World) : Prop where
  b1 : W.heap[B + 1]? = some (.cells #[.string ⟨#[120]⟩, .int .i64 0] 80 (0, 0))
  b2 : W.heap[B + 1 + 1]? = some (.cells #[.int .i64 1, .string ⟨#[120]⟩, .int .i64 2, .int .i64 0, .string ⟨#[]⟩, .int .i64 4, .string ⟨#[108]⟩, .int .i64 1, .int .i64 0, .string ⟨#[120]⟩] 99 (0, 0))
  b3 : W.heap[B + 1 + 1 + 1]? = some (.cells #[.string ⟨#[97]⟩, .int .i64 1, .slice (some ⟨B + 1, 0, none⟩) 1 1, .slice (some ⟨B + 1 + 1, 0, none⟩) 2 2, .string ⟨#[98]⟩, .int .i64 2, .slice none 0 0, .slice none 0 0] 36 (0, 0))
  b4 : W.heap[B + 1 + 1 + 1 + 1]? = some (.cells #[.string ⟨#[108]⟩, .string ⟨#[97]⟩, .string ⟨#[98]⟩, .int .i64 5, .int .i64 1] 57 (0, 0))
  b5 : W.heap[B + 1 + 1 + 1 + 1 + 1]? = some (.cells #[.string to_, .int .i64 1, .int .i64 7] 60 (0, 0))
theorem SmAt.below {B : Nat} {to_ : ByteArray} {W W' : World} (h : SmAt B to_ W) (hb : Below W.heap.size W W') : SmAt B to_ W' :=
  ⟨heap_below h.b1 hb (heap_lt h.b1), heap_below h.b2 hb (heap_lt h.b2), heap_below h.b3 hb (heap_lt h.b3), heap_below h.b4 hb (heap_lt h.b4), heap_below h.b5 hb (heap_lt h.b5)⟩
theorem SmAt.at_ {B : Nat} {to_ : ByteArray} {W : World} (h : SmAt B to_ W) (ht : to_.size ≤ maxLen) : ModelAt W.heap.size W (smV B to_) := by
  refine ⟨rows_block (enc := encP) (L := [smP0 B, smP1]) (fun _ => rfl) h.b3 rfl (by show 2 ≤ maxLen; decide) (fun p hp => ?_) rfl, fun p hp => ?_, rows_block (enc := encL) (L := [(⟨smL, smA, smB, 5, 1⟩ : LinkM)]) (fun _ => rfl) h.b4 rfl (by show 1 ≤ maxLen; decide) (fun p hp => ?_) rfl, rows_block (enc := encE) (L := [(⟨to_, 1, 7⟩ : EventM)]) (fun _ => rfl) h.b5 rfl (by show 1 ≤ maxLen; decide) (fun p hp => ?_) rfl⟩
  · simp only [smV, List.mem_cons, List.not_mem_nil, or_false] at hp
    rcases hp with rfl | rfl <;> (show (1 : Nat) ≤ maxLen; decide)
  · simp only [smV, List.mem_cons, List.not_mem_nil, or_false] at hp
    rcases hp with rfl | rfl
    · refine ⟨rows_block (enc := encV) (fun _ => rfl) h.b1 rfl (by show (1 : Nat) ≤ maxLen; decide) (fun p hp => ?_) rfl, rows_block (enc := encS) (fun _ => rfl) h.b2 rfl (by show (2 : Nat) ≤ maxLen; decide) (fun p hp => ?_) rfl⟩
      · simp only [smP0, List.mem_cons, List.not_mem_nil, or_false] at hp
        subst hp
        unfold fitV
        decide
      · simp only [smP0, List.mem_cons, List.not_mem_nil, or_false] at hp
        rcases hp with rfl | rfl <;> (unfold fitS; decide)
    · exact ⟨RowsAt.nil rfl rfl, RowsAt.nil rfl rfl⟩
  · simp only [smV, List.mem_cons, List.not_mem_nil, or_false] at hp
    subst hp
    unfold fitL
    decide
  · simp only [smV, List.mem_cons, List.not_mem_nil, or_false] at hp
    subst hp
    exact ht
def SmP (w : World) (e : Ending) (w' : World) : Prop := e = .returned (.agg #[.int .i64 3, .slice (some ⟨w.heap.size + 1 + 1 + 1, 0, none⟩) 2 2, .slice (some ⟨w.heap.size + 1 + 1 + 1 + 1, 0, none⟩) 1 1, .slice (some ⟨w.heap.size + 1 + 1 + 1 + 1 + 1, 0, none⟩) 1 1]) ∧ SmAt w.heap.size ⟨#[97]⟩ w' ∧ Below w.heap.size w w' ∧ w'.heap.size = w.heap.size + 1 + 1 + 1 + 1 + 1 + 1
set_option maxRecDepth 100000 in
set_option maxHeartbeats 4000000 in
theorem sample_any {w : World} : Calls Try.prog 31 #[] w (SmP w) := by
  go_enter Try.func31, Try.ntmps31
  go_wp2
  have hx0 := heap_alloc (heap_alloc (heap_alloc (heap_alloc (heap_alloc (heap_new (w := w) (.cells #[.int .i64 3, .slice (some ⟨w.heap.size + 1 + 1 + 1, 0, none⟩) 2 2, .slice (some ⟨w.heap.size + 1 + 1 + 1 + 1, 0, none⟩) 1 1, .slice (some ⟨w.heap.size + 1 + 1 + 1 + 1 + 1, 0, none⟩) 1 1] 26) rfl) (.cells #[.string ⟨#[120]⟩, .int .i64 0] 80)) (.cells #[.int .i64 1, .string ⟨#[120]⟩, .int .i64 2, .int .i64 0, .string ⟨#[]⟩, .int .i64 4, .string ⟨#[108]⟩, .int .i64 1, .int .i64 0, .string ⟨#[120]⟩] 99)) (.cells #[.string ⟨#[97]⟩, .int .i64 1, .slice (some ⟨w.heap.size + 1, 0, none⟩) 1 1, .slice (some ⟨w.heap.size + 1 + 1, 0, none⟩) 2 2, .string ⟨#[98]⟩, .int .i64 2, .slice none 0 0, .slice none 0 0] 36)) (.cells #[.string ⟨#[108]⟩, .string ⟨#[97]⟩, .string ⟨#[98]⟩, .int .i64 5, .int .i64 1] 57)) (.cells #[.string ⟨#[97]⟩, .int .i64 1, .int .i64 7] 60)
  have k0 := heap_cell hx0 (i := 0) rfl
  have k1 := heap_cell hx0 (i := 1) rfl
  have k2 := heap_cell hx0 (i := 2) rfl
  have k3 := heap_cell hx0 (i := 3) rfl
  simp only [List.getElem_toArray, List.getElem_cons_zero, List.getElem_cons_succ] at k0 k1 k2 k3
  refine ⟨rfl, _, by simp [results, Try.f31, go_sem, k0, k1, k2, k3], rfl, ⟨?_, ?_, ?_, ?_, ?_⟩, ?_, by simp⟩
  · exact heap_alloc (heap_alloc (heap_alloc (heap_alloc (heap_new _ (by simp)) _) _) _) _
  · exact heap_alloc (heap_alloc (heap_alloc (heap_new _ (by simp)) _) _) _
  · exact heap_alloc (heap_alloc (heap_new _ (by simp)) _) _
  · exact heap_alloc (heap_new _ (by simp)) _
  · exact heap_new _ (by simp)
  · exact ((((((Below.refl _ w).alloc (Nat.le_refl _) _).alloc (by simp) _).alloc (by simp; omega) _).alloc (by simp; omega) _).alloc (by simp; omega) _).alloc (by simp; omega) _
theorem sm_good : mdE (smM ⟨#[97]⟩) = (0, 0) := by kernel_rfl
theorem sm_bad : mdE (smM ⟨#[99]⟩) = (4, 4) := by kernel_rfl
theorem sm_3 : mdE ⟨3, [], [], []⟩ = (0, 0) := by kernel_rfl
theorem sm_0 : mdE ⟨0, [], [], []⟩ = (43, 0) := by kernel_rfl
theorem sm_b : plcI (nmsP (smM ⟨#[97]⟩)) ⟨#[98]⟩ = 1 := by kernel_rfl
theorem sm_x : plcI (nmsL (smM ⟨#[97]⟩)) ⟨#[120]⟩ = -1 := by kernel_rfl
theorem sm_v (B : Nat) : plcI (vNames (smP0 B).p) ⟨#[120]⟩ = 0 := by kernel_rfl
theorem sm_n : (upTo 99 (mdN (smM ⟨#[97]⟩))).length = 4 := by kernel_rfl
end Go.Proofs.Ytgnlehenbdcgmaa.Md
