/- General: a copied row of structs, one cell of which is turned. -/
import Derived.Test.YtgnlehenbdcgmaaMdY
import Derived.Test.YtgnlehenbdcgmaaMdX
set_option linter.unusedVariables false
set_option linter.unusedSectionVars false
set_option linter.unusedSimpArgs false
namespace Go.Proofs.Ytgnlehenbdcgmaa.Md
open Go.RowKit Go.Shelf

section
variable {α : Type} {enc : α → List Value} {fit : α → Prop} {sz : Nat}
theorem flat_at (hsz : ∀ x, (enc x).length = sz) : ∀ (L : List α) (j : Nat) (u : Value), (L.flatMap enc)[j]? = some u → ∃ i x r, L[i]? = some x ∧ (enc x)[r]? = some u ∧ j = i * sz + r
  | [], j, u, h => by simp at h
  | y :: L, j, u, h => by
    rw [List.flatMap_cons] at h
    by_cases hj : j < sz
    · rw [List.getElem?_append_left (by rw [hsz]; exact hj)] at h
      exact ⟨0, y, j, rfl, h, by omega⟩
    · rw [List.getElem?_append_right (by rw [hsz]; omega), hsz] at h
      obtain ⟨i, x, r, h1, h2, h3⟩ := flat_at hsz L _ u h
      exact ⟨i + 1, x, r, by simpa using h1, h2, by rw [Nat.add_mul]; omega⟩
theorem rows_cells (hsz : ∀ x, (enc x).length = sz) {B : Nat} {w : World} {b off n : Nat} {a : Option Addr} {L : List α} (h : RowsAt enc fit sz B w a b off n L) : ∀ j u, (L.flatMap enc)[j]? = some u → w.cell? ((⟨b, off, none⟩ : Addr).add j) = some u := by
  intro j u hu
  obtain ⟨i, x, r, h1, h2, rfl⟩ := flat_at hsz L j u hu
  rw [addr_add]
  have := h.cell i x h1 r u h2
  rwa [show off + (i * sz + r) = off + i * sz + r by omega]
/-- A row of one's own. -/
structure RowC (enc : α → List Value) (sz : Nat) (W : World) (g : Nat) (t : TypeId) (L : List α) : Prop where
  row : ∃ cur, W.heap[g]? = some (.cells cur t (0, 0)) ∧ ∀ i x, L[i]? = some x → ∀ r u, (enc x)[r]? = some u → cur[i * sz + r]? = some u
variable {W W' : World} {g : Nat} {t : TypeId} {L : List α}
theorem RowC.lt (h : RowC enc sz W g t L) : g < W.heap.size := by obtain ⟨_, h, _⟩ := h; exact heap_lt h
theorem RowC.on (h : RowC enc sz W g t L) (hb : Below W.heap.size W W') : RowC enc sz W' g t L := by
  have := h.lt
  obtain ⟨cur, h1, h2⟩ := h
  exact ⟨cur, heap_below h1 hb this, h2⟩
theorem RowC.cell (h : RowC enc sz W g t L) {i : Nat} {x : α} (hi : L[i]? = some x) {r : Nat} {u : Value} (hu : (enc x)[r]? = some u) : W.cell? ⟨g, i * sz + r, none⟩ = some u := by
  obtain ⟨cur, h1, h2⟩ := h
  exact heap_cell h1 (h2 i x hi r u hu)
theorem RowC.frozen (h : RowC enc sz W g t L) (i : Nat) : W.frozen? ⟨g, i, none⟩ = false := by
  obtain ⟨cur, h1, _⟩ := h
  exact heap_frozen h1 i
theorem RowC.other (h : RowC enc sz W g t L) {b : Nat} (hb : g ≠ b) (i : Nat) (v : Value) : RowC enc sz (W.setCell ⟨b, i, none⟩ v) g t L := by
  obtain ⟨cur, h1, h2⟩ := h
  exact ⟨cur, heap_other h1 hb i v, h2⟩
theorem RowC.rows (h : RowC enc sz W g t L) (hm : L.length ≤ maxLen) (hf : ∀ x ∈ L, fit x) : RowsAt enc fit sz W.heap.size W (some ⟨g, 0, none⟩) g 0 L.length L :=
  ⟨.inr rfl, rfl, hm, .inr h.lt, fun i x hi j u hu => by rw [Nat.zero_add]; exact h.cell hi hu, hf⟩
theorem idx_eq {sz i k r q : Nat} (hr : r < sz) (hq : q < sz) (h : i * sz + r = k * sz + q) : i = k ∧ r = q := by
  have h1 : (i * sz + r) % sz = r := by rw [Nat.mul_comm, Nat.mul_add_mod, Nat.mod_eq_of_lt hr]
  have h2 : (k * sz + q) % sz = q := by rw [Nat.mul_comm, Nat.mul_add_mod, Nat.mod_eq_of_lt hq]
  have h3 : r = q := by rw [← h1, ← h2, h]
  subst h3
  have h4 : i * sz = k * sz := by omega
  exact ⟨Nat.eq_of_mul_eq_mul_right (by omega) h4, rfl⟩
theorem RowC.set (hsz : ∀ x, (enc x).length = sz) (h : RowC enc sz W g t L) {k : Nat} {x x' : α} (hk : L[k]? = some x) {q : Nat} (hq : q < sz) {v : Value} (h' : ∀ r u, (enc x')[r]? = some u → (r = q ∧ u = v) ∨ (r ≠ q ∧ (enc x)[r]? = some u)) : RowC enc sz (W.setCell ⟨g, k * sz + q, none⟩ v) g t (L.set k x') := by
  obtain ⟨cur, h1, h2⟩ := h
  have hkl := (List.getElem?_eq_some_iff.1 hk).1
  have hb : ∃ u, cur[k * sz + q]? = some u := by
    have hq' : q < (enc x).length := by rw [hsz]; exact hq
    exact ⟨_, h2 k x hk q _ (List.getElem?_eq_getElem hq')⟩
  obtain ⟨u0, hu0⟩ := hb
  have hlt := (Array.getElem?_eq_some_iff.1 hu0).1
  refine ⟨_, heap_set h1 (k * sz + q) v, fun i y hi r u hu => ?_⟩
  have hr : ∀ z : α, (enc z)[r]? = some u → r < sz := fun z hz => by rw [← hsz z]; exact (List.getElem?_eq_some_iff.1 hz).1
  by_cases e : i = k
  · subst e
    rw [List.getElem?_set_self hkl] at hi
    cases hi
    rcases h' r u hu with ⟨rfl, rfl⟩ | ⟨hne, hx⟩
    · simp [hlt]
    · have := h2 i x hk r u hx
      rw [Array.getElem?_setIfInBounds_ne (by omega)]
      exact this
  · rw [List.getElem?_set_ne (fun h => e h.symm)] at hi
    have := h2 i y hi r u hu
    rw [Array.getElem?_setIfInBounds_ne (fun h => e (idx_eq (hr y hu) hq h.symm).1)]
    exact this
theorem rowc_owned (hsz : ∀ x, (enc x).length = sz) {base : Nat} {v : Value} {n : Nat} (h : W.ownsRow base t sz v n (L.flatMap enc)) (hn : n = L.length) (h0 : 0 < n) : ∃ g cap, v = .slice (some ⟨g, 0, none⟩) n cap ∧ base ≤ g ∧ RowC enc sz W g t L := by
  rcases h.2 with ⟨rfl, h1⟩ | ⟨g, cap, cur, rfl, hb, hg, hnc, hcm, hcs, htake⟩
  · omega
  · refine ⟨g, cap, rfl, hb, cur, hg, fun i x hi r u hu => ?_⟩
    have h2 := rows_flat hsz L i x hi r u hu
    rw [← htake] at h2
    rw [List.getElem?_take] at h2
    split at h2
    · rw [← Array.getElem?_toList]
      exact h2
    · cases h2
end
end Go.Proofs.Ytgnlehenbdcgmaa.Md
