/- General: rows of structs, rows of one's own, and appends to them. -/
import Derived.Test.YtjcmeacgfflfmaaGreatMdD
import Derived.Test.YtjcmeacgfflfmaaGreatRg
import Derived.Test.YtjcmeacgfflfmaaGreatBg
import Derived.Lib.LazyBuf
import Derived.Laws.AppendOwnNone
set_option linter.unusedVariables false
set_option linter.unusedSectionVars false
set_option linter.unusedSimpArgs false
namespace Go.Proofs.YtjcmeacgfflfmaaGreat.Md
open Go.RowKit Go.Shelf

theorem rows_flat {α : Type} {enc : α → List Value} {sz : Nat} (hsz : ∀ x, (enc x).length = sz) : ∀ (L : List α) (i : Nat) (x : α), L[i]? = some x → ∀ j u, (enc x)[j]? = some u → (L.flatMap enc)[i * sz + j]? = some u
  | [], i, x, h, _, _, _ => by simp at h
  | y :: L, 0, x, h, j, u, hu => by
    have : y = x := by simpa using h
    subst this
    have hj := (List.getElem?_eq_some_iff.1 hu).1
    rw [Nat.zero_mul, Nat.zero_add, List.flatMap_cons, List.getElem?_append_left hj]
    exact hu
  | y :: L, i + 1, x, h, j, u, hu => by
    rw [List.flatMap_cons, List.getElem?_append_right (by rw [hsz]; rw [Nat.add_mul]; omega), hsz]
    rw [show (i + 1) * sz + j - sz = i * sz + j by rw [Nat.add_mul]; omega]
    exact rows_flat hsz L i x (by simpa using h) j u hu
theorem rows_block {α : Type} {enc : α → List Value} {fit : α → Prop} {sz : Nat} (hsz : ∀ x, (enc x).length = sz) {W : World} {b : Nat} {L : List α} {cs : Array Value} {t : TypeId} (h : W.heap[b]? = some (.cells cs t (0, 0))) (hcs : cs.toList = L.flatMap enc) (hm : L.length ≤ maxLen) (hf : ∀ x ∈ L, fit x) {len : Nat} (hl : L.length = len) :
    RowsAt enc fit sz W.heap.size W (some ⟨b, 0, none⟩) b 0 len L :=
  ⟨.inr rfl, hl, by omega, .inr (heap_lt h), fun i x hi j u hu => by
    have h1 := rows_flat hsz L i x hi j u hu
    rw [← hcs, Array.getElem?_toList] at h1
    rw [Nat.zero_add]
    exact heap_cell h h1, hf⟩
/-- As 'wpList_append_gath'; what is turned is its own row. -/
theorem wpList_append_gathP {P : Program} (w : World) {ops : Array Oper} {rest : List Oper} {o : Oper} {a : Act} {Q : Exit → Act → World → Prop} (hgd : o.guard = none) (s x : Operand) (t : TypeId)
    (ho : o.op = .call { callee := .builtin .append, args := #[s, x], argTypes := #[t, t] })
    (base : Nat) (e : TypeId) (i : TypeInfo) (z : Value) (size bytes : Nat) (ht : P.underlying t = some (.slice e)) (hi : P.info? e = some i) (hz : i.zero = some z)
    (hsize : i.size = size) (hby : i.bytes = bytes) (hzs : z.cells.size = size) (hsz : 0 < size)
    (v : Value) (n : Nat) (xs : List Value) (hs : a.eval s = v) (hown : Gath w base e size v n xs)
    (ad : Addr) (m c : Nat) (news : List Value) (hx : a.eval x = .slice (some ad) m c) (hl : news.length = m * size) (hnews : ∀ j u, news[j]? = some u → w.cell? (ad.add j) = some u) (h1 : ∀ u ∈ news, u.oneCell' = true)
    (hm : 0 < m) (h63 : n + m ≤ maxLen) (hbytes : (n + m) * bytes ≤ 140737488355328) (hbase : base ≤ w.heap.size)
    (h : ∀ v' w' row, w'.ownsRow base e size v' (n + m) (xs ++ news) → w.grownBy w' row → (∀ g, row = some g → v.ownBlock = some g ∧ base ≤ g) → wpList P ops Q rest (a.put o.dst v') w') : wpList P ops Q (o :: rest) a w := by
  rcases hown with ⟨rfl, rfl, ao, rfl⟩ | hown
  · refine wpList_append_grows w hgd s x t ho e i z size bytes ht hi hz hsize hby hzs hsz ao 0 0 [] hs (fun _ => ⟨rfl, rfl⟩) (by simp) (fun b _ j u hj => by simp at hj) ad m c news hx hl hnews h1 (by omega) h63 hbytes ?_
    intro v' w' h2 h3
    exact h v' w' none (ownsRow_base h2 hbase) h3 (fun k hk => by cases hk)
  · refine wpList_append_own w hgd s x t ho base e i z size bytes ht hi hz hsize hby hzs hsz v n xs hs hown ad m c news hx hl hnews h1 h63 hbytes hbase ?_
    intro v' w' h2 h3 _
    exact h v' w' _ h2 h3 (fun k hk => ⟨hk, (hown.lt k hk).1⟩)
def zP : Array Value := #[.string ⟨#[]⟩, .int .i64 0, .slice none 0 0, .slice none 0 0]
def zL : Array Value := #[.string ⟨#[]⟩, .string ⟨#[]⟩, .string ⟨#[]⟩, .int .i64 0, .int .i64 0]
def zE : Array Value := #[.string ⟨#[]⟩, .int .i64 0, .int .i64 0]
def zV : Array Value := #[.string ⟨#[]⟩, .int .i64 0]
theorem Tryz.infoP : (Tryz.prog.info? 34).map (fun i => (i.zero, i.size, i.bytes)) = some (some (.agg zP), 4, 72) := by kernel_rfl
theorem Tryz.infoL : (Tryz.prog.info? 42).map (fun i => (i.zero, i.size, i.bytes)) = some (some (.agg zL), 5, 64) := by kernel_rfl
theorem Tryz.infoE : (Tryz.prog.info? 57).map (fun i => (i.zero, i.size, i.bytes)) = some (some (.agg zE), 3, 32) := by kernel_rfl
theorem Tryz.infoV : (Tryz.prog.info? 40).map (fun i => (i.zero, i.size, i.bytes)) = some (some (.agg zV), 2, 24) := by kernel_rfl
/-- What was gathered, as rows. -/
theorem rows_gath {α : Type} {enc : α → List Value} {fit : α → Prop} {sz : Nat} (hsz : ∀ x, (enc x).length = sz) {W : World} {base : Nat} {e : TypeId} {v : Value} {L : List α} (h : Gath W base e sz v L.length (L.flatMap enc)) (hm : L.length ≤ maxLen) (hf : ∀ x ∈ L, fit x) : ∃ a c g, v = .slice a L.length c ∧ RowsAt enc fit sz W.heap.size W a g 0 L.length L := by
  rcases h with ⟨h1, _, ao, rfl⟩ | h
  · exact ⟨ao, 0, 0, by rw [h1], RowsAt.nil h1 (List.eq_nil_of_length_eq_zero h1)⟩
  · rcases h.2 with ⟨rfl, h1⟩ | ⟨g, cap, cur, rfl, hb, hg, hnc, hcm, hcs, htake⟩
    · exact ⟨none, 0, 0, by rw [h1], RowsAt.nil h1 (List.eq_nil_of_length_eq_zero h1)⟩
    · refine ⟨_, cap, g, rfl, .inr rfl, rfl, hm, .inr (heap_lt hg), fun i x hi j u hu => ?_, hf⟩
      have h2 := rows_flat hsz L i x hi j u hu
      have := h.cells (g := g) rfl _ _ h2
      rw [addr_add, Nat.zero_add] at this
      rw [Nat.zero_add]
      exact this
section
variable {α : Type} {enc : α → List Value} {fit : α → Prop} {sz : Nat}
theorem flat_at (hsz : ∀ x, (enc x).length = sz) : ∀ (L : List α) (j : Nat) (u : Value), (L.flatMap enc)[j]? = some u → ∃ i x r, L[i]? = some x ∧ (enc x)[r]? = some u ∧ j = i * sz + r
  | [], j, u, h => by simp at h
  | y :: L, j, u, h => by
    rw [List.flatMap_cons] at h
    by_cases hj : j < sz
    · rw [List.getElem?_append_left (by rw [hsz]; exact hj)] at h
      exact ⟨0, y, j, rfl, h, by omega⟩
    · rw [List.getElem?_append_right (by rw [hsz]; omega), hsz] at h
      obtain ⟨i, x, r, h1, h2, h3⟩ := flat_at hsz L _ u h
      exact ⟨i + 1, x, r, by simpa using h1, h2, by rw [Nat.add_mul]; omega⟩
theorem rows_cells (hsz : ∀ x, (enc x).length = sz) {B : Nat} {w : World} {b off n : Nat} {a : Option Addr} {L : List α} (h : RowsAt enc fit sz B w a b off n L) : ∀ j u, (L.flatMap enc)[j]? = some u → w.cell? ((⟨b, off, none⟩ : Addr).add j) = some u := by
  intro j u hu
  obtain ⟨i, x, r, h1, h2, rfl⟩ := flat_at hsz L j u hu
  rw [addr_add]
  have := h.cell i x h1 r u h2
  rwa [show off + (i * sz + r) = off + i * sz + r by omega]
/-- A row of one's own. -/
structure RowC (enc : α → List Value) (sz : Nat) (W : World) (g : Nat) (t : TypeId) (L : List α) : Prop where
  row : ∃ cur, W.heap[g]? = some (.cells cur t (0, 0)) ∧ ∀ i x, L[i]? = some x → ∀ r u, (enc x)[r]? = some u → cur[i * sz + r]? = some u
variable {W W' : World} {g : Nat} {t : TypeId} {L : List α}
theorem RowC.lt (h : RowC enc sz W g t L) : g < W.heap.size := by obtain ⟨_, h, _⟩ := h; exact heap_lt h
theorem RowC.on (h : RowC enc sz W g t L) (hb : Below W.heap.size W W') : RowC enc sz W' g t L := by
  have := h.lt
  obtain ⟨cur, h1, h2⟩ := h
  exact ⟨cur, heap_below h1 hb this, h2⟩
theorem RowC.cell (h : RowC enc sz W g t L) {i : Nat} {x : α} (hi : L[i]? = some x) {r : Nat} {u : Value} (hu : (enc x)[r]? = some u) : W.cell? ⟨g, i * sz + r, none⟩ = some u := by
  obtain ⟨cur, h1, h2⟩ := h
  exact heap_cell h1 (h2 i x hi r u hu)
theorem RowC.frozen (h : RowC enc sz W g t L) (i : Nat) : W.frozen? ⟨g, i, none⟩ = false := by
  obtain ⟨cur, h1, _⟩ := h
  exact heap_frozen h1 i
theorem RowC.other (h : RowC enc sz W g t L) {b : Nat} (hb : g ≠ b) (i : Nat) (v : Value) : RowC enc sz (W.setCell ⟨b, i, none⟩ v) g t L := by
  obtain ⟨cur, h1, h2⟩ := h
  exact ⟨cur, heap_other h1 hb i v, h2⟩
theorem RowC.rows (h : RowC enc sz W g t L) (hm : L.length ≤ maxLen) (hf : ∀ x ∈ L, fit x) : RowsAt enc fit sz W.heap.size W (some ⟨g, 0, none⟩) g 0 L.length L :=
  ⟨.inr rfl, rfl, hm, .inr h.lt, fun i x hi j u hu => by rw [Nat.zero_add]; exact h.cell hi hu, hf⟩
theorem idx_eq {sz i k r q : Nat} (hr : r < sz) (hq : q < sz) (h : i * sz + r = k * sz + q) : i = k ∧ r = q := by
  have h1 : (i * sz + r) % sz = r := by rw [Nat.mul_comm, Nat.mul_add_mod, Nat.mod_eq_of_lt hr]
  have h2 : (k * sz + q) % sz = q := by rw [Nat.mul_comm, Nat.mul_add_mod, Nat.mod_eq_of_lt hq]
  have h3 : r = q := by rw [← h1, ← h2, h]
  subst h3
  have h4 : i * sz = k * sz := by omega
  exact ⟨Nat.eq_of_mul_eq_mul_right (by omega) h4, rfl⟩
theorem RowC.set (hsz : ∀ x, (enc x).length = sz) (h : RowC enc sz W g t L) {k : Nat} {x x' : α} (hk : L[k]? = some x) {q : Nat} (hq : q < sz) {v : Value} (h' : ∀ r u, (enc x')[r]? = some u → (r = q ∧ u = v) ∨ (r ≠ q ∧ (enc x)[r]? = some u)) : RowC enc sz (W.setCell ⟨g, k * sz + q, none⟩ v) g t (L.set k x') := by
  obtain ⟨cur, h1, h2⟩ := h
  have hkl := (List.getElem?_eq_some_iff.1 hk).1
  have hb : ∃ u, cur[k * sz + q]? = some u := by
    have hq' : q < (enc x).length := by rw [hsz]; exact hq
    exact ⟨_, h2 k x hk q _ (List.getElem?_eq_getElem hq')⟩
  obtain ⟨u0, hu0⟩ := hb
  have hlt := (Array.getElem?_eq_some_iff.1 hu0).1
  refine ⟨_, heap_set h1 (k * sz + q) v, fun i y hi r u hu => ?_⟩
  have hr : ∀ z : α, (enc z)[r]? = some u → r < sz := fun z hz => by rw [← hsz z]; exact (List.getElem?_eq_some_iff.1 hz).1
  by_cases e : i = k
  · subst e
    rw [List.getElem?_set_self hkl] at hi
    cases hi
    rcases h' r u hu with ⟨rfl, rfl⟩ | ⟨hne, hx⟩
    · simp [hlt]
    · have := h2 i x hk r u hx
      rw [Array.getElem?_setIfInBounds_ne (by omega)]
      exact this
  · rw [List.getElem?_set_ne (fun h => e h.symm)] at hi
    have := h2 i y hi r u hu
    rw [Array.getElem?_setIfInBounds_ne (fun h => e (idx_eq (hr y hu) hq h.symm).1)]
    exact this
theorem rowc_owned (hsz : ∀ x, (enc x).length = sz) {base : Nat} {v : Value} {n : Nat} (h : W.ownsRow base t sz v n (L.flatMap enc)) (hn : n = L.length) (h0 : 0 < n) : ∃ g cap, v = .slice (some ⟨g, 0, none⟩) n cap ∧ base ≤ g ∧ RowC enc sz W g t L := by
  rcases h.2 with ⟨rfl, h1⟩ | ⟨g, cap, cur, rfl, hb, hg, hnc, hcm, hcs, htake⟩
  · omega
  · refine ⟨g, cap, rfl, hb, cur, hg, fun i x hi r u hu => ?_⟩
    have h2 := rows_flat hsz L i x hi r u hu
    rw [← htake] at h2
    rw [List.getElem?_take] at h2
    split at h2
    · rw [← Array.getElem?_toList]
      exact h2
    · cases h2
end
theorem wpList_append_zero {P : Program} {w : World} {ops : Array Oper} {rest : List Oper} {o : Oper} {a : Act} {Q : Exit → Act → World → Prop} (hgd : o.guard = none) (s x : Operand) (t : TypeId)
    (ho : o.op = .call { callee := .builtin .append, args := #[s, x], argTypes := #[t, t] })
    (e : TypeId) (i : TypeInfo) (ht : P.underlying t = some (.slice e)) (hi : P.info? e = some i)
    (ad : Addr) (hs : a.eval s = .slice (some ad) 0 0) (px : Option Addr) (c : Nat) (hx : a.eval x = .slice px 0 c)
    (h : wpList P ops Q rest (a.put o.dst (.slice (some ad) 0 0)) w) : wpList P ops Q (o :: rest) a w := by
  refine wpList_plain hgd fun K hK => ?_
  have hrun : (Builtin.append_ #[t, t] o.type #[.slice (some ad) 0 0, .slice px 0 c]).run P w = .ok (.slice (some ad) 0 0) w := by
    cases px <;> simp [Builtin.append_, run_underlying ht, sizeOf, typeInfo, hi, Builtin.lenOf, Builtin.firstCells, storeCells, loadCells, loadCellsFrom, Result.andThen]
  unfold Oper.wp
  simp [execOp, ho, resolve, invoke, builtin, hs, hx, hrun, Result.andThen]
  exact hK _ _ h
/-- Blocks of R may be turned. -/
theorem Turned.refl' (R : Nat → Prop) (w : World) : Turned R w w := ⟨rfl, rfl, rfl, Nat.le_refl _, fun _ _ _ => rfl⟩
theorem Turned.trans' {R : Nat → Prop} {W W' W'' : World} (h : Turned R W W') (k : Turned R W' W'') : Turned R W W'' :=
  ⟨k.os.trans h.os, k.tape.trans h.tape, k.output.trans h.output, Nat.le_trans h.size k.size, fun c hc hn => (k.block c (Nat.lt_of_lt_of_le hc h.size) hn).trans (h.block c hc hn)⟩
theorem Turned.weak' {R R' : Nat → Prop} {W W' : World} (h : Turned R W W') (hR : ∀ k, k < W.heap.size → R k → R' k) : Turned R' W W' :=
  ⟨h.os, h.tape, h.output, h.size, fun k hk hn => h.block k hk (fun e => hn (hR k hk e))⟩
theorem Turned.drew' {R : Nat → Prop} {w W : World} (h : Turned R w W) : Turned R w W.drew := ⟨h.os, h.tape, h.output, h.size, h.block⟩
theorem Turned.of_b {R : Nat → Prop} {w w' : World} (h : Below w.heap.size w w') : Turned R w w' := ⟨h.os, h.tape, h.output, h.size, fun k hk _ => h.block k hk⟩
theorem Turned.to_b {R : Nat → Prop} {w w' : World} {B : Nat} (h : Turned R w w') (hB : ∀ k, k < B → ¬ R k) (hs : B ≤ w.heap.size) : Below B w w' := ⟨h.os, h.tape, h.output, h.size, fun k hk => h.block k (Nat.lt_of_lt_of_le hk hs) (hB k hk)⟩
theorem Turned.alloc' {R : Nat → Prop} {w W : World} (h : Turned R w W) (o : Obj) : Turned R w (W.alloc o) := Turned.trans' h (Turned.of_b (below_one W o))
theorem Turned.set' {R : Nat → Prop} {w W : World} (h : Turned R w W) {c : Nat} (hc : R c) (i : Nat) (x : Value) : Turned R w (W.setCell ⟨c, i, none⟩ x) := by
  refine Turned.trans' h ?_
  have hb := (Below.refl c W).setCell (p := ⟨c, i, none⟩) (Nat.le_refl _) x
  refine ⟨hb.os, hb.tape, hb.output, by rw [size_set]; exact Nat.le_refl _, fun k hk hn => ?_⟩
  have hne : k ≠ c := fun e => hn (e ▸ hc)
  cases h0 : W.heap[k]? with
  | none => rw [Array.getElem?_eq_none_iff] at h0; omega
  | some ob =>
    exact heap_other h0 hne i x
theorem Turned.cell' {R : Nat → Prop} {w w' : World} (h : Turned R w w') {p : Addr} (hp : p.block < w.heap.size) (hn : ¬ R p.block) : w'.cell? p = w.cell? p := by
  unfold World.cell?
  rw [h.block _ hp hn]
section
variable {α : Type} {enc : α → List Value} {fit : α → Prop} {sz : Nat} {t : TypeId} {base : Nat} {W W' : World} {a : Option Addr} {b off n : Nat} {L : List α}
/-- A row that is none, or lies in a block of one's own. -/
structure OwnR (enc : α → List Value) (fit : α → Prop) (sz : Nat) (t : TypeId) (base : Nat) (W : World) (a : Option Addr) (b : Nat) (L : List α) : Prop where
  own : L = [] ∨ (a = some ⟨b, 0, none⟩ ∧ base ≤ b ∧ RowC enc sz W b t L)
  small : L.length ≤ maxLen
  fits : ∀ x ∈ L, fit x
theorem OwnR.rows (h : OwnR enc fit sz t base W a b L) : RowsAt enc fit sz W.heap.size W a b 0 L.length L := by
  rcases h.own with rfl | ⟨rfl, _, h2⟩
  · exact RowsAt.nil rfl rfl
  · exact h2.rows h.small h.fits
theorem RowC.turned {R : Nat → Prop} (h : RowC enc sz W b t L) (hT : Turned R W W') (hn : ¬ R b) : RowC enc sz W' b t L := by
  obtain ⟨cur, h1, h2⟩ := h
  exact ⟨cur, hT.old h1 hn, h2⟩
theorem OwnR.turned {R : Nat → Prop} (h : OwnR enc fit sz t base W a b L) (hT : Turned R W W') (hn : base ≤ b → ∀ cur, W.heap[b]? = some (.cells cur t (0, 0)) → ¬ R b) : OwnR enc fit sz t base W' a b L :=
  ⟨h.own.imp id (fun ⟨h1, h2, h3⟩ => ⟨h1, h2, h3.turned hT (by obtain ⟨cur, hc, _⟩ := h3; exact hn h2 cur hc)⟩), h.small, h.fits⟩
theorem OwnR.on (h : OwnR enc fit sz t base W a b L) (hb : Below W.heap.size W W') : OwnR enc fit sz t base W' a b L :=
  ⟨h.own.imp id (fun ⟨h1, h2, h3⟩ => ⟨h1, h2, h3.on hb⟩), h.small, h.fits⟩
theorem OwnR.mono {base' : Nat} (h : OwnR enc fit sz t base W a b L) (hb : base' ≤ base) : OwnR enc fit sz t base' W a b L :=
  ⟨h.own.imp id (fun ⟨h1, h2, h3⟩ => ⟨h1, Nat.le_trans hb h2, h3⟩), h.small, h.fits⟩
theorem RowsAt.turned {R : Nat → Prop} {B : Nat} (h : RowsAt enc fit sz B W a b off n L) (hT : Turned R W W') (hB : ∀ k, k < B → ¬ R k) (hs : B ≤ W.heap.size) : RowsAt enc fit sz B W' a b off n L :=
  h.kept (Turned.to_b hT hB hs) (Nat.le_refl _)
end
/-- What a clone is. -/
def CloneQ {α : Type} (enc : α → List Value) (fit : α → Prop) (sz : Nat) (t : TypeId) (w : World) (len : Nat) (L : List α) (e : Ending) (w' : World) : Prop :=
  ∃ a' b' c', e = .returned (.slice a' len c') ∧ OwnR enc fit sz t w.heap.size w' a' b' L ∧ Below w.heap.size w w'
def zS : Array Value := #[.int .i64 0, .string ⟨#[]⟩, .int .i64 0, .int .i64 0, .string ⟨#[]⟩]
theorem Tryz.infoS : (Tryz.prog.info? 38).map (fun i => (i.zero, i.size, i.bytes)) = some (some (.agg zS), 5, 56) := by kernel_rfl
theorem flat_lenU {α : Type} {enc : α → List Value} {sz : Nat} (hsz : ∀ x, (enc x).length = sz) : ∀ L : List α, (L.flatMap enc).length = L.length * sz
  | [] => by simp
  | x :: r => by rw [List.flatMap_cons, List.length_append, hsz, flat_lenU hsz r, List.length_cons, Nat.add_mul]; omega

theorem onePU (L : List ProcV) : ∀ u ∈ L.flatMap encP, u.oneCell' = true := fun u hu => by
  obtain ⟨x, _, hx⟩ := List.mem_flatMap.1 hu
  unfold encP at hx
  simp only [List.mem_cons, List.not_mem_nil, or_false] at hx
  rcases hx with rfl | rfl | rfl | rfl <;> rfl
theorem oneLU (L : List LinkM) : ∀ u ∈ L.flatMap encL, u.oneCell' = true := fun u hu => by
  obtain ⟨x, _, hx⟩ := List.mem_flatMap.1 hu
  unfold encL at hx
  simp only [List.mem_cons, List.not_mem_nil, or_false] at hx
  rcases hx with rfl | rfl | rfl | rfl | rfl <;> rfl
theorem oneEU (L : List EventM) : ∀ u ∈ L.flatMap encE, u.oneCell' = true := fun u hu => by
  obtain ⟨x, _, hx⟩ := List.mem_flatMap.1 hu
  unfold encE at hx
  simp only [List.mem_cons, List.not_mem_nil, or_false] at hx
  rcases hx with rfl | rfl | rfl <;> rfl
theorem oneVU (L : List VarM) : ∀ u ∈ L.flatMap encV, u.oneCell' = true := fun u hu => by
  obtain ⟨x, _, hx⟩ := List.mem_flatMap.1 hu
  unfold encV at hx
  simp only [List.mem_cons, List.not_mem_nil, or_false] at hx
  rcases hx with rfl | rfl <;> rfl
theorem oneSU (L : List StepM) : ∀ u ∈ L.flatMap encS, u.oneCell' = true := fun u hu => by
  obtain ⟨x, _, hx⟩ := List.mem_flatMap.1 hu
  unfold encS at hx
  simp only [List.mem_cons, List.not_mem_nil, or_false] at hx
  rcases hx with rfl | rfl | rfl | rfl | rfl <;> rfl
end Go.Proofs.YtjcmeacgfflfmaaGreat.Md
