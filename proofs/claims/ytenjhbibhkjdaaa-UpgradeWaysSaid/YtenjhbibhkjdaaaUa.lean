/- General: rows of structs of one's own. Contracts: slices.Clone of processes, links, events, variables, steps. -/
import Derived.Test.YtenjhbibhkjdaaaMeZ
import Derived.Test.YtenjhbibhkjdaaaMdZ
import Derived.Lib.LazyBuf
set_option linter.unusedVariables false
set_option linter.unusedSectionVars false
set_option linter.unusedSimpArgs false
namespace Go.Proofs.Ytenjhbibhkjdaaa.Md
open Go.RowKit Go.Shelf

/-- Blocks of R may be turned. -/
theorem Turned.refl' (R : Nat → Prop) (w : World) : Turned R w w := ⟨rfl, rfl, rfl, Nat.le_refl _, fun _ _ _ => rfl⟩
theorem Turned.trans' {R : Nat → Prop} {W W' W'' : World} (h : Turned R W W') (k : Turned R W' W'') : Turned R W W'' :=
  ⟨k.os.trans h.os, k.tape.trans h.tape, k.output.trans h.output, Nat.le_trans h.size k.size, fun c hc hn => (k.block c (Nat.lt_of_lt_of_le hc h.size) hn).trans (h.block c hc hn)⟩
theorem Turned.weak' {R R' : Nat → Prop} {W W' : World} (h : Turned R W W') (hR : ∀ k, k < W.heap.size → R k → R' k) : Turned R' W W' :=
  ⟨h.os, h.tape, h.output, h.size, fun k hk hn => h.block k hk (fun e => hn (hR k hk e))⟩
theorem Turned.drew' {R : Nat → Prop} {w W : World} (h : Turned R w W) : Turned R w W.drew := ⟨h.os, h.tape, h.output, h.size, h.block⟩
theorem Turned.of_b {R : Nat → Prop} {w w' : World} (h : Below w.heap.size w w') : Turned R w w' := ⟨h.os, h.tape, h.output, h.size, fun k hk _ => h.block k hk⟩
theorem Turned.to_b {R : Nat → Prop} {w w' : World} {B : Nat} (h : Turned R w w') (hB : ∀ k, k < B → ¬ R k) (hs : B ≤ w.heap.size) : Below B w w' := ⟨h.os, h.tape, h.output, h.size, fun k hk => h.block k (Nat.lt_of_lt_of_le hk hs) (hB k hk)⟩
theorem Turned.alloc' {R : Nat → Prop} {w W : World} (h : Turned R w W) (o : Obj) : Turned R w (W.alloc o) := Turned.trans' h (Turned.of_b (below_one W o))
theorem Turned.set' {R : Nat → Prop} {w W : World} (h : Turned R w W) {c : Nat} (hc : R c) (i : Nat) (x : Value) : Turned R w (W.setCell ⟨c, i, none⟩ x) := by
  refine Turned.trans' h ?_
  have hb := (Below.refl c W).setCell (p := ⟨c, i, none⟩) (Nat.le_refl _) x
  refine ⟨hb.os, hb.tape, hb.output, by rw [size_set]; exact Nat.le_refl _, fun k hk hn => ?_⟩
  have hne : k ≠ c := fun e => hn (e ▸ hc)
  cases h0 : W.heap[k]? with
  | none => rw [Array.getElem?_eq_none_iff] at h0; omega
  | some ob =>
    exact heap_other h0 hne i x
theorem Turned.cell' {R : Nat → Prop} {w w' : World} (h : Turned R w w') {p : Addr} (hp : p.block < w.heap.size) (hn : ¬ R p.block) : w'.cell? p = w.cell? p := by
  unfold World.cell?
  rw [h.block _ hp hn]
section
variable {α : Type} {enc : α → List Value} {fit : α → Prop} {sz : Nat} {t : TypeId} {base : Nat} {W W' : World} {a : Option Addr} {b off n : Nat} {L : List α}
/-- A row that is none, or lies in a block of one's own. -/
structure OwnR (enc : α → List Value) (fit : α → Prop) (sz : Nat) (t : TypeId) (base : Nat) (W : World) (a : Option Addr) (b : Nat) (L : List α) : Prop where
  own : L = [] ∨ (a = some ⟨b, 0, none⟩ ∧ base ≤ b ∧ RowC enc sz W b t L)
  small : L.length ≤ maxLen
  fits : ∀ x ∈ L, fit x
theorem OwnR.rows (h : OwnR enc fit sz t base W a b L) : RowsAt enc fit sz W.heap.size W a b 0 L.length L := by
  rcases h.own with rfl | ⟨rfl, _, h2⟩
  · exact RowsAt.nil rfl rfl
  · exact h2.rows h.small h.fits
theorem RowC.turned {R : Nat → Prop} (h : RowC enc sz W b t L) (hT : Turned R W W') (hn : ¬ R b) : RowC enc sz W' b t L := by
  obtain ⟨cur, h1, h2⟩ := h
  exact ⟨cur, hT.old h1 hn, h2⟩
theorem OwnR.turned {R : Nat → Prop} (h : OwnR enc fit sz t base W a b L) (hT : Turned R W W') (hn : base ≤ b → ∀ cur, W.heap[b]? = some (.cells cur t (0, 0)) → ¬ R b) : OwnR enc fit sz t base W' a b L :=
  ⟨h.own.imp id (fun ⟨h1, h2, h3⟩ => ⟨h1, h2, h3.turned hT (by obtain ⟨cur, hc, _⟩ := h3; exact hn h2 cur hc)⟩), h.small, h.fits⟩
theorem OwnR.on (h : OwnR enc fit sz t base W a b L) (hb : Below W.heap.size W W') : OwnR enc fit sz t base W' a b L :=
  ⟨h.own.imp id (fun ⟨h1, h2, h3⟩ => ⟨h1, h2, h3.on hb⟩), h.small, h.fits⟩
theorem OwnR.mono {base' : Nat} (h : OwnR enc fit sz t base W a b L) (hb : base' ≤ base) : OwnR enc fit sz t base' W a b L :=
  ⟨h.own.imp id (fun ⟨h1, h2, h3⟩ => ⟨h1, Nat.le_trans hb h2, h3⟩), h.small, h.fits⟩
theorem RowsAt.turned {R : Nat → Prop} {B : Nat} (h : RowsAt enc fit sz B W a b off n L) (hT : Turned R W W') (hB : ∀ k, k < B → ¬ R k) (hs : B ≤ W.heap.size) : RowsAt enc fit sz B W' a b off n L :=
  h.kept (Turned.to_b hT hB hs) (Nat.le_refl _)
end
/-- What a clone is. -/
def CloneQ {α : Type} (enc : α → List Value) (fit : α → Prop) (sz : Nat) (t : TypeId) (w : World) (len : Nat) (L : List α) (e : Ending) (w' : World) : Prop :=
  ∃ a' b' c', e = .returned (.slice a' len c') ∧ OwnR enc fit sz t w.heap.size w' a' b' L ∧ Below w.heap.size w w'
def zS : Array Value := #[.int .i64 0, .string ⟨#[]⟩, .int .i64 0, .int .i64 0, .string ⟨#[]⟩]
theorem Try.infoS : (Try.prog.info? 100).map (fun i => (i.zero, i.size, i.bytes)) = some (some (.agg zS), 5, 56) := by kernel_rfl
theorem flat_lenU {α : Type} {enc : α → List Value} {sz : Nat} (hsz : ∀ x, (enc x).length = sz) : ∀ L : List α, (L.flatMap enc).length = L.length * sz
  | [] => by simp
  | x :: r => by rw [List.flatMap_cons, List.length_append, hsz, flat_lenU hsz r, List.length_cons, Nat.add_mul]; omega

theorem onePU (L : List ProcV) : ∀ u ∈ L.flatMap encP, u.oneCell' = true := fun u hu => by
  obtain ⟨x, _, hx⟩ := List.mem_flatMap.1 hu
  unfold encP at hx
  simp only [List.mem_cons, List.not_mem_nil, or_false] at hx
  rcases hx with rfl | rfl | rfl | rfl <;> rfl
set_option maxRecDepth 100000 in
set_option maxHeartbeats 2000000 in
theorem cloneP_any {w : World} {a : Option Addr} {b off len cap : Nat} {L : List ProcV} (h : RowsAt encP fitP 4 w.heap.size w a b off len L) (hl : len ≤ 100000) : Calls Try.prog 85 #[.slice a len cap] w (CloneQ encP fitP 4 39 w len L) := by
  have heq := fun (w : World) => run_eql_slice_nil (P := Try.prog) w 22 39 a len cap Try.underlying22
  cases a with
  | none =>
    have hz : len = 0 := h.addr.resolve_right (by simp)
    subst hz
    have hL : L = [] := List.eq_nil_of_length_eq_zero h.length
    subst hL
    clear h
    go_enter Try.func85, Try.ntmps85
    go_wp2
    go_ret
    exact ⟨none, 0, 0, rfl, ⟨.inl rfl, Nat.zero_le _, fun x hx => by simp at hx⟩, Below.refl _ _⟩
  | some ad =>
    have HB := Lib.hid (below_one w (.cells #[] 39))
    by_cases hz : len = 0
    · subst hz
      have hL : L = [] := List.eq_nil_of_length_eq_zero h.length
      subst hL
      clear h
      obtain ⟨i0, hi, hz0, hz1, hz2⟩ := info_parts Try.infoP
      have HI := Lib.hid hi
      clear hi hz0 hz1 hz2
      go_enter Try.func85, Try.ntmps85
      go_wp2_with (at_builtin; refine wpList_append_zero rfl _ _ 22 rfl 39 i0 Try.underlying22 HI.out ⟨w.heap.size, 0, none⟩ rfl (some ad) cap rfl ?_)
      go_ret
      exact ⟨some ⟨w.heap.size, 0, none⟩, 0, 0, rfl, ⟨.inl rfl, Nat.zero_le _, fun x hx => by simp at hx⟩, HB.out⟩
    · obtain rfl : ad = ⟨b, off, none⟩ := by have := h.addr.resolve_left hz; simpa using this
      obtain ⟨i0, hi, hz0, hz1, hz2⟩ := info_parts Try.infoP
      have HI := Lib.hid hi
      have HZ0 := Lib.hid hz0
      have HZ1 := Lib.hid hz1
      have HZ2 := Lib.hid hz2
      have HR := Lib.hid h
      obtain rfl := h.length
      have h0 : 0 < L.length := by omega
      have HC := Lib.hid (rows_cells (enc := encP) (fun _ => rfl) (h.on HB.out))
      clear hi hz0 hz1 hz2 h
      go_enter Try.func85, Try.ntmps85
      go_wp2_with (at_builtin; go_loud (refine wpList_append_gathP _ rfl _ _ 22 rfl (w.heap.size + 1) 39 i0 (.agg zP) 4 72 Try.underlying22 HI.out HZ0.out HZ1.out HZ2.out rfl (by decide) (.slice (some ⟨w.heap.size, 0, none⟩) 0 0) 0 [] rfl (.inl ⟨rfl, rfl, _, rfl⟩) ⟨b, off, none⟩ L.length cap (L.flatMap encP) rfl (flat_lenU (enc := encP) (sz := 4) (fun _ => rfl) _) HC.out (onePU _) h0 (by unfold maxLen; omega) (by omega) (by simp) ?_); intro v' w5 row hown hg hrow; rw [Nat.zero_add, List.nil_append] at hown; obtain ⟨g, cp, rfl, hgb, hrc⟩ := rowc_owned (enc := encP) (fun _ => rfl) hown rfl h0; have HQ : Hid (CloneQ encP fitP 4 39 w L.length L (.returned (.slice (some ⟨g, 0, none⟩) L.length cp)) w5) := Lib.hid ⟨_, g, _, rfl, ⟨.inr ⟨rfl, by omega, hrc⟩, HR.out.small, HR.out.fits⟩, HB.out.grown hg (by simp) (fun r e => by have := (hrow r e).2; omega)⟩; clear hown hg hrow hgb hrc)
      go_ret
      exact HQ.out

theorem oneLU (L : List LinkM) : ∀ u ∈ L.flatMap encL, u.oneCell' = true := fun u hu => by
  obtain ⟨x, _, hx⟩ := List.mem_flatMap.1 hu
  unfold encL at hx
  simp only [List.mem_cons, List.not_mem_nil, or_false] at hx
  rcases hx with rfl | rfl | rfl | rfl | rfl <;> rfl
set_option maxRecDepth 100000 in
set_option maxHeartbeats 2000000 in
theorem cloneL_any {w : World} {a : Option Addr} {b off len cap : Nat} {L : List LinkM} (h : RowsAt encL fitL 5 w.heap.size w a b off len L) (hl : len ≤ 100000) : Calls Try.prog 86 #[.slice a len cap] w (CloneQ encL fitL 5 50 w len L) := by
  have heq := fun (w : World) => run_eql_slice_nil (P := Try.prog) w 23 50 a len cap Try.underlying23
  cases a with
  | none =>
    have hz : len = 0 := h.addr.resolve_right (by simp)
    subst hz
    have hL : L = [] := List.eq_nil_of_length_eq_zero h.length
    subst hL
    clear h
    go_enter Try.func86, Try.ntmps86
    go_wp2
    go_ret
    exact ⟨none, 0, 0, rfl, ⟨.inl rfl, Nat.zero_le _, fun x hx => by simp at hx⟩, Below.refl _ _⟩
  | some ad =>
    have HB := Lib.hid (below_one w (.cells #[] 50))
    by_cases hz : len = 0
    · subst hz
      have hL : L = [] := List.eq_nil_of_length_eq_zero h.length
      subst hL
      clear h
      obtain ⟨i0, hi, hz0, hz1, hz2⟩ := info_parts Try.infoL
      have HI := Lib.hid hi
      clear hi hz0 hz1 hz2
      go_enter Try.func86, Try.ntmps86
      go_wp2_with (at_builtin; refine wpList_append_zero rfl _ _ 23 rfl 50 i0 Try.underlying23 HI.out ⟨w.heap.size, 0, none⟩ rfl (some ad) cap rfl ?_)
      go_ret
      exact ⟨some ⟨w.heap.size, 0, none⟩, 0, 0, rfl, ⟨.inl rfl, Nat.zero_le _, fun x hx => by simp at hx⟩, HB.out⟩
    · obtain rfl : ad = ⟨b, off, none⟩ := by have := h.addr.resolve_left hz; simpa using this
      obtain ⟨i0, hi, hz0, hz1, hz2⟩ := info_parts Try.infoL
      have HI := Lib.hid hi
      have HZ0 := Lib.hid hz0
      have HZ1 := Lib.hid hz1
      have HZ2 := Lib.hid hz2
      have HR := Lib.hid h
      obtain rfl := h.length
      have h0 : 0 < L.length := by omega
      have HC := Lib.hid (rows_cells (enc := encL) (fun _ => rfl) (h.on HB.out))
      clear hi hz0 hz1 hz2 h
      go_enter Try.func86, Try.ntmps86
      go_wp2_with (at_builtin; go_loud (refine wpList_append_gathP _ rfl _ _ 23 rfl (w.heap.size + 1) 50 i0 (.agg zL) 5 64 Try.underlying23 HI.out HZ0.out HZ1.out HZ2.out rfl (by decide) (.slice (some ⟨w.heap.size, 0, none⟩) 0 0) 0 [] rfl (.inl ⟨rfl, rfl, _, rfl⟩) ⟨b, off, none⟩ L.length cap (L.flatMap encL) rfl (flat_lenU (enc := encL) (sz := 5) (fun _ => rfl) _) HC.out (oneLU _) h0 (by unfold maxLen; omega) (by omega) (by simp) ?_); intro v' w5 row hown hg hrow; rw [Nat.zero_add, List.nil_append] at hown; obtain ⟨g, cp, rfl, hgb, hrc⟩ := rowc_owned (enc := encL) (fun _ => rfl) hown rfl h0; have HQ : Hid (CloneQ encL fitL 5 50 w L.length L (.returned (.slice (some ⟨g, 0, none⟩) L.length cp)) w5) := Lib.hid ⟨_, g, _, rfl, ⟨.inr ⟨rfl, by omega, hrc⟩, HR.out.small, HR.out.fits⟩, HB.out.grown hg (by simp) (fun r e => by have := (hrow r e).2; omega)⟩; clear hown hg hrow hgb hrc)
      go_ret
      exact HQ.out

theorem oneEU (L : List EventM) : ∀ u ∈ L.flatMap encE, u.oneCell' = true := fun u hu => by
  obtain ⟨x, _, hx⟩ := List.mem_flatMap.1 hu
  unfold encE at hx
  simp only [List.mem_cons, List.not_mem_nil, or_false] at hx
  rcases hx with rfl | rfl | rfl <;> rfl
set_option maxRecDepth 100000 in
set_option maxHeartbeats 2000000 in
theorem cloneE_any {w : World} {a : Option Addr} {b off len cap : Nat} {L : List EventM} (h : RowsAt encE fitE 3 w.heap.size w a b off len L) (hl : len ≤ 100000) : Calls Try.prog 87 #[.slice a len cap] w (CloneQ encE fitE 3 52 w len L) := by
  have heq := fun (w : World) => run_eql_slice_nil (P := Try.prog) w 24 52 a len cap Try.underlying24
  cases a with
  | none =>
    have hz : len = 0 := h.addr.resolve_right (by simp)
    subst hz
    have hL : L = [] := List.eq_nil_of_length_eq_zero h.length
    subst hL
    clear h
    go_enter Try.func87, Try.ntmps87
    go_wp2
    go_ret
    exact ⟨none, 0, 0, rfl, ⟨.inl rfl, Nat.zero_le _, fun x hx => by simp at hx⟩, Below.refl _ _⟩
  | some ad =>
    have HB := Lib.hid (below_one w (.cells #[] 52))
    by_cases hz : len = 0
    · subst hz
      have hL : L = [] := List.eq_nil_of_length_eq_zero h.length
      subst hL
      clear h
      obtain ⟨i0, hi, hz0, hz1, hz2⟩ := info_parts Try.infoE
      have HI := Lib.hid hi
      clear hi hz0 hz1 hz2
      go_enter Try.func87, Try.ntmps87
      go_wp2_with (at_builtin; refine wpList_append_zero rfl _ _ 24 rfl 52 i0 Try.underlying24 HI.out ⟨w.heap.size, 0, none⟩ rfl (some ad) cap rfl ?_)
      go_ret
      exact ⟨some ⟨w.heap.size, 0, none⟩, 0, 0, rfl, ⟨.inl rfl, Nat.zero_le _, fun x hx => by simp at hx⟩, HB.out⟩
    · obtain rfl : ad = ⟨b, off, none⟩ := by have := h.addr.resolve_left hz; simpa using this
      obtain ⟨i0, hi, hz0, hz1, hz2⟩ := info_parts Try.infoE
      have HI := Lib.hid hi
      have HZ0 := Lib.hid hz0
      have HZ1 := Lib.hid hz1
      have HZ2 := Lib.hid hz2
      have HR := Lib.hid h
      obtain rfl := h.length
      have h0 : 0 < L.length := by omega
      have HC := Lib.hid (rows_cells (enc := encE) (fun _ => rfl) (h.on HB.out))
      clear hi hz0 hz1 hz2 h
      go_enter Try.func87, Try.ntmps87
      go_wp2_with (at_builtin; go_loud (refine wpList_append_gathP _ rfl _ _ 24 rfl (w.heap.size + 1) 52 i0 (.agg zE) 3 32 Try.underlying24 HI.out HZ0.out HZ1.out HZ2.out rfl (by decide) (.slice (some ⟨w.heap.size, 0, none⟩) 0 0) 0 [] rfl (.inl ⟨rfl, rfl, _, rfl⟩) ⟨b, off, none⟩ L.length cap (L.flatMap encE) rfl (flat_lenU (enc := encE) (sz := 3) (fun _ => rfl) _) HC.out (oneEU _) h0 (by unfold maxLen; omega) (by omega) (by simp) ?_); intro v' w5 row hown hg hrow; rw [Nat.zero_add, List.nil_append] at hown; obtain ⟨g, cp, rfl, hgb, hrc⟩ := rowc_owned (enc := encE) (fun _ => rfl) hown rfl h0; have HQ : Hid (CloneQ encE fitE 3 52 w L.length L (.returned (.slice (some ⟨g, 0, none⟩) L.length cp)) w5) := Lib.hid ⟨_, g, _, rfl, ⟨.inr ⟨rfl, by omega, hrc⟩, HR.out.small, HR.out.fits⟩, HB.out.grown hg (by simp) (fun r e => by have := (hrow r e).2; omega)⟩; clear hown hg hrow hgb hrc)
      go_ret
      exact HQ.out

theorem oneVU (L : List VarM) : ∀ u ∈ L.flatMap encV, u.oneCell' = true := fun u hu => by
  obtain ⟨x, _, hx⟩ := List.mem_flatMap.1 hu
  unfold encV at hx
  simp only [List.mem_cons, List.not_mem_nil, or_false] at hx
  rcases hx with rfl | rfl <;> rfl
set_option maxRecDepth 100000 in
set_option maxHeartbeats 2000000 in
theorem cloneV_any {w : World} {a : Option Addr} {b off len cap : Nat} {L : List VarM} (h : RowsAt encV fitV 2 w.heap.size w a b off len L) (hl : len ≤ 100000) : Calls Try.prog 88 #[.slice a len cap] w (CloneQ encV fitV 2 81 w len L) := by
  have heq := fun (w : World) => run_eql_slice_nil (P := Try.prog) w 36 81 a len cap Try.underlying36
  cases a with
  | none =>
    have hz : len = 0 := h.addr.resolve_right (by simp)
    subst hz
    have hL : L = [] := List.eq_nil_of_length_eq_zero h.length
    subst hL
    clear h
    go_enter Try.func88, Try.ntmps88
    go_wp2
    go_ret
    exact ⟨none, 0, 0, rfl, ⟨.inl rfl, Nat.zero_le _, fun x hx => by simp at hx⟩, Below.refl _ _⟩
  | some ad =>
    have HB := Lib.hid (below_one w (.cells #[] 81))
    by_cases hz : len = 0
    · subst hz
      have hL : L = [] := List.eq_nil_of_length_eq_zero h.length
      subst hL
      clear h
      obtain ⟨i0, hi, hz0, hz1, hz2⟩ := info_parts Try.infoV
      have HI := Lib.hid hi
      clear hi hz0 hz1 hz2
      go_enter Try.func88, Try.ntmps88
      go_wp2_with (at_builtin; refine wpList_append_zero rfl _ _ 36 rfl 81 i0 Try.underlying36 HI.out ⟨w.heap.size, 0, none⟩ rfl (some ad) cap rfl ?_)
      go_ret
      exact ⟨some ⟨w.heap.size, 0, none⟩, 0, 0, rfl, ⟨.inl rfl, Nat.zero_le _, fun x hx => by simp at hx⟩, HB.out⟩
    · obtain rfl : ad = ⟨b, off, none⟩ := by have := h.addr.resolve_left hz; simpa using this
      obtain ⟨i0, hi, hz0, hz1, hz2⟩ := info_parts Try.infoV
      have HI := Lib.hid hi
      have HZ0 := Lib.hid hz0
      have HZ1 := Lib.hid hz1
      have HZ2 := Lib.hid hz2
      have HR := Lib.hid h
      obtain rfl := h.length
      have h0 : 0 < L.length := by omega
      have HC := Lib.hid (rows_cells (enc := encV) (fun _ => rfl) (h.on HB.out))
      clear hi hz0 hz1 hz2 h
      go_enter Try.func88, Try.ntmps88
      go_wp2_with (at_builtin; go_loud (refine wpList_append_gathP _ rfl _ _ 36 rfl (w.heap.size + 1) 81 i0 (.agg zV) 2 24 Try.underlying36 HI.out HZ0.out HZ1.out HZ2.out rfl (by decide) (.slice (some ⟨w.heap.size, 0, none⟩) 0 0) 0 [] rfl (.inl ⟨rfl, rfl, _, rfl⟩) ⟨b, off, none⟩ L.length cap (L.flatMap encV) rfl (flat_lenU (enc := encV) (sz := 2) (fun _ => rfl) _) HC.out (oneVU _) h0 (by unfold maxLen; omega) (by omega) (by simp) ?_); intro v' w5 row hown hg hrow; rw [Nat.zero_add, List.nil_append] at hown; obtain ⟨g, cp, rfl, hgb, hrc⟩ := rowc_owned (enc := encV) (fun _ => rfl) hown rfl h0; have HQ : Hid (CloneQ encV fitV 2 81 w L.length L (.returned (.slice (some ⟨g, 0, none⟩) L.length cp)) w5) := Lib.hid ⟨_, g, _, rfl, ⟨.inr ⟨rfl, by omega, hrc⟩, HR.out.small, HR.out.fits⟩, HB.out.grown hg (by simp) (fun r e => by have := (hrow r e).2; omega)⟩; clear hown hg hrow hgb hrc)
      go_ret
      exact HQ.out

theorem oneSU (L : List StepM) : ∀ u ∈ L.flatMap encS, u.oneCell' = true := fun u hu => by
  obtain ⟨x, _, hx⟩ := List.mem_flatMap.1 hu
  unfold encS at hx
  simp only [List.mem_cons, List.not_mem_nil, or_false] at hx
  rcases hx with rfl | rfl | rfl | rfl | rfl <;> rfl
set_option maxRecDepth 100000 in
set_option maxHeartbeats 2000000 in
theorem cloneS_any {w : World} {a : Option Addr} {b off len cap : Nat} {L : List StepM} (h : RowsAt encS fitS 5 w.heap.size w a b off len L) (hl : len ≤ 100000) : Calls Try.prog 89 #[.slice a len cap] w (CloneQ encS fitS 5 100 w len L) := by
  have heq := fun (w : World) => run_eql_slice_nil (P := Try.prog) w 37 100 a len cap Try.underlying37
  cases a with
  | none =>
    have hz : len = 0 := h.addr.resolve_right (by simp)
    subst hz
    have hL : L = [] := List.eq_nil_of_length_eq_zero h.length
    subst hL
    clear h
    go_enter Try.func89, Try.ntmps89
    go_wp2
    go_ret
    exact ⟨none, 0, 0, rfl, ⟨.inl rfl, Nat.zero_le _, fun x hx => by simp at hx⟩, Below.refl _ _⟩
  | some ad =>
    have HB := Lib.hid (below_one w (.cells #[] 100))
    by_cases hz : len = 0
    · subst hz
      have hL : L = [] := List.eq_nil_of_length_eq_zero h.length
      subst hL
      clear h
      obtain ⟨i0, hi, hz0, hz1, hz2⟩ := info_parts Try.infoS
      have HI := Lib.hid hi
      clear hi hz0 hz1 hz2
      go_enter Try.func89, Try.ntmps89
      go_wp2_with (at_builtin; refine wpList_append_zero rfl _ _ 37 rfl 100 i0 Try.underlying37 HI.out ⟨w.heap.size, 0, none⟩ rfl (some ad) cap rfl ?_)
      go_ret
      exact ⟨some ⟨w.heap.size, 0, none⟩, 0, 0, rfl, ⟨.inl rfl, Nat.zero_le _, fun x hx => by simp at hx⟩, HB.out⟩
    · obtain rfl : ad = ⟨b, off, none⟩ := by have := h.addr.resolve_left hz; simpa using this
      obtain ⟨i0, hi, hz0, hz1, hz2⟩ := info_parts Try.infoS
      have HI := Lib.hid hi
      have HZ0 := Lib.hid hz0
      have HZ1 := Lib.hid hz1
      have HZ2 := Lib.hid hz2
      have HR := Lib.hid h
      obtain rfl := h.length
      have h0 : 0 < L.length := by omega
      have HC := Lib.hid (rows_cells (enc := encS) (fun _ => rfl) (h.on HB.out))
      clear hi hz0 hz1 hz2 h
      go_enter Try.func89, Try.ntmps89
      go_wp2_with (at_builtin; go_loud (refine wpList_append_gathP _ rfl _ _ 37 rfl (w.heap.size + 1) 100 i0 (.agg zS) 5 56 Try.underlying37 HI.out HZ0.out HZ1.out HZ2.out rfl (by decide) (.slice (some ⟨w.heap.size, 0, none⟩) 0 0) 0 [] rfl (.inl ⟨rfl, rfl, _, rfl⟩) ⟨b, off, none⟩ L.length cap (L.flatMap encS) rfl (flat_lenU (enc := encS) (sz := 5) (fun _ => rfl) _) HC.out (oneSU _) h0 (by unfold maxLen; omega) (by omega) (by simp) ?_); intro v' w5 row hown hg hrow; rw [Nat.zero_add, List.nil_append] at hown; obtain ⟨g, cp, rfl, hgb, hrc⟩ := rowc_owned (enc := encS) (fun _ => rfl) hown rfl h0; have HQ : Hid (CloneQ encS fitS 5 100 w L.length L (.returned (.slice (some ⟨g, 0, none⟩) L.length cp)) w5) := Lib.hid ⟨_, g, _, rfl, ⟨.inr ⟨rfl, by omega, hrc⟩, HR.out.small, HR.out.fits⟩, HB.out.grown hg (by simp) (fun r e => by have := (hrow r e).2; omega)⟩; clear hown hg hrow hgb hrc)
      go_ret
      exact HQ.out
end Go.Proofs.Ytenjhbibhkjdaaa.Md
