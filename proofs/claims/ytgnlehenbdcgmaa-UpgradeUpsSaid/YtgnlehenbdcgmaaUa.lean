/- General: rows of structs of one's own. Contracts: slices.Clone of processes, links, events, variables, steps. Contract: a model copied, to the last list. Upgrade, plainly: one up. Contracts: a product by a thousand; the first of two. General: what is turned in a model of one's own. -/
import Derived.Test.YtgnlehenbdcgmaaMeZ
import Derived.Test.YtgnlehenbdcgmaaMdZ
import Derived.Lib.LazyBuf
set_option linter.unusedVariables false
set_option linter.unusedSectionVars false
set_option linter.unusedSimpArgs false
namespace Go.Proofs.Ytgnlehenbdcgmaa.Md
open Go.RowKit Go.Shelf

/-- Blocks of R may be turned. -/
theorem Turned.refl' (R : Nat → Prop) (w : World) : Turned R w w := ⟨rfl, rfl, rfl, Nat.le_refl _, fun _ _ _ => rfl⟩
theorem Turned.trans' {R : Nat → Prop} {W W' W'' : World} (h : Turned R W W') (k : Turned R W' W'') : Turned R W W'' :=
  ⟨k.os.trans h.os, k.tape.trans h.tape, k.output.trans h.output, Nat.le_trans h.size k.size, fun c hc hn => (k.block c (Nat.lt_of_lt_of_le hc h.size) hn).trans (h.block c hc hn)⟩
theorem Turned.weak' {R R' : Nat → Prop} {W W' : World} (h : Turned R W W') (hR : ∀ k, k < W.heap.size → R k → R' k) : Turned R' W W' :=
  ⟨h.os, h.tape, h.output, h.size, fun k hk hn => h.block k hk (fun e => hn (hR k hk e))⟩
theorem Turned.drew' {R : Nat → Prop} {w W : World} (h : Turned R w W) : Turned R w W.drew := ⟨h.os, h.tape, h.output, h.size, h.block⟩
theorem Turned.of_b {R : Nat → Prop} {w w' : World} (h : Below w.heap.size w w') : Turned R w w' := ⟨h.os, h.tape, h.output, h.size, fun k hk _ => h.block k hk⟩
theorem Turned.to_b {R : Nat → Prop} {w w' : World} {B : Nat} (h : Turned R w w') (hB : ∀ k, k < B → ¬ R k) (hs : B ≤ w.heap.size) : Below B w w' := ⟨h.os, h.tape, h.output, h.size, fun k hk => h.block k (Nat.lt_of_lt_of_le hk hs) (hB k hk)⟩
theorem Turned.alloc' {R : Nat → Prop} {w W : World} (h : Turned R w W) (o : Obj) : Turned R w (W.alloc o) := Turned.trans' h (Turned.of_b (below_one W o))
theorem Turned.set' {R : Nat → Prop} {w W : World} (h : Turned R w W) {c : Nat} (hc : R c) (i : Nat) (x : Value) : Turned R w (W.setCell ⟨c, i, none⟩ x) := by
  refine Turned.trans' h ?_
  have hb := (Below.refl c W).setCell (p := ⟨c, i, none⟩) (Nat.le_refl _) x
  refine ⟨hb.os, hb.tape, hb.output, by rw [size_set]; exact Nat.le_refl _, fun k hk hn => ?_⟩
  have hne : k ≠ c := fun e => hn (e ▸ hc)
  cases h0 : W.heap[k]? with
  | none => rw [Array.getElem?_eq_none_iff] at h0; omega
  | some ob =>
    exact heap_other h0 hne i x
theorem Turned.cell' {R : Nat → Prop} {w w' : World} (h : Turned R w w') {p : Addr} (hp : p.block < w.heap.size) (hn : ¬ R p.block) : w'.cell? p = w.cell? p := by
  unfold World.cell?
  rw [h.block _ hp hn]
section
variable {α : Type} {enc : α → List Value} {fit : α → Prop} {sz : Nat} {t : TypeId} {base : Nat} {W W' : World} {a : Option Addr} {b off n : Nat} {L : List α}
/-- A row that is none, or lies in a block of one's own. -/
structure OwnR (enc : α → List Value) (fit : α → Prop) (sz : Nat) (t : TypeId) (base : Nat) (W : World) (a : Option Addr) (b : Nat) (L : List α) : Prop where
  own : L = [] ∨ (a = some ⟨b, 0, none⟩ ∧ base ≤ b ∧ RowC enc sz W b t L)
  small : L.length ≤ maxLen
  fits : ∀ x ∈ L, fit x
theorem OwnR.rows (h : OwnR enc fit sz t base W a b L) : RowsAt enc fit sz W.heap.size W a b 0 L.length L := by
  rcases h.own with rfl | ⟨rfl, _, h2⟩
  · exact RowsAt.nil rfl rfl
  · exact h2.rows h.small h.fits
theorem RowC.turned {R : Nat → Prop} (h : RowC enc sz W b t L) (hT : Turned R W W') (hn : ¬ R b) : RowC enc sz W' b t L := by
  obtain ⟨cur, h1, h2⟩ := h
  exact ⟨cur, hT.old h1 hn, h2⟩
theorem OwnR.turned {R : Nat → Prop} (h : OwnR enc fit sz t base W a b L) (hT : Turned R W W') (hn : base ≤ b → ∀ cur, W.heap[b]? = some (.cells cur t (0, 0)) → ¬ R b) : OwnR enc fit sz t base W' a b L :=
  ⟨h.own.imp id (fun ⟨h1, h2, h3⟩ => ⟨h1, h2, h3.turned hT (by obtain ⟨cur, hc, _⟩ := h3; exact hn h2 cur hc)⟩), h.small, h.fits⟩
theorem OwnR.on (h : OwnR enc fit sz t base W a b L) (hb : Below W.heap.size W W') : OwnR enc fit sz t base W' a b L :=
  ⟨h.own.imp id (fun ⟨h1, h2, h3⟩ => ⟨h1, h2, h3.on hb⟩), h.small, h.fits⟩
theorem OwnR.mono {base' : Nat} (h : OwnR enc fit sz t base W a b L) (hb : base' ≤ base) : OwnR enc fit sz t base' W a b L :=
  ⟨h.own.imp id (fun ⟨h1, h2, h3⟩ => ⟨h1, Nat.le_trans hb h2, h3⟩), h.small, h.fits⟩
theorem RowsAt.turned {R : Nat → Prop} {B : Nat} (h : RowsAt enc fit sz B W a b off n L) (hT : Turned R W W') (hB : ∀ k, k < B → ¬ R k) (hs : B ≤ W.heap.size) : RowsAt enc fit sz B W' a b off n L :=
  h.kept (Turned.to_b hT hB hs) (Nat.le_refl _)
end
/-- What a clone is. -/
def CloneQ {α : Type} (enc : α → List Value) (fit : α → Prop) (sz : Nat) (t : TypeId) (w : World) (len : Nat) (L : List α) (e : Ending) (w' : World) : Prop :=
  ∃ a' b' c', e = .returned (.slice a' len c') ∧ OwnR enc fit sz t w.heap.size w' a' b' L ∧ Below w.heap.size w w'
def zS : Array Value := #[.int .i64 0, .string ⟨#[]⟩, .int .i64 0, .int .i64 0, .string ⟨#[]⟩]
theorem Try.infoS : (Try.prog.info? 99).map (fun i => (i.zero, i.size, i.bytes)) = some (some (.agg zS), 5, 56) := by kernel_rfl
theorem flat_lenU {α : Type} {enc : α → List Value} {sz : Nat} (hsz : ∀ x, (enc x).length = sz) : ∀ L : List α, (L.flatMap enc).length = L.length * sz
  | [] => by simp
  | x :: r => by rw [List.flatMap_cons, List.length_append, hsz, flat_lenU hsz r, List.length_cons, Nat.add_mul]; omega

theorem onePU (L : List ProcV) : ∀ u ∈ L.flatMap encP, u.oneCell' = true := fun u hu => by
  obtain ⟨x, _, hx⟩ := List.mem_flatMap.1 hu
  unfold encP at hx
  simp only [List.mem_cons, List.not_mem_nil, or_false] at hx
  rcases hx with rfl | rfl | rfl | rfl <;> rfl
set_option maxRecDepth 100000 in
set_option maxHeartbeats 2000000 in
theorem cloneP_any {w : World} {a : Option Addr} {b off len cap : Nat} {L : List ProcV} (h : RowsAt encP fitP 4 w.heap.size w a b off len L) (hl : len ≤ 100000) : Calls Try.prog 82 #[.slice a len cap] w (CloneQ encP fitP 4 36 w len L) := by
  have heq := fun (w : World) => run_eql_slice_nil (P := Try.prog) w 22 36 a len cap Try.underlying22
  cases a with
  | none =>
    have hz : len = 0 := h.addr.resolve_right (by simp)
    subst hz
    have hL : L = [] := List.eq_nil_of_length_eq_zero h.length
    subst hL
    clear h
    go_enter Try.func82, Try.ntmps82
    go_wp2
    go_ret
    exact ⟨none, 0, 0, rfl, ⟨.inl rfl, Nat.zero_le _, fun x hx => by simp at hx⟩, Below.refl _ _⟩
  | some ad =>
    have HB := Lib.hid (below_one w (.cells #[] 36))
    by_cases hz : len = 0
    · subst hz
      have hL : L = [] := List.eq_nil_of_length_eq_zero h.length
      subst hL
      clear h
      obtain ⟨i0, hi, hz0, hz1, hz2⟩ := info_parts Try.infoP
      have HI := Lib.hid hi
      clear hi hz0 hz1 hz2
      go_enter Try.func82, Try.ntmps82
      go_wp2_with (at_builtin; refine wpList_append_zero rfl _ _ 22 rfl 36 i0 Try.underlying22 HI.out ⟨w.heap.size, 0, none⟩ rfl (some ad) cap rfl ?_)
      go_ret
      exact ⟨some ⟨w.heap.size, 0, none⟩, 0, 0, rfl, ⟨.inl rfl, Nat.zero_le _, fun x hx => by simp at hx⟩, HB.out⟩
    · obtain rfl : ad = ⟨b, off, none⟩ := by have := h.addr.resolve_left hz; simpa using this
      obtain ⟨i0, hi, hz0, hz1, hz2⟩ := info_parts Try.infoP
      have HI := Lib.hid hi
      have HZ0 := Lib.hid hz0
      have HZ1 := Lib.hid hz1
      have HZ2 := Lib.hid hz2
      have HR := Lib.hid h
      obtain rfl := h.length
      have h0 : 0 < L.length := by omega
      have HC := Lib.hid (rows_cells (enc := encP) (fun _ => rfl) (h.on HB.out))
      clear hi hz0 hz1 hz2 h
      go_enter Try.func82, Try.ntmps82
      go_wp2_with (at_builtin; go_loud (refine wpList_append_gathP _ rfl _ _ 22 rfl (w.heap.size + 1) 36 i0 (.agg zP) 4 72 Try.underlying22 HI.out HZ0.out HZ1.out HZ2.out rfl (by decide) (.slice (some ⟨w.heap.size, 0, none⟩) 0 0) 0 [] rfl (.inl ⟨rfl, rfl, _, rfl⟩) ⟨b, off, none⟩ L.length cap (L.flatMap encP) rfl (flat_lenU (enc := encP) (sz := 4) (fun _ => rfl) _) HC.out (onePU _) h0 (by unfold maxLen; omega) (by omega) (by simp) ?_); intro v' w5 row hown hg hrow; rw [Nat.zero_add, List.nil_append] at hown; obtain ⟨g, cp, rfl, hgb, hrc⟩ := rowc_owned (enc := encP) (fun _ => rfl) hown rfl h0; have HQ : Hid (CloneQ encP fitP 4 36 w L.length L (.returned (.slice (some ⟨g, 0, none⟩) L.length cp)) w5) := Lib.hid ⟨_, g, _, rfl, ⟨.inr ⟨rfl, by omega, hrc⟩, HR.out.small, HR.out.fits⟩, HB.out.grown hg (by simp) (fun r e => by have := (hrow r e).2; omega)⟩; clear hown hg hrow hgb hrc)
      go_ret
      exact HQ.out

theorem oneLU (L : List LinkM) : ∀ u ∈ L.flatMap encL, u.oneCell' = true := fun u hu => by
  obtain ⟨x, _, hx⟩ := List.mem_flatMap.1 hu
  unfold encL at hx
  simp only [List.mem_cons, List.not_mem_nil, or_false] at hx
  rcases hx with rfl | rfl | rfl | rfl | rfl <;> rfl
set_option maxRecDepth 100000 in
set_option maxHeartbeats 2000000 in
theorem cloneL_any {w : World} {a : Option Addr} {b off len cap : Nat} {L : List LinkM} (h : RowsAt encL fitL 5 w.heap.size w a b off len L) (hl : len ≤ 100000) : Calls Try.prog 83 #[.slice a len cap] w (CloneQ encL fitL 5 57 w len L) := by
  have heq := fun (w : World) => run_eql_slice_nil (P := Try.prog) w 23 57 a len cap Try.underlying23
  cases a with
  | none =>
    have hz : len = 0 := h.addr.resolve_right (by simp)
    subst hz
    have hL : L = [] := List.eq_nil_of_length_eq_zero h.length
    subst hL
    clear h
    go_enter Try.func83, Try.ntmps83
    go_wp2
    go_ret
    exact ⟨none, 0, 0, rfl, ⟨.inl rfl, Nat.zero_le _, fun x hx => by simp at hx⟩, Below.refl _ _⟩
  | some ad =>
    have HB := Lib.hid (below_one w (.cells #[] 57))
    by_cases hz : len = 0
    · subst hz
      have hL : L = [] := List.eq_nil_of_length_eq_zero h.length
      subst hL
      clear h
      obtain ⟨i0, hi, hz0, hz1, hz2⟩ := info_parts Try.infoL
      have HI := Lib.hid hi
      clear hi hz0 hz1 hz2
      go_enter Try.func83, Try.ntmps83
      go_wp2_with (at_builtin; refine wpList_append_zero rfl _ _ 23 rfl 57 i0 Try.underlying23 HI.out ⟨w.heap.size, 0, none⟩ rfl (some ad) cap rfl ?_)
      go_ret
      exact ⟨some ⟨w.heap.size, 0, none⟩, 0, 0, rfl, ⟨.inl rfl, Nat.zero_le _, fun x hx => by simp at hx⟩, HB.out⟩
    · obtain rfl : ad = ⟨b, off, none⟩ := by have := h.addr.resolve_left hz; simpa using this
      obtain ⟨i0, hi, hz0, hz1, hz2⟩ := info_parts Try.infoL
      have HI := Lib.hid hi
      have HZ0 := Lib.hid hz0
      have HZ1 := Lib.hid hz1
      have HZ2 := Lib.hid hz2
      have HR := Lib.hid h
      obtain rfl := h.length
      have h0 : 0 < L.length := by omega
      have HC := Lib.hid (rows_cells (enc := encL) (fun _ => rfl) (h.on HB.out))
      clear hi hz0 hz1 hz2 h
      go_enter Try.func83, Try.ntmps83
      go_wp2_with (at_builtin; go_loud (refine wpList_append_gathP _ rfl _ _ 23 rfl (w.heap.size + 1) 57 i0 (.agg zL) 5 64 Try.underlying23 HI.out HZ0.out HZ1.out HZ2.out rfl (by decide) (.slice (some ⟨w.heap.size, 0, none⟩) 0 0) 0 [] rfl (.inl ⟨rfl, rfl, _, rfl⟩) ⟨b, off, none⟩ L.length cap (L.flatMap encL) rfl (flat_lenU (enc := encL) (sz := 5) (fun _ => rfl) _) HC.out (oneLU _) h0 (by unfold maxLen; omega) (by omega) (by simp) ?_); intro v' w5 row hown hg hrow; rw [Nat.zero_add, List.nil_append] at hown; obtain ⟨g, cp, rfl, hgb, hrc⟩ := rowc_owned (enc := encL) (fun _ => rfl) hown rfl h0; have HQ : Hid (CloneQ encL fitL 5 57 w L.length L (.returned (.slice (some ⟨g, 0, none⟩) L.length cp)) w5) := Lib.hid ⟨_, g, _, rfl, ⟨.inr ⟨rfl, by omega, hrc⟩, HR.out.small, HR.out.fits⟩, HB.out.grown hg (by simp) (fun r e => by have := (hrow r e).2; omega)⟩; clear hown hg hrow hgb hrc)
      go_ret
      exact HQ.out

theorem oneEU (L : List EventM) : ∀ u ∈ L.flatMap encE, u.oneCell' = true := fun u hu => by
  obtain ⟨x, _, hx⟩ := List.mem_flatMap.1 hu
  unfold encE at hx
  simp only [List.mem_cons, List.not_mem_nil, or_false] at hx
  rcases hx with rfl | rfl | rfl <;> rfl
set_option maxRecDepth 100000 in
set_option maxHeartbeats 2000000 in
theorem cloneE_any {w : World} {a : Option Addr} {b off len cap : Nat} {L : List EventM} (h : RowsAt encE fitE 3 w.heap.size w a b off len L) (hl : len ≤ 100000) : Calls Try.prog 84 #[.slice a len cap] w (CloneQ encE fitE 3 60 w len L) := by
  have heq := fun (w : World) => run_eql_slice_nil (P := Try.prog) w 24 60 a len cap Try.underlying24
  cases a with
  | none =>
    have hz : len = 0 := h.addr.resolve_right (by simp)
    subst hz
    have hL : L = [] := List.eq_nil_of_length_eq_zero h.length
    subst hL
    clear h
    go_enter Try.func84, Try.ntmps84
    go_wp2
    go_ret
    exact ⟨none, 0, 0, rfl, ⟨.inl rfl, Nat.zero_le _, fun x hx => by simp at hx⟩, Below.refl _ _⟩
  | some ad =>
    have HB := Lib.hid (below_one w (.cells #[] 60))
    by_cases hz : len = 0
    · subst hz
      have hL : L = [] := List.eq_nil_of_length_eq_zero h.length
      subst hL
      clear h
      obtain ⟨i0, hi, hz0, hz1, hz2⟩ := info_parts Try.infoE
      have HI := Lib.hid hi
      clear hi hz0 hz1 hz2
      go_enter Try.func84, Try.ntmps84
      go_wp2_with (at_builtin; refine wpList_append_zero rfl _ _ 24 rfl 60 i0 Try.underlying24 HI.out ⟨w.heap.size, 0, none⟩ rfl (some ad) cap rfl ?_)
      go_ret
      exact ⟨some ⟨w.heap.size, 0, none⟩, 0, 0, rfl, ⟨.inl rfl, Nat.zero_le _, fun x hx => by simp at hx⟩, HB.out⟩
    · obtain rfl : ad = ⟨b, off, none⟩ := by have := h.addr.resolve_left hz; simpa using this
      obtain ⟨i0, hi, hz0, hz1, hz2⟩ := info_parts Try.infoE
      have HI := Lib.hid hi
      have HZ0 := Lib.hid hz0
      have HZ1 := Lib.hid hz1
      have HZ2 := Lib.hid hz2
      have HR := Lib.hid h
      obtain rfl := h.length
      have h0 : 0 < L.length := by omega
      have HC := Lib.hid (rows_cells (enc := encE) (fun _ => rfl) (h.on HB.out))
      clear hi hz0 hz1 hz2 h
      go_enter Try.func84, Try.ntmps84
      go_wp2_with (at_builtin; go_loud (refine wpList_append_gathP _ rfl _ _ 24 rfl (w.heap.size + 1) 60 i0 (.agg zE) 3 32 Try.underlying24 HI.out HZ0.out HZ1.out HZ2.out rfl (by decide) (.slice (some ⟨w.heap.size, 0, none⟩) 0 0) 0 [] rfl (.inl ⟨rfl, rfl, _, rfl⟩) ⟨b, off, none⟩ L.length cap (L.flatMap encE) rfl (flat_lenU (enc := encE) (sz := 3) (fun _ => rfl) _) HC.out (oneEU _) h0 (by unfold maxLen; omega) (by omega) (by simp) ?_); intro v' w5 row hown hg hrow; rw [Nat.zero_add, List.nil_append] at hown; obtain ⟨g, cp, rfl, hgb, hrc⟩ := rowc_owned (enc := encE) (fun _ => rfl) hown rfl h0; have HQ : Hid (CloneQ encE fitE 3 60 w L.length L (.returned (.slice (some ⟨g, 0, none⟩) L.length cp)) w5) := Lib.hid ⟨_, g, _, rfl, ⟨.inr ⟨rfl, by omega, hrc⟩, HR.out.small, HR.out.fits⟩, HB.out.grown hg (by simp) (fun r e => by have := (hrow r e).2; omega)⟩; clear hown hg hrow hgb hrc)
      go_ret
      exact HQ.out

theorem oneVU (L : List VarM) : ∀ u ∈ L.flatMap encV, u.oneCell' = true := fun u hu => by
  obtain ⟨x, _, hx⟩ := List.mem_flatMap.1 hu
  unfold encV at hx
  simp only [List.mem_cons, List.not_mem_nil, or_false] at hx
  rcases hx with rfl | rfl <;> rfl
set_option maxRecDepth 100000 in
set_option maxHeartbeats 2000000 in
theorem cloneV_any {w : World} {a : Option Addr} {b off len cap : Nat} {L : List VarM} (h : RowsAt encV fitV 2 w.heap.size w a b off len L) (hl : len ≤ 100000) : Calls Try.prog 85 #[.slice a len cap] w (CloneQ encV fitV 2 80 w len L) := by
  have heq := fun (w : World) => run_eql_slice_nil (P := Try.prog) w 33 80 a len cap Try.underlying33
  cases a with
  | none =>
    have hz : len = 0 := h.addr.resolve_right (by simp)
    subst hz
    have hL : L = [] := List.eq_nil_of_length_eq_zero h.length
    subst hL
    clear h
    go_enter Try.func85, Try.ntmps85
    go_wp2
    go_ret
    exact ⟨none, 0, 0, rfl, ⟨.inl rfl, Nat.zero_le _, fun x hx => by simp at hx⟩, Below.refl _ _⟩
  | some ad =>
    have HB := Lib.hid (below_one w (.cells #[] 80))
    by_cases hz : len = 0
    · subst hz
      have hL : L = [] := List.eq_nil_of_length_eq_zero h.length
      subst hL
      clear h
      obtain ⟨i0, hi, hz0, hz1, hz2⟩ := info_parts Try.infoV
      have HI := Lib.hid hi
      clear hi hz0 hz1 hz2
      go_enter Try.func85, Try.ntmps85
      go_wp2_with (at_builtin; refine wpList_append_zero rfl _ _ 33 rfl 80 i0 Try.underlying33 HI.out ⟨w.heap.size, 0, none⟩ rfl (some ad) cap rfl ?_)
      go_ret
      exact ⟨some ⟨w.heap.size, 0, none⟩, 0, 0, rfl, ⟨.inl rfl, Nat.zero_le _, fun x hx => by simp at hx⟩, HB.out⟩
    · obtain rfl : ad = ⟨b, off, none⟩ := by have := h.addr.resolve_left hz; simpa using this
      obtain ⟨i0, hi, hz0, hz1, hz2⟩ := info_parts Try.infoV
      have HI := Lib.hid hi
      have HZ0 := Lib.hid hz0
      have HZ1 := Lib.hid hz1
      have HZ2 := Lib.hid hz2
      have HR := Lib.hid h
      obtain rfl := h.length
      have h0 : 0 < L.length := by omega
      have HC := Lib.hid (rows_cells (enc := encV) (fun _ => rfl) (h.on HB.out))
      clear hi hz0 hz1 hz2 h
      go_enter Try.func85, Try.ntmps85
      go_wp2_with (at_builtin; go_loud (refine wpList_append_gathP _ rfl _ _ 33 rfl (w.heap.size + 1) 80 i0 (.agg zV) 2 24 Try.underlying33 HI.out HZ0.out HZ1.out HZ2.out rfl (by decide) (.slice (some ⟨w.heap.size, 0, none⟩) 0 0) 0 [] rfl (.inl ⟨rfl, rfl, _, rfl⟩) ⟨b, off, none⟩ L.length cap (L.flatMap encV) rfl (flat_lenU (enc := encV) (sz := 2) (fun _ => rfl) _) HC.out (oneVU _) h0 (by unfold maxLen; omega) (by omega) (by simp) ?_); intro v' w5 row hown hg hrow; rw [Nat.zero_add, List.nil_append] at hown; obtain ⟨g, cp, rfl, hgb, hrc⟩ := rowc_owned (enc := encV) (fun _ => rfl) hown rfl h0; have HQ : Hid (CloneQ encV fitV 2 80 w L.length L (.returned (.slice (some ⟨g, 0, none⟩) L.length cp)) w5) := Lib.hid ⟨_, g, _, rfl, ⟨.inr ⟨rfl, by omega, hrc⟩, HR.out.small, HR.out.fits⟩, HB.out.grown hg (by simp) (fun r e => by have := (hrow r e).2; omega)⟩; clear hown hg hrow hgb hrc)
      go_ret
      exact HQ.out

theorem oneSU (L : List StepM) : ∀ u ∈ L.flatMap encS, u.oneCell' = true := fun u hu => by
  obtain ⟨x, _, hx⟩ := List.mem_flatMap.1 hu
  unfold encS at hx
  simp only [List.mem_cons, List.not_mem_nil, or_false] at hx
  rcases hx with rfl | rfl | rfl | rfl | rfl <;> rfl
set_option maxRecDepth 100000 in
set_option maxHeartbeats 2000000 in
theorem cloneS_any {w : World} {a : Option Addr} {b off len cap : Nat} {L : List StepM} (h : RowsAt encS fitS 5 w.heap.size w a b off len L) (hl : len ≤ 100000) : Calls Try.prog 86 #[.slice a len cap] w (CloneQ encS fitS 5 99 w len L) := by
  have heq := fun (w : World) => run_eql_slice_nil (P := Try.prog) w 34 99 a len cap Try.underlying34
  cases a with
  | none =>
    have hz : len = 0 := h.addr.resolve_right (by simp)
    subst hz
    have hL : L = [] := List.eq_nil_of_length_eq_zero h.length
    subst hL
    clear h
    go_enter Try.func86, Try.ntmps86
    go_wp2
    go_ret
    exact ⟨none, 0, 0, rfl, ⟨.inl rfl, Nat.zero_le _, fun x hx => by simp at hx⟩, Below.refl _ _⟩
  | some ad =>
    have HB := Lib.hid (below_one w (.cells #[] 99))
    by_cases hz : len = 0
    · subst hz
      have hL : L = [] := List.eq_nil_of_length_eq_zero h.length
      subst hL
      clear h
      obtain ⟨i0, hi, hz0, hz1, hz2⟩ := info_parts Try.infoS
      have HI := Lib.hid hi
      clear hi hz0 hz1 hz2
      go_enter Try.func86, Try.ntmps86
      go_wp2_with (at_builtin; refine wpList_append_zero rfl _ _ 34 rfl 99 i0 Try.underlying34 HI.out ⟨w.heap.size, 0, none⟩ rfl (some ad) cap rfl ?_)
      go_ret
      exact ⟨some ⟨w.heap.size, 0, none⟩, 0, 0, rfl, ⟨.inl rfl, Nat.zero_le _, fun x hx => by simp at hx⟩, HB.out⟩
    · obtain rfl : ad = ⟨b, off, none⟩ := by have := h.addr.resolve_left hz; simpa using this
      obtain ⟨i0, hi, hz0, hz1, hz2⟩ := info_parts Try.infoS
      have HI := Lib.hid hi
      have HZ0 := Lib.hid hz0
      have HZ1 := Lib.hid hz1
      have HZ2 := Lib.hid hz2
      have HR := Lib.hid h
      obtain rfl := h.length
      have h0 : 0 < L.length := by omega
      have HC := Lib.hid (rows_cells (enc := encS) (fun _ => rfl) (h.on HB.out))
      clear hi hz0 hz1 hz2 h
      go_enter Try.func86, Try.ntmps86
      go_wp2_with (at_builtin; go_loud (refine wpList_append_gathP _ rfl _ _ 34 rfl (w.heap.size + 1) 99 i0 (.agg zS) 5 56 Try.underlying34 HI.out HZ0.out HZ1.out HZ2.out rfl (by decide) (.slice (some ⟨w.heap.size, 0, none⟩) 0 0) 0 [] rfl (.inl ⟨rfl, rfl, _, rfl⟩) ⟨b, off, none⟩ L.length cap (L.flatMap encS) rfl (flat_lenU (enc := encS) (sz := 5) (fun _ => rfl) _) HC.out (oneSU _) h0 (by unfold maxLen; omega) (by omega) (by simp) ?_); intro v' w5 row hown hg hrow; rw [Nat.zero_add, List.nil_append] at hown; obtain ⟨g, cp, rfl, hgb, hrc⟩ := rowc_owned (enc := encS) (fun _ => rfl) hown rfl h0; have HQ : Hid (CloneQ encS fitS 5 99 w L.length L (.returned (.slice (some ⟨g, 0, none⟩) L.length cp)) w5) := Lib.hid ⟨_, g, _, rfl, ⟨.inr ⟨rfl, by omega, hrc⟩, HR.out.small, HR.out.fits⟩, HB.out.grown hg (by simp) (fun r e => by have := (hrow r e).2; omega)⟩; clear hown hg hrow hgb hrc)
      go_ret
      exact HQ.out
end Go.Proofs.Ytgnlehenbdcgmaa.Md

namespace Go.Proofs.Ytgnlehenbdcgmaa.Md
open Go.RowKit Go.Shelf

/-- A process whose lists are one's own. -/
structure OwnP (base : Nat) (W : World) (p : ProcV) : Prop where
  vars : OwnR encV fitV 2 80 base W p.va p.vb p.p.vars
  vo : p.vo = 0
  steps : OwnR encS fitS 5 99 base W p.sa p.sb p.p.steps
  so : p.so = 0
theorem OwnP.at_ {base : Nat} {W : World} {p : ProcV} (h : OwnP base W p) : ProcIn W.heap.size W p := ⟨by rw [h.vo]; exact h.vars.rows, by rw [h.so]; exact h.steps.rows⟩
theorem OwnP.on {base : Nat} {W W' : World} {p : ProcV} (h : OwnP base W p) (hb : Below W.heap.size W W') : OwnP base W' p := ⟨h.vars.on hb, h.vo, h.steps.on hb, h.so⟩
theorem OwnP.mono {base base' : Nat} {W : World} {p : ProcV} (h : OwnP base W p) (hb : base' ≤ base) : OwnP base' W p := ⟨h.vars.mono hb, h.vo, h.steps.mono hb, h.so⟩
/-- A model whose lists are one's own. -/
structure OwnM (base : Nat) (W : World) (x : ModelV) : Prop where
  procs : OwnR encP fitP 4 36 base W x.pa x.pb x.procs
  po : x.po = 0
  inner : ∀ p ∈ x.procs, OwnP base W p
  links : OwnR encL fitL 5 57 base W x.la x.lb x.links
  lo : x.lo = 0
  events : OwnR encE fitE 3 60 base W x.ea x.eb x.events
  eo : x.eo = 0
theorem OwnM.at_ {base : Nat} {W : World} {x : ModelV} (h : OwnM base W x) : ModelAt W.heap.size W x :=
  ⟨by rw [h.po]; exact h.procs.rows, fun p hp => (h.inner p hp).at_, by rw [h.lo]; exact h.links.rows, by rw [h.eo]; exact h.events.rows⟩
theorem OwnM.on {base : Nat} {W W' : World} {x : ModelV} (h : OwnM base W x) (hb : Below W.heap.size W W') : OwnM base W' x :=
  ⟨h.procs.on hb, h.po, fun p hp => (h.inner p hp).on hb, h.links.on hb, h.lo, h.events.on hb, h.eo⟩
theorem OwnM.mono {base base' : Nat} {W : World} {x : ModelV} (h : OwnM base W x) (hb : base' ≤ base) : OwnM base' W x :=
  ⟨h.procs.mono hb, h.po, fun p hp => (h.inner p hp).mono hb, h.links.mono hb, h.lo, h.events.mono hb, h.eo⟩
/-- Are a model's lists short enough to be copied? -/
structure Sized (m : ModelM) : Prop where
  procs : m.procs.length ≤ 20000
  links : m.links.length ≤ 20000
  events : m.events.length ≤ 20000
  inner : ∀ p ∈ m.procs, p.vars.length ≤ 20000 ∧ p.steps.length ≤ 20000

def CopyQ (w : World) (m : ModelM) (e : Ending) (w' : World) : Prop := ∃ x : ModelV, e = .returned (.agg #[.int .i64 x.ver, .slice x.pa x.procs.length x.pc, .slice x.la x.links.length x.lc, .slice x.ea x.events.length x.ec]) ∧ x.m = m ∧ OwnM w.heap.size w' x ∧ Below w.heap.size w w'
theorem Try.infoMd : (Try.prog.info? 26).map (·.size) = some 4 := by kernel_rfl
theorem mdl_ret {fn : Func} {p : Tmp} (h : fn.results = #[.cell p 26]) {W : World} {B : Nat} {a b c d : Value} {tmps : Array Value} (hx : W.heap[B]? = some (.cells #[a, b, c, d] 26 (0, 0)))
    (h2 : tmps.getD p undef = .pointer (some ⟨B, 0, none⟩)) : (results fn tmps).run Try.prog W = .ok (.agg #[a, b, c, d]) W :=
  results_cell_row h _ _ B 26 _ (0, 0) _ h2 hx Try.underlying26 rfl Try.infoMd
/-- While a model is copied: its boxes; its rows, the first j of which have lists of their own. -/
structure Cp (w : World) (x : ModelV) (pa : Option Addr) (pb pc : Nat) (la : Option Addr) (lb lc : Nat) (ea : Option Addr) (eb ec : Nat) (j : Nat) (P : List ProcV) (W : World) : Prop where
  box : W.heap[w.heap.size]? = some (.cells #[.int .i64 x.ver, .slice pa x.procs.length pc, .slice la x.links.length lc, .slice ea x.events.length ec] 26 (0, 0))
  res : W.heap[w.heap.size + 1]? = some (.cells #[.int .i64 0, .slice none 0 0, .slice none 0 0, .slice none 0 0] 26 (0, 0))
  procs : OwnR encP fitP 4 36 w.heap.size W pa pb P
  links : OwnR encL fitL 5 57 w.heap.size W la lb x.links
  events : OwnR encE fitE 3 60 w.heap.size W ea eb x.events
  len : P.length = x.procs.length
  each : ∀ (i : Nat) q, P[i]? = some q → ∃ q0, x.procs[i]? = some q0 ∧ q.p = q0.p ∧ (i < j → OwnP w.heap.size W q) ∧ (j ≤ i → q = q0)
  low : Below w.heap.size w W
theorem Cp.on {w : World} {x : ModelV} {pa : Option Addr} {pb pc : Nat} {la : Option Addr} {lb lc : Nat} {ea : Option Addr} {eb ec : Nat} {j : Nat} {P : List ProcV} {W W' : World} (h : Cp w x pa pb pc la lb lc ea eb ec j P W) (hb : Below W.heap.size W W') : Cp w x pa pb pc la lb lc ea eb ec j P W' :=
  ⟨heap_below h.box hb (heap_lt h.box), heap_below h.res hb (heap_lt h.res), h.procs.on hb, h.links.on hb, h.events.on hb, h.len, fun i q hi => by
    obtain ⟨q0, h1, h2, h3, h4⟩ := h.each i q hi
    exact ⟨q0, h1, h2, fun hj => (h3 hj).on hb, h4⟩, h.low.trans (hb.mono h.low.size)⟩
theorem Turned.one (W : World) (N i : Nat) (v : Value) : Turned (fun k => k = N) W (W.setCell ⟨N, i, none⟩ v) := Turned.set' (R := fun k => k = N) (Turned.refl' _ _) rfl i v
theorem OwnR.box {α : Type} {enc : α → List Value} {fit : α → Prop} {sz : Nat} {t : TypeId} {base N : Nat} {W : World} {a : Option Addr} {b : Nat} {L : List α} (h : OwnR enc fit sz t base W a b L) (hN : N < base) (i : Nat) (v : Value) : OwnR enc fit sz t base (W.setCell ⟨N, i, none⟩ v) a b L :=
  h.turned (R := fun k => k = N) (Turned.one W N i v) (fun hb _ _ e => by omega)
theorem Below.box {w W : World} {B N : Nat} (h : Below B w W) (hN : B ≤ N) (i : Nat) (v : Value) : Below B w (W.setCell ⟨N, i, none⟩ v) := h.setCell (p := ⟨N, i, none⟩) hN v
theorem OwnR.other {α β : Type} {enc : α → List Value} {fit : α → Prop} {sz : Nat} {t t' : TypeId} {base pb : Nat} {W W' : World} {a : Option Addr} {b : Nat} {L : List α} {enc' : β → List Value} {sz' : Nat} {P : List β} (h : OwnR enc fit sz t base W a b L) (hr : RowC enc' sz' W pb t' P) (hT : Turned (fun k => k = pb) W W') (ht : t ≠ t') : OwnR enc fit sz t base W' a b L :=
  h.turned hT (fun _ cur hc e => by
    obtain ⟨cur', hc', _⟩ := hr
    rw [e, hc'] at hc
    cases hc
    exact ht rfl)
theorem OwnP.other {base pb : Nat} {W W' : World} {p : ProcV} {P : List ProcV} (h : OwnP base W p) (hr : RowC encP 4 W pb 36 P) (hT : Turned (fun k => k = pb) W W') : OwnP base W' p :=
  ⟨h.vars.other hr hT (by decide), h.vo, h.steps.other hr hT (by decide), h.so⟩
theorem encP_vars (q : ProcV) (va : Option Addr) (vb vc : Nat) : ∀ r u, (encP { q with va := va, vb := vb, vo := 0, vc := vc })[r]? = some u → (r = 2 ∧ u = .slice va q.p.vars.length vc) ∨ (r ≠ 2 ∧ (encP q)[r]? = some u) := by
  intro r u hu
  rcases r with _ | _ | _ | _ | r
  · exact .inr ⟨by decide, hu⟩
  · exact .inr ⟨by decide, hu⟩
  · exact .inl ⟨rfl, by simpa [encP, ProcV.vv] using hu.symm⟩
  · exact .inr ⟨by decide, hu⟩
  · simp [encP] at hu
theorem encP_steps (q : ProcV) (sa : Option Addr) (sb sc : Nat) : ∀ r u, (encP { q with sa := sa, sb := sb, so := 0, sc := sc })[r]? = some u → (r = 3 ∧ u = .slice sa q.p.steps.length sc) ∨ (r ≠ 3 ∧ (encP q)[r]? = some u) := by
  intro r u hu
  rcases r with _ | _ | _ | _ | r
  · exact .inr ⟨by decide, hu⟩
  · exact .inr ⟨by decide, hu⟩
  · exact .inr ⟨by decide, hu⟩
  · exact .inl ⟨rfl, by simpa [encP, ProcV.sv] using hu.symm⟩
  · simp [encP] at hu
theorem Cp.next {w : World} {x : ModelV} {pa : Option Addr} {pb pc : Nat} {la : Option Addr} {lb lc : Nat} {ea : Option Addr} {eb ec : Nat} {j : Nat} {P : List ProcV} {W W' : World} (h : Cp w x pa pb pc la lb lc ea eb ec j P W) (hr : RowC encP 4 W pb 36 P) (hpa : pa = some ⟨pb, 0, none⟩) (hpb : w.heap.size ≤ pb)
    (hT : Turned (fun k => k = pb) W W') {q q2 : ProcV} (hq0 : x.procs[j]? = some q) (hr2 : RowC encP 4 W' pb 36 (P.set j q2)) (ho : OwnP w.heap.size W' q2) (hp : q2.p = q.p) : Cp w x pa pb pc la lb lc ea eb ec (j + 1) (P.set j q2) W' := by
  obtain ⟨cur, hc, _⟩ := id hr
  have hne : ∀ {b : Nat} {cs : Array Value}, W.heap[b]? = some (.cells cs 26 (0, 0)) → ¬ b = pb := fun hb e => by
    rw [e, hc] at hb
    cases hb
  refine ⟨hT.old h.box (hne h.box), hT.old h.res (hne h.res), ⟨.inr ⟨hpa, hpb, hr2⟩, by rw [List.length_set]; exact h.procs.small, fun y hy => ?_⟩, h.links.other hr hT (by decide), h.events.other hr hT (by decide), by rw [List.length_set]; exact h.len, fun i y hi => ?_, h.low.trans ((Turned.to_b hT (B := w.heap.size) (fun k hk e => by omega) h.low.size))⟩
  · rcases List.mem_or_eq_of_mem_set hy with h1 | h1
    · exact h.procs.fits y h1
    · subst h1
      obtain ⟨i0, hi0⟩ := List.getElem?_of_mem (List.mem_of_getElem? hq0)
      show y.p.name.size ≤ maxLen
      rw [hp]
      have hjl : j < P.length := by rw [h.len]; exact (List.getElem?_eq_some_iff.1 hq0).1
      obtain ⟨q0, h1, h2, _⟩ := h.each j _ (List.getElem?_eq_getElem hjl)
      rw [hq0] at h1
      cases h1
      rw [← h2]
      exact h.procs.fits _ (List.getElem_mem hjl)
  · by_cases e : i = j
    · subst e
      have hil : i < P.length := by rw [h.len]; exact (List.getElem?_eq_some_iff.1 hq0).1
      rw [List.getElem?_set_self hil] at hi
      cases hi
      exact ⟨q, hq0, hp, fun _ => ho, fun hj => by omega⟩
    · rw [List.getElem?_set_ne (fun h => e h.symm)] at hi
      obtain ⟨q0, h1, h2, h3, h4⟩ := h.each i y hi
      exact ⟨q0, h1, h2, fun hj => (h3 (by omega)).other hr hT, fun hj => h4 (by omega)⟩
set_option maxRecDepth 100000 in
set_option maxHeartbeats 4000000 in
theorem copy_any {w : World} {x : ModelV} (h : ModelAt w.heap.size w x) (hs : Sized x.m) : Calls Try.prog 56 #[.agg #[.int .i64 x.ver, .slice x.pa x.procs.length x.pc, .slice x.la x.links.length x.lc, .slice x.ea x.events.length x.ec]] w (CopyQ w x.m) := by
  have HM := Lib.hid h
  have HS := Lib.hid hs
  have hx1 := heap_alloc (heap_new (w := w) (.cells #[.int .i64 x.ver, .slice x.pa x.procs.length x.pc, .slice x.la x.links.length x.lc, .slice x.ea x.events.length x.ec] 26) rfl) (.cells #[.int .i64 0, .slice none 0 0, .slice none 0 0, .slice none 0 0] 26)
  have hr1 := heap_new (w := w.alloc (.cells #[.int .i64 x.ver, .slice x.pa x.procs.length x.pc, .slice x.la x.links.length x.lc, .slice x.ea x.events.length x.ec] 26)) (.cells #[.int .i64 0, .slice none 0 0, .slice none 0 0, .slice none 0 0] 26) rfl
  have hb1 := (below_one w (.cells #[.int .i64 x.ver, .slice x.pa x.procs.length x.pc, .slice x.la x.links.length x.lc, .slice x.ea x.events.length x.ec] 26)).alloc (by simp) (.cells #[.int .i64 0, .slice none 0 0, .slice none 0 0, .slice none 0 0] 26)
  rw [World.size_alloc] at hr1
  have HX := Lib.hid hx1
  have HR := Lib.hid hr1
  have HB := Lib.hid hb1
  clear h hs hx1 hr1 hb1
  go_enter Try.func56, Try.ntmps56
  go_upto_region 1 with fail
  generalize (w.alloc (.cells #[.int .i64 x.ver, .slice x.pa x.procs.length x.pc, .slice x.la x.links.length x.lc, .slice x.ea x.events.length x.ec] 26)).alloc (.cells #[.int .i64 0, .slice none 0 0, .slice none 0 0, .slice none 0 0] 26) = w1 at *
  have c1 : w1.cell? ⟨w.heap.size, 1, none⟩ = some (.slice x.pa x.procs.length x.pc) := heap_cell HX.out rfl
  go_wp2_with fail
  refine (cloneP_any (HM.out.on HB.out).procs (by have := HS.out.procs; unfold ModelV.m at this; first | (rw [List.length_map] at this; omega) | (dsimp only at this; omega))).mono ?_
  rintro e w2 ⟨pa, pb, pc, rfl, hr, hb⟩
  clear c1
  have hN : w.heap.size + 1 < w1.heap.size := heap_lt HR.out
  have hN0 : w.heap.size < w1.heap.size := by omega
  have hx2 := heap_below HX.out hb (heap_lt HX.out)
  have hr2 := heap_below HR.out hb (heap_lt HR.out)
  have hx3 : (w2.setCell ⟨w.heap.size, 1, none⟩ (.slice pa x.procs.length pc)).heap[w.heap.size]? = some (.cells #[.int .i64 x.ver, .slice pa x.procs.length pc, .slice x.la x.links.length x.lc, .slice x.ea x.events.length x.ec] 26 (0, 0)) := heap_set hx2 1 _
  have hr3 := heap_other hr2 (show w.heap.size + 1 ≠ w.heap.size by omega) 1 (.slice pa x.procs.length pc)
  have hb3 := Below.box (HB.out.trans (hb.mono HB.out.size)) (Nat.le_refl _) 1 (.slice pa x.procs.length pc)
  have hown := (OwnR.box hr hN0 1 (.slice pa x.procs.length pc)).mono HB.out.size
  have c1 : w2.cell? ⟨w.heap.size, 1, none⟩ = some (.slice x.pa x.procs.length x.pc) := heap_cell hx2 rfl
  have f1 := heap_frozen hx2 1
  go_upto_region 2 with fail
  clear c1 f1
  generalize w2.setCell ⟨w.heap.size, 1, none⟩ (.slice pa x.procs.length pc) = w3 at *
  replace HX := Lib.hid hx3
  replace HR := Lib.hid hr3
  replace HB := Lib.hid hb3
  have HP := Lib.hid hown
  clear hx2 hr2 hx3 hr3 hb3 hown hN hN0 hr hb 
  have c2 : w3.cell? ⟨w.heap.size, 2, none⟩ = some (.slice x.la x.links.length x.lc) := heap_cell HX.out rfl
  go_wp2_with fail
  refine (cloneL_any (HM.out.on HB.out).links (by have := HS.out.links; unfold ModelV.m at this; first | (rw [List.length_map] at this; omega) | (dsimp only at this; omega))).mono ?_
  rintro e w4 ⟨la, lb, lc, rfl, hr, hb⟩
  clear c2
  have hN : w.heap.size + 1 < w3.heap.size := heap_lt HR.out
  have hN0 : w.heap.size < w3.heap.size := by omega
  have hx2 := heap_below HX.out hb (heap_lt HX.out)
  have hr2 := heap_below HR.out hb (heap_lt HR.out)
  have hx3 : (w4.setCell ⟨w.heap.size, 2, none⟩ (.slice la x.links.length lc)).heap[w.heap.size]? = some (.cells #[.int .i64 x.ver, .slice pa x.procs.length pc, .slice la x.links.length lc, .slice x.ea x.events.length x.ec] 26 (0, 0)) := heap_set hx2 2 _
  have hr3 := heap_other hr2 (show w.heap.size + 1 ≠ w.heap.size by omega) 2 (.slice la x.links.length lc)
  have hb3 := Below.box (HB.out.trans (hb.mono HB.out.size)) (Nat.le_refl _) 2 (.slice la x.links.length lc)
  have HP' := OwnR.turned (R := fun k => k = w.heap.size) (HP.out.on hb) (Turned.one _ _ 2 (.slice la x.links.length lc)) (fun _ cur hc e => by rw [e, hx2] at hc; cases hc)
  have hown := (OwnR.box hr hN0 2 (.slice la x.links.length lc)).mono HB.out.size
  have c2 : w4.cell? ⟨w.heap.size, 2, none⟩ = some (.slice x.la x.links.length x.lc) := heap_cell hx2 rfl
  have f2 := heap_frozen hx2 2
  go_upto_region 3 with fail
  clear c2 f2
  generalize w4.setCell ⟨w.heap.size, 2, none⟩ (.slice la x.links.length lc) = w5 at *
  replace HX := Lib.hid hx3
  replace HR := Lib.hid hr3
  replace HB := Lib.hid hb3
  replace HP := Lib.hid HP'
  have HL := Lib.hid hown
  clear hx2 hr2 hx3 hr3 hb3 hown hN hN0 hr hb HP'
  have c3 : w5.cell? ⟨w.heap.size, 3, none⟩ = some (.slice x.ea x.events.length x.ec) := heap_cell HX.out rfl
  go_wp2_with fail
  refine (cloneE_any (HM.out.on HB.out).events (by have := HS.out.events; unfold ModelV.m at this; first | (rw [List.length_map] at this; omega) | (dsimp only at this; omega))).mono ?_
  rintro e w6 ⟨ea, eb, ec, rfl, hr, hb⟩
  clear c3
  have hN : w.heap.size + 1 < w5.heap.size := heap_lt HR.out
  have hN0 : w.heap.size < w5.heap.size := by omega
  have hx2 := heap_below HX.out hb (heap_lt HX.out)
  have hr2 := heap_below HR.out hb (heap_lt HR.out)
  have hx3 : (w6.setCell ⟨w.heap.size, 3, none⟩ (.slice ea x.events.length ec)).heap[w.heap.size]? = some (.cells #[.int .i64 x.ver, .slice pa x.procs.length pc, .slice la x.links.length lc, .slice ea x.events.length ec] 26 (0, 0)) := heap_set hx2 3 _
  have hr3 := heap_other hr2 (show w.heap.size + 1 ≠ w.heap.size by omega) 3 (.slice ea x.events.length ec)
  have hb3 := Below.box (HB.out.trans (hb.mono HB.out.size)) (Nat.le_refl _) 3 (.slice ea x.events.length ec)
  have HP' := OwnR.turned (R := fun k => k = w.heap.size) (HP.out.on hb) (Turned.one _ _ 3 (.slice ea x.events.length ec)) (fun _ cur hc e => by rw [e, hx2] at hc; cases hc)
  have HL' := OwnR.turned (R := fun k => k = w.heap.size) (HL.out.on hb) (Turned.one _ _ 3 (.slice ea x.events.length ec)) (fun _ cur hc e => by rw [e, hx2] at hc; cases hc)
  have hown := (OwnR.box hr hN0 3 (.slice ea x.events.length ec)).mono HB.out.size
  have c3 : w6.cell? ⟨w.heap.size, 3, none⟩ = some (.slice x.ea x.events.length x.ec) := heap_cell hx2 rfl
  have f3 := heap_frozen hx2 3
  go_upto_region 4 with fail
  clear c3 f3
  generalize w6.setCell ⟨w.heap.size, 3, none⟩ (.slice ea x.events.length ec) = w7 at *
  replace HX := Lib.hid hx3
  replace HR := Lib.hid hr3
  replace HB := Lib.hid hb3
  replace HP := Lib.hid HP'
  replace HL := Lib.hid HL'
  have HE := Lib.hid hown
  clear hx2 hr2 hx3 hr3 hb3 hown hN hN0 hr hb HP' HL'
  have HC : Hid (Cp w x pa pb pc la lb lc ea eb ec 0 x.procs w7) := Lib.hid ⟨HX.out, HR.out, HP.out, HL.out, HE.out, rfl, fun i q hi => ⟨q, hi, rfl, fun h => absurd h (Nat.not_lt_zero _), fun _ => rfl⟩, HB.out⟩
  have c1 : w7.cell? ⟨w.heap.size, 1, none⟩ = some (.slice pa x.procs.length pc) := heap_cell HX.out rfl
  have hsm : (x.procs.length : Int) ≤ 20000 := by have := HS.out.procs; unfold ModelV.m at this; rw [List.length_map] at this; omega
  go_wp2_with fail
  clear c1 HX HR HB HP HL HE
  go_loopw [20] (fun i wr => ∃ (j : Nat) (P : List ProcV), i = .int .i64 (j : Int) ∧ j ≤ x.procs.length ∧ Hid (Cp w x pa pb pc la lb lc ea eb ec j P wr)) (fun i _ => x.procs.length - (intOf i).toNat)
  case atStart => exact ⟨0, _, rfl, Nat.zero_le _, HC⟩
  case round =>
    clear HC
    obtain ⟨j, P, rfl, hj, HC⟩ := hrel
    have hj0 : (0 : Int) ≤ (j : Int) := Int.natCast_nonneg j
    by_cases hlt : j < x.procs.length
    · have hji : (j : Int) < (x.procs.length : Int) := by omega
      obtain ⟨q, hq⟩ : ∃ q, P[j]? = some q := ⟨_, List.getElem?_eq_getElem (by rw [HC.out.len]; exact hlt)⟩
      obtain ⟨q0, hq0, _, _, hqq⟩ := HC.out.each j q hq
      obtain rfl := hqq (Nat.le_refl _)
      obtain ⟨rfl, hbase, hrow⟩ := HC.out.procs.own.resolve_left (fun e => by rw [e] at hq; simp at hq)
      have HRow := Lib.hid hrow
      have r0 : wr.cell? ⟨pb, j * 4, none⟩ = some (.string q.p.name) := hrow.cell hq (r := 0) rfl
      have r1 : wr.cell? ⟨pb, j * 4 + 1, none⟩ = some (.int .i64 q.p.weight) := hrow.cell hq (r := 1) rfl
      have r2 : wr.cell? ⟨pb, j * 4 + 2, none⟩ = some (.slice q.va q.p.vars.length q.vc) := hrow.cell hq (r := 2) rfl
      have r3 : wr.cell? ⟨pb, j * 4 + 3, none⟩ = some (.slice q.sa q.p.steps.length q.sc) := hrow.cell hq (r := 3) rfl
      go_upto_region 7 with fail
      have HC8 : Hid (Cp w x (some ⟨pb, 0, none⟩) pb pc la lb lc ea eb ec j P (wr.alloc (.cells #[.string q.p.name, .int .i64 q.p.weight, .slice q.va q.p.vars.length q.vc, .slice q.sa q.p.steps.length q.sc] 36))) := Lib.hid (HC.out.on (below_one _ _))
      have HO8 := Lib.hid (heap_new (w := wr) (.cells #[.string q.p.name, .int .i64 q.p.weight, .slice q.va q.p.vars.length q.vc, .slice q.sa q.p.steps.length q.sc] 36) rfl)
      have HRow8 : Hid (RowC encP 4 (wr.alloc (.cells #[.string q.p.name, .int .i64 q.p.weight, .slice q.va q.p.vars.length q.vc, .slice q.sa q.p.steps.length q.sc] 36)) pb 36 P) := Lib.hid (HRow.out.on (below_one _ _))
      have hnN : w.heap.size < wr.heap.size := heap_lt HC.out.box
      have hpb : pb < wr.heap.size := HRow.out.lt
      have hbne : ¬ pb = wr.heap.size := by omega
      have HPi := Lib.hid (HM.out.inner q (List.mem_of_getElem? hq0))
      have hvl : q.p.vars.length ≤ 20000 ∧ q.p.steps.length ≤ 20000 := HS.out.inner q.p (by unfold ModelV.m; exact List.mem_map_of_mem (List.mem_of_getElem? hq0))
      have HQ := Lib.hid hq
      have HQ0 := Lib.hid hq0
      clear r0 r1 r2 r3 HC HRow hrow hqq hq0 hq
      have hz8 : (wr.alloc (.cells #[.string q.p.name, .int .i64 q.p.weight, .slice q.va q.p.vars.length q.vc, .slice q.sa q.p.steps.length q.sc] 36)).heap.size = wr.heap.size + 1 := World.size_alloc _ _
      generalize wr.alloc (.cells #[.string q.p.name, .int .i64 q.p.weight, .slice q.va q.p.vars.length q.vc, .slice q.sa q.p.steps.length q.sc] 36) = w8 at *
      have HZ8 := Lib.hid hz8
      clear hz8
      have hne8 : ¬ w.heap.size = pb := fun e => by
        obtain ⟨cur, hc, _⟩ := HRow8.out
        rw [← e, HC8.out.box] at hc
        cases hc
      have dN : ∀ W, Turned (fun k => k = pb) w8 W → W.cell? ⟨w.heap.size, 1, none⟩ = some (.slice (some ⟨pb, 0, none⟩) x.procs.length pc) := fun W hW => heap_cell (hW.old HC8.out.box hne8) rfl
      have dP : ∀ W, Turned (fun k => k = pb) w8 W → W.cell? ⟨wr.heap.size, 2, none⟩ = some (.slice q.va q.p.vars.length q.vc) := fun W hW => heap_cell (hW.old HO8.out (fun e => hbne e.symm)) rfl
      have dR : ∀ W, Below w8.heap.size w8 W → W.cell? ⟨pb, j * 4 + 2, none⟩ = some (.slice q.va q.p.vars.length q.vc) := fun W hW => (HRow8.out.on hW).cell HQ.out (r := 2) rfl
      have dF : ∀ W, Below w8.heap.size w8 W → W.frozen? ⟨pb, j * 4 + 2, none⟩ = false := fun W hW => (HRow8.out.on hW).frozen _
      have DR := Lib.hid dR
      have DF := Lib.hid dF
      clear dR dF
      have CV : Hid (∀ W, Below w8.heap.size w8 W → Calls Try.prog 85 #[.slice q.va q.p.vars.length q.vc] W (fun e w9 => ∃ va vb vc, e = .returned (.slice va q.p.vars.length vc) ∧ Hid (OwnR encV fitV 2 80 w8.heap.size w9 va vb q.p.vars) ∧ Hid (Below w8.heap.size w8 w9))) := Lib.hid (fun W hW => (cloneV_any (HPi.out.on (HC8.out.on hW).low).vars (by omega)).mono (fun e w9 ⟨va, vb, vc, h1, h2, h3⟩ => ⟨va, vb, vc, h1, Lib.hid (h2.mono hW.size), Lib.hid (hW.trans (h3.mono hW.size))⟩))
      go_region_held3 (fun W => Turned (fun k => k = pb) w8 W) (first | assumption | exact Turned.refl' _ _ | exact Turned.drew' (Turned.refl' _ _) | exact Turned.drew' (by assumption) | exact Turned.of_b hB9.out | exact Turned.drew' (Turned.of_b hB9.out) | exact Turned.set' (R := fun k => k = pb) (Turned.of_b hB9.out) rfl _ _) (
        (go_at_call 85; refine (CV.out _ (by first | assumption | exact Below.refl _ _ | exact (Below.refl _ _).drew)).mono ?_; clear CV; rintro e w9 ⟨va, vb, vc, rfl, hV, hB9⟩; have r9 := DR.out _ hB9.out; have f9 := DF.out _ hB9.out))
      have hT10 : Turned (fun k => k = pb) w8 (w9.setCell ⟨pb, j * 4 + 2, none⟩ (.slice va q.p.vars.length vc)) := by assumption
      have hR10 : RowC encP 4 (w9.setCell ⟨pb, j * 4 + 2, none⟩ (.slice va q.p.vars.length vc)) pb 36 (P.set j { q with va := va, vb := vb, vo := 0, vc := vc }) := RowC.set (enc := encP) (fun _ => rfl) (HRow8.out.on hB9.out) HQ.out (q := 2) (by decide) (encP_vars q va vb vc)
      have hV10 : OwnR encV fitV 2 80 w8.heap.size (w9.setCell ⟨pb, j * 4 + 2, none⟩ (.slice va q.p.vars.length vc)) va vb q.p.vars := hV.out.turned (Turned.one _ _ _ _) (fun hb _ _ e => by have := HRow8.out.lt; omega)
      have hPT10 : Below w.heap.size w (w9.setCell ⟨pb, j * 4 + 2, none⟩ (.slice va q.p.vars.length vc)) := HC8.out.low.trans (Turned.to_b hT10 (B := w.heap.size) (fun k hk e => by omega) HC8.out.low.size)
      go_upto_region 8 with fail
      clear dN dP r9 f9
      generalize w9.setCell ⟨pb, j * 4 + 2, none⟩ (.slice va q.p.vars.length vc) = w10 at *
      have HT10 := Lib.hid hT10
      have HR10 := Lib.hid hR10
      have HV10 := Lib.hid hV10
      have HB10 := Lib.hid hPT10
      have hjP : j < P.length := by rw [HC8.out.len]; exact hlt
      have HQ10 : Hid ((P.set j { q with va := va, vb := vb, vo := 0, vc := vc })[j]? = some { q with va := va, vb := vb, vo := 0, vc := vc }) := Lib.hid (List.getElem?_set_self hjP)
      clear hT10 hR10 hV10 hPT10 hV DR DF hjP
      have dN : ∀ W, Turned (fun k => k = pb) w10 W → W.cell? ⟨w.heap.size, 1, none⟩ = some (.slice (some ⟨pb, 0, none⟩) x.procs.length pc) := fun W hW => heap_cell (hW.old (HT10.out.old HC8.out.box hne8) hne8) rfl
      have dP : ∀ W, Turned (fun k => k = pb) w10 W → W.cell? ⟨wr.heap.size, 3, none⟩ = some (.slice q.sa q.p.steps.length q.sc) := fun W hW => heap_cell (hW.old (HT10.out.old HO8.out (fun e => hbne e.symm)) (fun e => hbne e.symm)) rfl
      have DR : Hid (∀ W, Below w10.heap.size w10 W → W.cell? ⟨pb, j * 4 + 3, none⟩ = some (.slice q.sa q.p.steps.length q.sc)) := Lib.hid (fun W hW => (HR10.out.on hW).cell HQ10.out (r := 3) rfl)
      have DF : Hid (∀ W, Below w10.heap.size w10 W → W.frozen? ⟨pb, j * 4 + 3, none⟩ = false) := Lib.hid (fun W hW => (HR10.out.on hW).frozen _)
      have CS : Hid (∀ W, Below w10.heap.size w10 W → Calls Try.prog 86 #[.slice q.sa q.p.steps.length q.sc] W (fun e w11 => ∃ sa sb sc, e = .returned (.slice sa q.p.steps.length sc) ∧ Hid (OwnR encS fitS 5 99 w10.heap.size w11 sa sb q.p.steps) ∧ Hid (Below w10.heap.size w10 w11))) := Lib.hid (fun W hW => (cloneS_any (HPi.out.on (HB10.out.trans (hW.mono HB10.out.size))).steps (by omega)).mono (fun e w11 ⟨sa, sb, sc, h1, h2, h3⟩ => ⟨sa, sb, sc, h1, Lib.hid (h2.mono hW.size), Lib.hid (hW.trans (h3.mono hW.size))⟩))
      go_region_held3 (fun W => Turned (fun k => k = pb) w10 W) (first | assumption | exact Turned.refl' _ _ | exact Turned.drew' (Turned.refl' _ _) | exact Turned.drew' (by assumption) | exact Turned.of_b hB11.out | exact Turned.drew' (Turned.of_b hB11.out) | exact Turned.set' (R := fun k => k = pb) (Turned.of_b hB11.out) rfl _ _) (
        (go_at_call 86; refine (CS.out _ (by first | assumption | exact Below.refl _ _ | exact (Below.refl _ _).drew)).mono ?_; clear CS; rintro e w11 ⟨sa, sb, sc, rfl, hS, hB11⟩; have r11 := DR.out _ hB11.out; have f11 := DF.out _ hB11.out))
      have hT12 : Turned (fun k => k = pb) w10 (w11.setCell ⟨pb, j * 4 + 3, none⟩ (.slice sa q.p.steps.length sc)) := by assumption
      have hR12 : RowC encP 4 (w11.setCell ⟨pb, j * 4 + 3, none⟩ (.slice sa q.p.steps.length sc)) pb 36 (P.set j { q with va := va, vb := vb, vo := 0, vc := vc, sa := sa, sb := sb, so := 0, sc := sc }) := by
        have := RowC.set (enc := encP) (fun _ => rfl) (HR10.out.on hB11.out) HQ10.out (q := 3) (by decide) (encP_steps { q with va := va, vb := vb, vo := 0, vc := vc } sa sb sc)
        rw [List.set_set] at this
        exact this
      have hpl : pb < w10.heap.size := HR10.out.lt
      have hS12 : OwnR encS fitS 5 99 w10.heap.size (w11.setCell ⟨pb, j * 4 + 3, none⟩ (.slice sa q.p.steps.length sc)) sa sb q.p.steps := hS.out.turned (Turned.one _ _ _ _) (fun hb _ _ e => by omega)
      have hV12 : OwnR encV fitV 2 80 w8.heap.size (w11.setCell ⟨pb, j * 4 + 3, none⟩ (.slice sa q.p.steps.length sc)) va vb q.p.vars := (HV10.out.on hB11.out).turned (Turned.one _ _ _ _) (fun hb _ _ e => by have := HRow8.out.lt; omega)
      have HC12 := Lib.hid (HC8.out.next HRow8.out rfl hbase (Turned.trans' HT10.out hT12) HQ0.out hR12 ⟨hV12.mono HC8.out.low.size, rfl, hS12.mono HB10.out.size, rfl⟩ rfl)
      clear hT12 hR12 hS12 hV12 dN dP DR DF hS r11 f11
      go_wp2
      refine ⟨⟨j + 1, _, by simp, by omega, HC12⟩, ?_⟩
      unfold intOf
      simp
      omega
    · obtain rfl : j = x.procs.length := by omega
      have c0 : wr.cell? ⟨w.heap.size, 0, none⟩ = some (.int .i64 x.ver) := heap_cell HC.out.box rfl
      have c1 : wr.cell? ⟨w.heap.size, 1, none⟩ = some (.slice pa x.procs.length pc) := heap_cell HC.out.box rfl
      have c2 : wr.cell? ⟨w.heap.size, 2, none⟩ = some (.slice la x.links.length lc) := heap_cell HC.out.box rfl
      have c3 : wr.cell? ⟨w.heap.size, 3, none⟩ = some (.slice ea x.events.length ec) := heap_cell HC.out.box rfl
      have f0 := heap_frozen HC.out.res 0
      have d0 : wr.cell? ⟨w.heap.size + 1, 0, none⟩ = some (.int .i64 0) := heap_cell HC.out.res rfl
      have d1 : wr.cell? ⟨w.heap.size + 1, 1, none⟩ = some (.slice none 0 0) := heap_cell HC.out.res rfl
      have d2 : wr.cell? ⟨w.heap.size + 1, 2, none⟩ = some (.slice none 0 0) := heap_cell HC.out.res rfl
      have d3 : wr.cell? ⟨w.heap.size + 1, 3, none⟩ = some (.slice none 0 0) := heap_cell HC.out.res rfl
      have f1 := heap_frozen HC.out.res 1
      have f2 := heap_frozen HC.out.res 2
      have f3 := heap_frozen HC.out.res 3
      go_wp2
      have hr4 := heap_set (heap_set (heap_set (heap_set HC.out.res 0 (.int .i64 x.ver)) 1 (.slice pa x.procs.length pc)) 2 (.slice la x.links.length lc)) 3 (.slice ea x.events.length ec)
      have hT : Turned (fun k => k = w.heap.size + 1) wr _ := Turned.set' (Turned.set' (Turned.set' (Turned.set' (Turned.refl' (fun k => k = w.heap.size + 1) wr) rfl 0 (.int .i64 x.ver)) rfl 1 (.slice pa x.procs.length pc)) rfl 2 (.slice la x.links.length lc)) rfl 3 (.slice ea x.events.length ec)
      have hlow := Below.box (Below.box (Below.box (Below.box HC.out.low (Nat.le_succ _) 0 (.int .i64 x.ver)) (Nat.le_succ _) 1 (.slice pa x.procs.length pc)) (Nat.le_succ _) 2 (.slice la x.links.length lc)) (Nat.le_succ _) 3 (.slice ea x.events.length ec)
      refine bodyPost_ret (mdl_ret rfl hr4 rfl) rfl ?_
      generalize (((wr.setCell ⟨w.heap.size + 1, 0, none⟩ (.int .i64 x.ver)).setCell ⟨w.heap.size + 1, 1, none⟩ (.slice pa x.procs.length pc)).setCell ⟨w.heap.size + 1, 2, none⟩ (.slice la x.links.length lc)).setCell ⟨w.heap.size + 1, 3, none⟩ (.slice ea x.events.length ec) = W4 at *
      have hm : P.map (fun y => y.p) = x.procs.map (fun y => y.p) := by
        apply List.ext_getElem?
        intro i
        rw [List.getElem?_map, List.getElem?_map]
        cases hi : P[i]? with
        | none =>
          rw [List.getElem?_eq_none (by rw [← HC.out.len]; exact List.getElem?_eq_none_iff.1 hi)]
        | some q =>
          obtain ⟨q0, h1, h2, _⟩ := HC.out.each i q hi
          rw [h1]
          simp [h2]
      refine ⟨⟨x.ver, P, x.links, x.events, pa, pb, 0, pc, la, lb, 0, lc, ea, eb, 0, ec⟩, by dsimp only; rw [HC.out.len], by unfold ModelV.m; dsimp only; rw [hm], ?_, hlow⟩
      have hne : ∀ {b : Nat} {cs : Array Value} {t : TypeId}, wr.heap[b]? = some (.cells cs t (0, 0)) → t ≠ 26 → ¬ b = w.heap.size + 1 := fun hb ht e => by
        rw [e, HC.out.res] at hb
        cases hb
        exact ht rfl
      exact ⟨HC.out.procs.turned hT (fun _ _ hc => hne hc (by decide)), rfl, fun p hp => by
        obtain ⟨i, hi⟩ := List.getElem?_of_mem hp
        obtain ⟨q0, _, _, h3, _⟩ := HC.out.each i p hi
        have h4 := h3 (by rw [← HC.out.len]; exact (List.getElem?_eq_some_iff.1 hi).1)
        exact ⟨h4.vars.turned hT (fun _ _ hc => hne hc (by decide)), h4.vo, h4.steps.turned hT (fun _ _ hc => hne hc (by decide)), h4.so⟩, HC.out.links.turned hT (fun _ _ hc => hne hc (by decide)), rfl, HC.out.events.turned hT (fun _ _ hc => hne hc (by decide)), rfl⟩
end Go.Proofs.Ytgnlehenbdcgmaa.Md

namespace Go.Proofs.Ytgnlehenbdcgmaa.Md
open Go.RowKit Go.Shelf
/-- The first of two that is one. -/
theorem or64_any {w : World} {N : Nat} {a b : Int} (h0 : w.cell? ⟨N, 0, none⟩ = some (.int .i64 a)) (h1 : w.cell? ⟨N, 1, none⟩ = some (.int .i64 b)) :
    Calls Try.prog 93 #[.slice (some ⟨N, 0, none⟩) 2 2] w fun e w' => e = .returned (.int .i64 (if a = 0 then b else a)) ∧ w' = w := by
  obtain ⟨r, hr⟩ : ∃ r, (if a = 0 then b else a) = r := ⟨_, rfl⟩
  rw [hr]
  have HR := Lib.hid hr
  clear hr
  go_enter Try.func93, Try.ntmps93
  go_wp2
  go_loop [8] (fun i => ∃ k : Nat, i = .int .i64 (k : Int) ∧ k ≤ 2 ∧ Hid ((1 ≤ k → a = 0) ∧ (2 ≤ k → b = 0))) (fun i => 2 - (intOf i).toNat)
  case atStart => exact ⟨0, rfl, by omega, Lib.hid ⟨by omega, by omega⟩⟩
  case round =>
    obtain ⟨k, rfl, hk, HK⟩ := hrel
    rcases (by omega : k = 0 ∨ k = 1 ∨ k = 2) with rfl | rfl | rfl
    · by_cases ha : a = 0
      · have hab : (a != 0) = false := by simpa using ha
        have HN : Hid ((1 ≤ 1 → a = 0) ∧ (2 ≤ 1 → b = 0)) := Lib.hid ⟨fun _ => ha, by omega⟩
        clear ha
        go_wp2
        go_round
        case rel => exact ⟨1, rfl, by omega, HN⟩
        case measure => simp [intOf]
      · have hab : (a != 0) = true := by simpa using ha
        have HE : Hid (r = a) := Lib.hid (by rw [← HR.out, if_neg ha])
        clear ha
        go_wp2
        go_ret
        exact ⟨by rw [HE.out]; rfl, rfl⟩
    · have ha := HK.out.1 (Nat.le_refl _)
      by_cases hb : b = 0
      · have hab : (b != 0) = false := by simpa using hb
        have HN : Hid ((1 ≤ 2 → a = 0) ∧ (2 ≤ 2 → b = 0)) := Lib.hid ⟨fun _ => ha, fun _ => hb⟩
        clear ha hb
        go_wp2
        go_round
        case rel => exact ⟨2, rfl, by omega, HN⟩
        case measure => simp [intOf]
      · have hab : (b != 0) = true := by simpa using hb
        have HE : Hid (r = b) := Lib.hid (by rw [← HR.out, if_pos ha])
        clear ha hb
        go_wp2
        go_ret
        exact ⟨by rw [HE.out]; rfl, rfl⟩
    · have ha := HK.out.1 (by omega)
      have hb := HK.out.2 (by omega)
      have HE : Hid (r = 0) := Lib.hid (by rw [← HR.out, if_pos ha, hb])
      clear ha hb
      go_wp2
      go_ret
      exact ⟨by rw [HE.out]; rfl, rfl⟩

theorem mul1000_any (a : Int) (h0 : 0 ≤ a) (h1 : a ≤ 1099511627776) (w : World) : Calls Try.prog 92 #[.int .i64 a, .int .i64 1000] w fun e w' => e = .returned (.tuple #[.int .i64 (a * 1000), .bool true]) ∧ w' = w := by
  have hw : IntKind.i64.wrap (a * 1000) = a * 1000 := by rw [IntKind.wrap_i64]; omega
  have ht : (a * 1000).tdiv 1000 = a := by rw [Int.mul_tdiv_cancel _ (by decide)]
  obtain ⟨m, hm⟩ : ∃ m, a * 1000 = m := ⟨_, rfl⟩
  rw [hm] at hw ht ⊢
  have hw2 : IntKind.i64.wrap a = a := by rw [IntKind.wrap_i64]; omega
  have hn : (a != a) = false := by simp
  have hb1 : (-9223372036854775808 : Int) ≤ m := by omega
  have hb2 : m ≤ (9223372036854775807 : Int) := by omega
  go_enter Try.func92, Try.ntmps92
  go_wp2
  go_ret2
  exact ⟨rfl, rfl⟩
/-- The first j turned by f. -/
def upto {α : Type} (f : α → α) (j : Nat) (L : List α) : List α := (L.take j).map f ++ L.drop j
section
variable {α : Type} {f : α → α} {j : Nat} {L : List α}
theorem upto_zero : upto f 0 L = L := rfl
theorem upto_all : upto f L.length L = L.map f := by unfold upto; simp
theorem upto_length (hj : j ≤ L.length) : (upto f j L).length = L.length := by unfold upto; simp; omega
theorem upto_get (hj : j < L.length) : (upto f j L)[j]? = L[j]? := by
  unfold upto
  rw [List.getElem?_append_right (by simp; omega)]
  simp
  congr 1
  omega
theorem upto_set {q : α} (hq : L[j]? = some q) : (upto f j L).set j (f q) = upto f (j + 1) L := by
  obtain ⟨hj, rfl⟩ := List.getElem?_eq_some_iff.1 hq
  unfold upto
  rw [List.set_append_right _ _ (by simp; omega), List.take_succ_eq_append_getElem hj, List.map_append, List.append_assoc]
  congr 1
  simp only [List.length_map, List.length_take]
  rw [show j - min j L.length = 0 by omega, List.drop_eq_getElem_cons hj]
  rfl
theorem upto_mem {P : α → Prop} (h0 : ∀ x ∈ L, P x) (h1 : ∀ x ∈ L, P (f x)) : ∀ x ∈ upto f j L, P x := fun x hx => by
  unfold upto at hx
  rcases List.mem_append.1 hx with h | h
  · obtain ⟨y, hy, rfl⟩ := List.mem_map.1 h
    exact h1 y (List.mem_of_mem_take hy)
  · exact h0 x (List.mem_of_mem_drop h)
end
def orW (n : Int) : Int := if n = 0 then 1 else n
def delL (l : LinkM) : LinkM := { l with delay := l.delay * 1000 }
def wghL (l : LinkM) : LinkM := { l with weight := orW l.weight }
def wghP (p : ProcM) : ProcM := { p with weight := orW p.weight }
def wghV (q : ProcV) : ProcV := { q with p := wghP q.p }
def zeroM : ModelM := ⟨0, [], [], []⟩
/-- The first delay that is too much a thousand times. -/
def delE (L : List LinkM) : Int × Nat := fErr (fun _ l => if 1099511627776 < l.delay * 1000 then 30 else 0) 0 L
/-- Version 2 of a right model of version 1, or the fault. -/
def delR (m : ModelM) : ModelM × Int × Int := if (delE m.links).1 = 0 then ({ m with ver := 2, links := m.links.map delL }, 0, 0) else (zeroM, 30, ((m.procs.length + (delE m.links).2 : Nat) : Int))
def wghM (m : ModelM) : ModelM := ⟨3, m.procs.map wghP, m.links.map wghL, m.events⟩
/-- One up of a right model. -/
def upR (m : ModelM) : ModelM × Int × Int := if m.ver = 1 then delR m else if m.ver = 2 then (wghM m, 0, 0) else (zeroM, 43, 0)

def UpQ (w : World) (r : ModelM × Int × Int) (e : Ending) (w' : World) : Prop := ∃ x : ModelV, e = .returned (.tuple #[.agg #[.int .i64 x.ver, .slice x.pa x.procs.length x.pc, .slice x.la x.links.length x.lc, .slice x.ea x.events.length x.ec], .agg #[.int .i64 r.2.1, .int .i64 r.2.2]]) ∧ x.m = r.1 ∧ OwnM w.heap.size w' x ∧ Below w.heap.size w w'
theorem up_ret {fn : Func} {p q : Tmp} (h : fn.results = #[.cell p 26, .cell q 31]) {W : World} {B C : Nat} {a b c d u v : Value} {tmps : Array Value} (hx : W.heap[B]? = some (.cells #[a, b, c, d] 26 (0, 0))) (hy : W.heap[C]? = some (.cells #[u, v] 31 (0, 0)))
    (h2 : tmps.getD p undef = .pointer (some ⟨B, 0, none⟩)) (h3 : tmps.getD q undef = .pointer (some ⟨C, 0, none⟩)) : (results fn tmps).run Try.prog W = .ok (.tuple #[.agg #[a, b, c, d], .agg #[u, v]]) W := by
  have h2' : tmps[p]?.getD undef = .pointer (some ⟨B, 0, none⟩) := by simpa using h2
  have h3' : tmps[q]?.getD undef = .pointer (some ⟨C, 0, none⟩) := by simpa using h3
  simp [results, h, h2', h3', asAddr, run_loadVar_row W B 26 26 _ (0, 0) _ hx Try.underlying26 rfl Try.infoMd, run_loadVar_row W C 31 31 _ (0, 0) _ hy Try.underlying31 rfl Try.infoFl]
def noneV : ModelV := ⟨0, [], [], [], none, 0, 0, 0, none, 0, 0, 0, none, 0, 0, 0⟩
theorem own_none (base : Nat) (W : World) : OwnM base W noneV := ⟨⟨.inl rfl, Nat.zero_le _, fun x hx => by simp [noneV] at hx⟩, rfl, fun p hp => by simp [noneV] at hp, ⟨.inl rfl, Nat.zero_le _, fun x hx => by simp [noneV] at hx⟩, rfl, ⟨.inl rfl, Nat.zero_le _, fun x hx => by simp [noneV] at hx⟩, rfl⟩
/-- Is it a type of a model's lists? -/
def listT (t : TypeId) : Bool := t == 36 || t == 57 || t == 60 || t == 80 || t == 99
theorem OwnM.turned {base : Nat} {W W' : World} {x : ModelV} {R : Nat → Prop} (h : OwnM base W x) (hT : Turned R W W') (hn : ∀ b cur t, W.heap[b]? = some (.cells cur t (0, 0)) → listT t = true → ¬ R b) : OwnM base W' x :=
  ⟨h.procs.turned hT (fun _ _ hc => hn _ _ _ hc rfl), h.po, fun p hp => ⟨(h.inner p hp).vars.turned hT (fun _ _ hc => hn _ _ _ hc rfl), (h.inner p hp).vo, (h.inner p hp).steps.turned hT (fun _ _ hc => hn _ _ _ hc rfl), (h.inner p hp).so⟩, h.links.turned hT (fun _ _ hc => hn _ _ _ hc rfl), h.lo, h.events.turned hT (fun _ _ hc => hn _ _ _ hc rfl), h.eo⟩
/-- A box that is no list. -/
theorem OwnM.box {base N : Nat} {W : World} {x : ModelV} {cs : Array Value} {t : TypeId} (h : OwnM base W x) (hN : W.heap[N]? = some (.cells cs t (0, 0))) (ht : listT t = false) (i : Nat) (v : Value) : OwnM base (W.setCell ⟨N, i, none⟩ v) x :=
  h.turned (Turned.one W N i v) (fun b cur t' hc hl e => by
    rw [e, hN] at hc
    cases hc
    rw [ht] at hl
    cases hl)
theorem OwnM.setL {base : Nat} {W : World} {x : ModelV} (h : OwnM base W x) {k : Nat} {l l2 : LinkM} (hk : x.links[k]? = some l) {q : Nat} (hq : q < 5) {v : Value} (h' : ∀ r u, (encL l2)[r]? = some u → (r = q ∧ u = v) ∨ (r ≠ q ∧ (encL l)[r]? = some u)) (hf : fitL l2) : OwnM base (W.setCell ⟨x.lb, k * 5 + q, none⟩ v) { x with links := x.links.set k l2 } := by
  obtain ⟨ha, hb, hr⟩ := h.links.own.resolve_left (fun e => by rw [e] at hk; simp at hk)
  have hT := Turned.one W x.lb (k * 5 + q) v
  refine ⟨h.procs.other hr hT (by decide), h.po, fun p hp => ⟨(h.inner p hp).vars.other hr hT (by decide), (h.inner p hp).vo, (h.inner p hp).steps.other hr hT (by decide), (h.inner p hp).so⟩, ⟨.inr ⟨ha, hb, RowC.set (enc := encL) (fun _ => rfl) hr hk hq h'⟩, by rw [List.length_set]; exact h.links.small, fun y hy => ?_⟩, h.lo, h.events.other hr hT (by decide), h.eo⟩
  rcases List.mem_or_eq_of_mem_set hy with h1 | h1
  · exact h.links.fits y h1
  · rw [h1]
    exact hf
theorem OwnM.setP {base : Nat} {W : World} {x : ModelV} (h : OwnM base W x) {k : Nat} {p : ProcV} (hk : x.procs[k]? = some p) (n : Int) : OwnM base (W.setCell ⟨x.pb, k * 4 + 1, none⟩ (.int .i64 n)) { x with procs := x.procs.set k { p with p := { p.p with weight := n } } } := by
  obtain ⟨ha, hb, hr⟩ := h.procs.own.resolve_left (fun e => by rw [e] at hk; simp at hk)
  have hT := Turned.one W x.pb (k * 4 + 1) (.int .i64 n)
  refine ⟨⟨.inr ⟨ha, hb, RowC.set (enc := encP) (fun _ => rfl) hr hk (by decide) (fun r u hu => ?_)⟩, by rw [List.length_set]; exact h.procs.small, fun y hy => ?_⟩, h.po, fun y hy => ?_, h.links.other hr hT (by decide), h.lo, h.events.other hr hT (by decide), h.eo⟩
  · rcases r with _ | _ | _ | _ | r
    · exact .inr ⟨by decide, hu⟩
    · exact .inl ⟨rfl, by simpa [encP] using hu.symm⟩
    · exact .inr ⟨by decide, hu⟩
    · exact .inr ⟨by decide, hu⟩
    · simp [encP] at hu
  · rcases List.mem_or_eq_of_mem_set hy with h1 | h1
    · exact h.procs.fits y h1
    · rw [h1]
      exact h.procs.fits p (List.mem_of_getElem? hk)
  · have hi : ∀ z ∈ x.procs, OwnP base (W.setCell ⟨x.pb, k * 4 + 1, none⟩ (.int .i64 n)) z := fun z hz => (h.inner z hz).other hr hT
    rcases List.mem_or_eq_of_mem_set hy with h1 | h1
    · exact hi y h1
    · rw [h1]
      have := hi p (List.mem_of_getElem? hk)
      exact ⟨this.vars, this.vo, this.steps, this.so⟩
theorem encL_del (l : LinkM) (n : Int) : ∀ r u, (encL { l with delay := n })[r]? = some u → (r = 3 ∧ u = .int .i64 n) ∨ (r ≠ 3 ∧ (encL l)[r]? = some u) := by
  intro r u hu
  rcases r with _ | _ | _ | _ | _ | r
  · exact .inr ⟨by decide, hu⟩
  · exact .inr ⟨by decide, hu⟩
  · exact .inr ⟨by decide, hu⟩
  · exact .inl ⟨rfl, by simpa [encL] using hu.symm⟩
  · exact .inr ⟨by decide, hu⟩
  · simp [encL] at hu
theorem encL_wgh (l : LinkM) (n : Int) : ∀ r u, (encL { l with weight := n })[r]? = some u → (r = 4 ∧ u = .int .i64 n) ∨ (r ≠ 4 ∧ (encL l)[r]? = some u) := by
  intro r u hu
  rcases r with _ | _ | _ | _ | _ | r
  · exact .inr ⟨by decide, hu⟩
  · exact .inr ⟨by decide, hu⟩
  · exact .inr ⟨by decide, hu⟩
  · exact .inr ⟨by decide, hu⟩
  · exact .inl ⟨rfl, by simpa [encL] using hu.symm⟩
  · simp [encL] at hu
end Go.Proofs.Ytgnlehenbdcgmaa.Md
