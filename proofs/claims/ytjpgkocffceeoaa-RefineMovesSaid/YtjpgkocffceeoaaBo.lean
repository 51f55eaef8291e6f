/- Two graphs side by side; contracts with their answers given; a list of joins. -/
import Derived.Test.YtjpgkocffceeoaaQd
import Derived.Deep.Slices
import Derived.Deep.Fields
import Derived.ChangeSame
import Derived.Deep.RegionHeld3
set_option linter.unusedVariables false
set_option linter.unusedSectionVars false
namespace Go.Proofs.Ytjpgkocffceeoaa
open Go.RowKit Rk

theorem ints_two (w : World) (a b : Int) (ha : (Lit.int .i64 a).wf = true) (hb : (Lit.int .i64 b).wf = true) (t : TypeId) : IntsAt .i64 (w.alloc (.cells #[.int .i64 a, .int .i64 b] t)).heap.size (w.alloc (.cells #[.int .i64 a, .int .i64 b] t)) (some ⟨w.heap.size, 0, none⟩) w.heap.size 0 2 [a, b] :=
  ⟨.inr rfl, rfl, by decide, .inr (by simp), fun i hi => by
    match i, hi with
    | 0, _ => exact heap_cell (heap_new _ rfl) rfl
    | 1, _ => exact heap_cell (heap_new _ rfl) rfl, fun n hn => by simp at hn; rcases hn with rfl | rfl <;> assumption⟩
theorem ints_one (w : World) (a : Int) (ha : (Lit.int .i64 a).wf = true) (t : TypeId) : IntsAt .i64 (w.alloc (.cells #[.int .i64 a] t)).heap.size (w.alloc (.cells #[.int .i64 a] t)) (some ⟨w.heap.size, 0, none⟩) w.heap.size 0 1 [a] :=
  ⟨.inr rfl, rfl, by decide, .inr (by simp), fun i hi => by
    match i, hi with
    | 0, _ => exact heap_cell (heap_new _ rfl) rfl, fun n hn => by simp at hn; subst hn; assumption⟩
theorem below_turned {R : Nat → Prop} {n₀ : Nat} {w A B : World} (h : Below n₀ w A) (ht : Turned R A B) (hR : ∀ i, i < n₀ → R i → False) (hn : n₀ ≤ A.heap.size) : Below n₀ w B :=
  h.trans ⟨ht.os, ht.tape, ht.output, ht.size, fun k hk => ht.block k (by omega) (fun e => hR k hk e)⟩
theorem join_lit {w : World} {g nb n : Nat} {ws : List Int} {F F' : Nat → Nat → Int} {v : Int} (h : IsG w g nb ws F) (hl : ws.length = n) (a b x : Int) (hv : joinE n F a b x = v) (hF : joinF n F a b x = F') :
    Calls Try.prog 33 #[.pointer (some ⟨g, 0, none⟩), .int .i64 a, .int .i64 b, .int .i64 x] w fun e w' => e = .returned (.int .i64 v) ∧ IsG w' g nb ws F' ∧ Turned (fun c => c = nb) w w' := by
  subst hl hv hF
  exact join_any h a b x
theorem between_lit {w : World} {g nb n : Nat} {ws : List Int} {F : Nat → Nat → Int} {v : Int} (h : IsG w g nb ws F) (hl : ws.length = n) (a b : Int) (hv : btw n F a b = v) :
    Calls Try.prog 58 #[.pointer (some ⟨g, 0, none⟩), .int .i64 a, .int .i64 b] w fun e w' => e = .returned (.int .i64 v) ∧ Turned (fun _ => False) w w' := by
  subst hl hv
  exact between_any h a b
theorem total_lit {w : World} {g nb : Nat} {ws : List Int} {F : Nat → Nat → Int} {v : Int} (h : IsG w g nb ws F) (hv : ws.sum = v) :
    Calls Try.prog 45 #[.pointer (some ⟨g, 0, none⟩)] w fun e w' => e = .returned (.int .i64 v) ∧ w = w' := by
  subst hv
  exact total_any h
theorem weight_lit {w : World} {g nb : Nat} {ws : List Int} {F : Nat → Nat → Int} {v : Int} (h : IsG w g nb ws F) (i : Int) (hv : wtOf ws i = v) :
    Calls Try.prog 43 #[.pointer (some ⟨g, 0, none⟩), .int .i64 i] w fun e w' => e = .returned (.int .i64 v) ∧ w = w' := by
  subst hv
  exact weightAt_any h i
theorem len_lit {w : World} {g nb : Nat} {ws : List Int} {F : Nat → Nat → Int} {v : Int} (h : IsG w g nb ws F) (hv : (ws.length : Int) = v) :
    Calls Try.prog 38 #[.pointer (some ⟨g, 0, none⟩)] w fun e w' => e = .returned (.int .i64 v) ∧ w = w' := by
  subst hv
  exact glen_any h
/-- The rows' blocks are no graph's. -/
theorem IsG.rowsOff {w w' : World} {g nb lo : Nat} {ws : List Int} {F F' : Nat → Nat → Int} {X : XD} (h : IsG w g nb ws F) (hx : IsX w X lo ws F') (ht : Turned (RowsR X ws.length) w w') (hw : ∀ wa wc rest ty fr, w.heap[g]? = some (.cells #[.slice (some wa) ws.length wc, rest] ty fr) → ws.length = 0 ∨ wa.block < lo) : IsG w' g nb ws F := by
  obtain ⟨wa, wc, wb, h1, h2⟩ := h.box
  obtain ⟨cs, h3⟩ := h.maps
  have ty : ∀ c, RowsR X ws.length c → ∃ cur, w.heap[c]? = some (.cells cur 2 (0, 0)) := by
    rintro c ⟨a, ha, rfl⟩
    exact ⟨_, (hx.row a ha).2.2⟩
  have off : ∀ c cur t, w.heap[c]? = some (.cells cur t (0, 0)) → t ≠ 2 → ¬ RowsR X ws.length c := fun c cur t hc hne hr => by
    obtain ⟨cur', hc'⟩ := ty c hr
    rw [hc] at hc'; injection hc' with hc'; injection hc' with _ e; exact hne e
  have hnn : ∀ c, RowsR X ws.length c → ∀ o, w.heap[c]? = some o → NotNode o := fun c hr o ho => by
    obtain ⟨cur', hc'⟩ := ty c hr
    rw [ho] at hc'; cases hc'
    intro c f e; injection e with _ e2; exact absurd e2 (by decide)
  refine ⟨⟨wa, wc, wb, ht.old h1 (off _ _ _ h1 (by decide)), h2.turned ht ?_⟩, ⟨cs, ht.old h3 (off _ _ _ h3 (by decide))⟩, fun i hi => (h.map i hi).turned ht (off _ _ _ h3 (by decide)) hnn, h.tab, h.small, h.wts⟩
  by_cases h0 : ws.length = 0
  · exact .inl h0
  · refine .inr ?_
    rintro ⟨a, ha, e⟩
    have hwa := h2.addr.resolve_left h0
    subst hwa
    have := (hw _ _ _ _ _ h1).resolve_left h0
    have := (hx.row a ha).1
    simp only at *
    omega
/-- The graph's maps are none of the table. -/
theorem IsX.mapsOff {w w' : World} {g nb lo : Nat} {ws : List Int} {F F' : Nat → Nat → Int} {X : XD} (hx : IsX w X lo ws F') (h : IsG w g nb ws F) (ht : Turned (fun c => c = nb) w w') : IsX w' X lo ws F' := by
  obtain ⟨cs, h3⟩ := h.maps
  refine hx.spared ht (fun c e => .inr ⟨cs, (0, 0), by rw [e]; exact h3⟩) ?_
  by_cases h0 : ws.length = 0
  · exact .inl h0
  · refine .inr fun c e cs' fr hc => ?_
    obtain ⟨p, t, cs2, h4, h5, _⟩ := h.map 0 (by omega)
    rw [e, h4] at hc
    cases hc
    exact .inr ⟨p, h5⟩
/-- Both graphs, and the box that the table lies in. -/
structure BothR (w : World) (g nb Bx lo : Nat) (X : XD) (zs : List Int) (F : Nat → Nat → Int) (W : World) : Prop where
  one : IsG W g nb zs F
  two : IsX W X lo zs F
  gw : ∀ wa wc rest ty fr, W.heap[g]? = some (.cells #[.slice (some wa) zs.length wc, rest] ty fr) → zs.length = 0 ∨ wa.block < lo
  box : W.heap[Bx]? = some (.cells #[.slice X.wa zs.length X.wc, .slice X.ra zs.length X.rc] 29 (0, 0))
  below : Below w.heap.size w W
theorem BothR.on {w W W' : World} {g nb Bx lo : Nat} {X : XD} {zs : List Int} {F : Nat → Nat → Int} (h : BothR w g nb Bx lo X zs F W) (hb : Below W.heap.size W W') : BothR w g nb Bx lo X zs F W' :=
  ⟨h.one.below hb, h.two.below hb, fun wa wc rest ty fr e => h.gw wa wc rest ty fr (by rw [← hb.block g h.one.lt.1]; exact e), heap_below h.box hb (heap_lt h.box), h.below.trans (hb.mono h.below.size)⟩
theorem BothR.joinG {w W W' : World} {g nb Bx lo : Nat} {X : XD} {zs : List Int} {F F1 : Nat → Nat → Int} (h : BothR w g nb Bx lo X zs F W) (h1 : IsG W' g nb zs F1) (ht : Turned (fun c => c = nb) W W') (hn : w.heap.size ≤ nb) : IsX W' X lo zs F ∧ W'.heap[Bx]? = some (.cells #[.slice X.wa zs.length X.wc, .slice X.ra zs.length X.rc] 29 (0, 0)) ∧ (∀ wa wc rest ty fr, W'.heap[g]? = some (.cells #[.slice (some wa) zs.length wc, rest] ty fr) → zs.length = 0 ∨ wa.block < lo) ∧ Below w.heap.size w W' := by
  obtain ⟨cs, h3⟩ := h.one.maps
  refine ⟨h.two.mapsOff h.one ht, ht.old h.box (fun e => by have := h.box; rw [e, h3] at this; cases this), fun wa wc rest ty fr e => h.gw wa wc rest ty fr (by rw [← ht.block g h.one.lt.1 h.one.g0.apart]; exact e), below_turned h.below ht (fun i hi e => by omega) h.below.size⟩
theorem BothR.joinX {w W W' : World} {g nb Bx lo : Nat} {X : XD} {zs : List Int} {F1 F2 : Nat → Nat → Int} (h1 : IsG W g nb zs F1) (h2 : IsX W X lo zs F2) (hgw : ∀ wa wc rest ty fr, W.heap[g]? = some (.cells #[.slice (some wa) zs.length wc, rest] ty fr) → zs.length = 0 ∨ wa.block < lo)
    (hbx : W.heap[Bx]? = some (.cells #[.slice X.wa zs.length X.wc, .slice X.ra zs.length X.rc] 29 (0, 0))) (hB : Below w.heap.size w W) (hlo : w.heap.size ≤ lo) (h3 : IsX W' X lo zs F1) (ht : Turned (RowsR X zs.length) W W') : BothR w g nb Bx lo X zs F1 W' := by
  have off : ∀ c cur t, W.heap[c]? = some (.cells cur t (0, 0)) → t ≠ 2 → ¬ RowsR X zs.length c := fun c cur t hc hne hr => by
    obtain ⟨a, ha, rfl⟩ := hr
    have hc' := (h2.row a ha).2.2
    rw [hc] at hc'; injection hc' with hc'; injection hc' with _ e; exact hne e
  obtain ⟨wa, wc, wb, hg, _⟩ := h1.box
  refine ⟨h1.rowsOff h2 ht hgw, h3, fun wa wc rest ty fr e => hgw wa wc rest ty fr (by rw [← ht.block g h1.lt.1 (off _ _ _ hg (by decide))]; exact e), ht.old hbx (off _ _ _ hbx (by decide)), below_turned hB ht (fun i hi e => ?_) hB.size⟩
  obtain ⟨a, ha, rfl⟩ := e
  have := (h2.row a ha).1
  omega
structure RopV where
  kind : Int
  key : Int
  n : Int
def RopV.ok (o : RopV) : Prop := (-9223372036854775808 ≤ o.kind ∧ o.kind ≤ 9223372036854775807) ∧ (-9223372036854775808 ≤ o.key ∧ o.key ≤ 9223372036854775807) ∧ (-9223372036854775808 ≤ o.n ∧ o.n ≤ 9223372036854775807)
def RopCells (w : World) (b off : Nat) (o : RopV) : Prop :=
  w.cell? ⟨b, off, none⟩ = some (.int .i64 o.kind) ∧ w.cell? ⟨b, off + 1, none⟩ = some (.int .i64 o.key) ∧ w.cell? ⟨b, off + 2, none⟩ = some (.int .i64 o.n)
structure RopsAt (B : Nat) (w : World) (a : Option Addr) (b off len : Nat) (ops : List RopV) : Prop where
  addr : len = 0 ∨ a = some ⟨b, off, none⟩
  length : ops.length = len
  small : len ≤ maxLen
  below : len = 0 ∨ b < B
  cell : ∀ i o, ops[i]? = some o → RopCells w b (off + i * 3) o
  ok : ∀ o ∈ ops, o.ok
theorem RopsAt.kept {B B' : Nat} {w w' : World} {a : Option Addr} {b off len : Nat} {ops : List RopV} (h : RopsAt B w a b off len ops) (hb : Below B' w w') (hB : B ≤ B') : RopsAt B w' a b off len ops := by
  refine ⟨h.addr, h.length, h.small, h.below, fun i o hi => ?_, h.ok⟩
  obtain ⟨h1, h2, h3⟩ := h.cell i o hi
  have hlt : b < B' := by
    have hb1 := h.below
    have : i < ops.length := (List.getElem?_eq_some_iff.1 hi).1
    have hl := h.length
    omega
  exact ⟨(hb.cell (p := ⟨b, _, none⟩) hlt).trans h1, (hb.cell (p := ⟨b, _, none⟩) hlt).trans h2, (hb.cell (p := ⟨b, _, none⟩) hlt).trans h3⟩
theorem RopsAt.mono {B B' : Nat} {w : World} {a : Option Addr} {b off len : Nat} {ops : List RopV} (h : RopsAt B w a b off len ops) (hB : B ≤ B') : RopsAt B' w a b off len ops :=
  ⟨h.addr, h.length, h.small, h.below.imp id (fun g => Nat.lt_of_lt_of_le g hB), h.cell, h.ok⟩
theorem RopsAt.now {w w' : World} {a : Option Addr} {b off len : Nat} {ops : List RopV} (h : RopsAt w.heap.size w a b off len ops) (hb : Below w.heap.size w w') : RopsAt w'.heap.size w' a b off len ops := (h.kept hb (Nat.le_refl _)).mono hb.size
/-- What a walk is told of a list of fields that came in. -/
def IsRops (w : World) (a : Option Addr) (len cap : Nat) (ops : List RopV) : Prop := len ≤ cap ∧ ∃ b off, RopsAt w.heap.size w a b off len ops
/-- A block that holds a table of the document's is no graph's. -/
theorem IsG.boxOff {w w' : World} {g nb rb : Nat} {ws : List Int} {F : Nat → Nat → Int} {v1 v2 : Value} {ty : TypeId} {fr : Nat × Nat} (h : IsG w g nb ws F) (hb : w.heap[rb]? = some (.cells #[v1, v2] ty fr)) (hty : ty = 29) (hv : ∀ k n, v1 ≠ .int k n) (ht : Turned (fun c => c = rb) w w') : IsG w' g nb ws F := by
  subst hty
  obtain ⟨wa, wc, wb, h1, h2⟩ := h.box
  obtain ⟨cs, h3⟩ := h.maps
  have hnn : ∀ c, c = rb → ∀ o, w.heap[c]? = some o → NotNode o := fun c e o ho => by
    subst e; rw [hb] at ho; cases ho
    intro c f e; injection e with _ e2; exact absurd e2 (by decide)
  have hg : ¬ g = rb := fun e => by subst e; rw [hb] at h1; injection h1 with h1; injection h1 with _ e2; exact absurd e2 (by decide)
  have hn : ¬ nb = rb := fun e => by subst e; rw [hb] at h3; injection h3 with h3; injection h3 with _ e2; exact absurd e2 (by decide)
  refine ⟨⟨wa, wc, wb, ht.old h1 hg, h2.turned ht ?_⟩, ⟨cs, ht.old h3 hn⟩, fun i hi => (h.map i hi).turned ht hn hnn, h.tab, h.small, h.wts⟩
  by_cases h0 : ws.length = 0
  · exact .inl h0
  · refine .inr fun e => ?_
    subst e
    have c1 := h2.cell 0 (by omega)
    rw [heap_cell hb (i := 0) rfl] at c1
    cases c1
    exact hv _ _ rfl
theorem BothR.boxOff {w W W' : World} {g nb Bx lo rb : Nat} {X : XD} {zs : List Int} {F : Nat → Nat → Int} {a b : Option Addr} {l c m d : Nat} (h : BothR w g nb Bx lo X zs F W) (hb : W.heap[rb]? = some (.cells #[.slice a l c, .slice b m d] 29 (0, 0))) (ht : Turned (fun c => c = rb) W W') (h1 : rb < lo) (h2 : rb ≠ Bx) (h3 : rb ≠ nb) (h4 : w.heap.size ≤ rb) : BothR w g nb Bx lo X zs F W' := by
  obtain ⟨wa, wc, wb, hg, _⟩ := h.one.box
  have hgr : ¬ g = rb := fun e => by subst e; rw [hb] at hg; injection hg with hg; injection hg with _ e2; exact absurd e2 (by decide)
  exact ⟨h.one.boxOff hb rfl (fun k n e => by cases e) ht, h.two.spared ht (fun c e => .inl (by omega)) (.inr fun c e cs' fr hc => by rw [e, hb] at hc; injection hc with hc; injection hc with _ e2; exact absurd e2 (by decide)),
    fun wa wc rest ty fr e => h.gw wa wc rest ty fr (by rw [← ht.block g h.one.lt.1 hgr]; exact e), ht.old h.box (fun e => h2 e.symm), below_turned h.below ht (fun i hi e => by omega) h.below.size⟩
/-- The table behind a list of joins. -/
def joins (n : Nat) (F : Nat → Nat → Int) : List RopV → Nat → Nat → Int
  | [] => F
  | o :: l => joins n (joinF n F o.kind o.key o.n) l
theorem joins_append (n : Nat) (F : Nat → Nat → Int) (l m : List RopV) : joins n F (l ++ m) = joins n (joins n F l) m := by
  induction l generalizing F with
  | nil => rfl
  | cons o l ih => exact ih _
theorem joins_take {n : Nat} {F : Nat → Nat → Int} {l : List RopV} {k : Nat} {o : RopV} (h : l[k]? = some o) : joins n F (l.take (k + 1)) = joinF n (joins n F (l.take k)) o.kind o.key o.n := by
  obtain ⟨hk, he⟩ := List.getElem?_eq_some_iff.1 h
  rw [List.take_succ_eq_append_getElem hk, joins_append, he]; rfl
end Go.Proofs.Ytjpgkocffceeoaa
