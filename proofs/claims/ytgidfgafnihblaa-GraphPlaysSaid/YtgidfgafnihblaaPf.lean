/- The walk of GraphPlays. -/
import Derived.Test.YtgidfgafnihblaaQe
import Derived.Test.YtgidfgafnihblaaPd
import Derived.Test.YtgidfgafnihblaaQf
import Derived.Deep.DeepCutAuto
import Derived.Deep.CutBlock
import Derived.Deep.RegionHeld3
set_option linter.unusedVariables false
set_option linter.unusedSectionVars false
namespace Go.Proofs.Ytgidfgafnihblaa
open Go.RowKit Rk

theorem and_15 (n : Int) : bits .and .i64 n 15 = n % 16 := by
  have h511 : (BitVec.ofInt 64 15).toNat = 2 ^ 4 - 1 := by decide
  have key : (BitVec.ofInt 64 n &&& BitVec.ofInt 64 15).toNat = (n % ((2 ^ 64 : Nat) : Int)).toNat % 2 ^ 4 := by
    rw [BitVec.toNat_and, BitVec.toNat_ofInt, h511, Nat.and_two_pow_sub_one_eq_mod]
  show IntKind.i64.wrap ((BitVec.ofInt 64 n &&& BitVec.ofInt 64 15).toNat : Nat) = n % 16
  rw [key, IntKind.wrap_i64]
  omega
/-- The rows' blocks are no graph's. -/
theorem IsG.rowsOff {w w' : World} {g nb lo : Nat} {ws : List Int} {F F' : Nat → Nat → Int} {X : XD} (h : IsG w g nb ws F) (hx : IsX w X lo ws F') (ht : Turned (RowsR X ws.length) w w') (hw : ∀ wa wc rest ty fr, w.heap[g]? = some (.cells #[.slice (some wa) ws.length wc, rest] ty fr) → ws.length = 0 ∨ wa.block < lo) : IsG w' g nb ws F := by
  obtain ⟨wa, wc, wb, h1, h2⟩ := h.box
  obtain ⟨cs, h3⟩ := h.maps
  have ty : ∀ c, RowsR X ws.length c → ∃ cur, w.heap[c]? = some (.cells cur 2 (0, 0)) := by
    rintro c ⟨a, ha, rfl⟩
    exact ⟨_, (hx.row a ha).2.2⟩
  have off : ∀ c cur t, w.heap[c]? = some (.cells cur t (0, 0)) → t ≠ 2 → ¬ RowsR X ws.length c := fun c cur t hc hne hr => by
    obtain ⟨cur', hc'⟩ := ty c hr
    rw [hc] at hc'; injection hc' with hc'; injection hc' with _ e; exact hne e
  have hnn : ∀ c, RowsR X ws.length c → ∀ o, w.heap[c]? = some o → NotNode o := fun c hr o ho => by
    obtain ⟨cur', hc'⟩ := ty c hr
    rw [ho] at hc'; cases hc'
    intro c f e; injection e with _ e2; exact absurd e2 (by decide)
  refine ⟨⟨wa, wc, wb, ht.old h1 (off _ _ _ h1 (by decide)), h2.turned ht ?_⟩, ⟨cs, ht.old h3 (off _ _ _ h3 (by decide))⟩, fun i hi => (h.map i hi).turned ht (off _ _ _ h3 (by decide)) hnn, h.tab, h.small, h.wts⟩
  by_cases h0 : ws.length = 0
  · exact .inl h0
  · refine .inr ?_
    rintro ⟨a, ha, e⟩
    have hwa := h2.addr.resolve_left h0
    subst hwa
    have := (hw _ _ _ _ _ h1).resolve_left h0
    have := (hx.row a ha).1
    simp only at *
    omega
/-- The graph's maps are none of the table. -/
theorem IsX.mapsOff {w w' : World} {g nb lo : Nat} {ws : List Int} {F F' : Nat → Nat → Int} {X : XD} (hx : IsX w X lo ws F') (h : IsG w g nb ws F) (ht : Turned (fun c => c = nb) w w') : IsX w' X lo ws F' := by
  obtain ⟨cs, h3⟩ := h.maps
  refine hx.spared ht (fun c e => .inr ⟨cs, (0, 0), by rw [e]; exact h3⟩) ?_
  by_cases h0 : ws.length = 0
  · exact .inl h0
  · refine .inr fun c e cs' fr hc => ?_
    obtain ⟨p, t, cs2, h4, h5, _⟩ := h.map 0 (by omega)
    rw [e, h4] at hc
    cases hc
    exact .inr ⟨p, h5⟩
/-- Both graphs, and the box that the table lies in. -/
structure BothR (w : World) (g nb Bx lo : Nat) (X : XD) (zs : List Int) (F : Nat → Nat → Int) (W : World) : Prop where
  one : IsG W g nb zs F
  two : IsX W X lo zs F
  gw : ∀ wa wc rest ty fr, W.heap[g]? = some (.cells #[.slice (some wa) zs.length wc, rest] ty fr) → zs.length = 0 ∨ wa.block < lo
  box : W.heap[Bx]? = some (.cells #[.slice X.wa zs.length X.wc, .slice X.ra zs.length X.rc] 31 (0, 0))
  below : Below w.heap.size w W
theorem BothR.on {w W W' : World} {g nb Bx lo : Nat} {X : XD} {zs : List Int} {F : Nat → Nat → Int} (h : BothR w g nb Bx lo X zs F W) (hb : Below W.heap.size W W') : BothR w g nb Bx lo X zs F W' :=
  ⟨h.one.below hb, h.two.below hb, fun wa wc rest ty fr e => h.gw wa wc rest ty fr (by rw [← hb.block g h.one.lt.1]; exact e), heap_below h.box hb (heap_lt h.box), h.below.trans (hb.mono h.below.size)⟩
theorem BothR.joinG {w W W' : World} {g nb Bx lo : Nat} {X : XD} {zs : List Int} {F F1 : Nat → Nat → Int} (h : BothR w g nb Bx lo X zs F W) (h1 : IsG W' g nb zs F1) (ht : Turned (fun c => c = nb) W W') (hn : w.heap.size ≤ nb) : IsX W' X lo zs F ∧ W'.heap[Bx]? = some (.cells #[.slice X.wa zs.length X.wc, .slice X.ra zs.length X.rc] 31 (0, 0)) ∧ (∀ wa wc rest ty fr, W'.heap[g]? = some (.cells #[.slice (some wa) zs.length wc, rest] ty fr) → zs.length = 0 ∨ wa.block < lo) ∧ Below w.heap.size w W' := by
  obtain ⟨cs, h3⟩ := h.one.maps
  refine ⟨h.two.mapsOff h.one ht, ht.old h.box (fun e => by have := h.box; rw [e, h3] at this; cases this), fun wa wc rest ty fr e => h.gw wa wc rest ty fr (by rw [← ht.block g h.one.lt.1 h.one.g0.apart]; exact e), below_turned h.below ht (fun i hi e => by omega) h.below.size⟩
theorem BothR.joinX {w W W' : World} {g nb Bx lo : Nat} {X : XD} {zs : List Int} {F1 F2 : Nat → Nat → Int} (h1 : IsG W g nb zs F1) (h2 : IsX W X lo zs F2) (hgw : ∀ wa wc rest ty fr, W.heap[g]? = some (.cells #[.slice (some wa) zs.length wc, rest] ty fr) → zs.length = 0 ∨ wa.block < lo)
    (hbx : W.heap[Bx]? = some (.cells #[.slice X.wa zs.length X.wc, .slice X.ra zs.length X.rc] 31 (0, 0))) (hB : Below w.heap.size w W) (hlo : w.heap.size ≤ lo) (h3 : IsX W' X lo zs F1) (ht : Turned (RowsR X zs.length) W W') : BothR w g nb Bx lo X zs F1 W' := by
  have off : ∀ c cur t, W.heap[c]? = some (.cells cur t (0, 0)) → t ≠ 2 → ¬ RowsR X zs.length c := fun c cur t hc hne hr => by
    obtain ⟨a, ha, rfl⟩ := hr
    have hc' := (h2.row a ha).2.2
    rw [hc] at hc'; injection hc' with hc'; injection hc' with _ e; exact hne e
  obtain ⟨wa, wc, wb, hg, _⟩ := h1.box
  refine ⟨h1.rowsOff h2 ht hgw, h3, fun wa wc rest ty fr e => hgw wa wc rest ty fr (by rw [← ht.block g h1.lt.1 (off _ _ _ hg (by decide))]; exact e), ht.old hbx (off _ _ _ hbx (by decide)), below_turned hB ht (fun i hi e => ?_) hB.size⟩
  obtain ⟨a, ha, rfl⟩ := e
  have := (h2.row a ha).1
  omega
/-- Two rows of edges that a loop gathers. -/
structure PlW (W1 : World) (B0 : Nat) (Lw Lm : List Edg) (v m : Value) (bw bm : Option Nat) (W : World) : Prop where
  w : GB W B0 41 3 v Lw.length (its Lw) bw
  m : GB W B0 41 3 m Lm.length (its Lm) bm
  ne : ∀ g, bw = some g → bm ≠ some g
  below : Below B0 W1 W
section
variable {W1 W W' w5 : World} {B0 : Nat} {Lw Lm : List Edg} {v m : Value} {bw bm : Option Nat}
theorem PlW.on (h : PlW W1 B0 Lw Lm v m bw bm W) (hb : Below W.heap.size W W') (hB : B0 ≤ W.heap.size) : PlW W1 B0 Lw Lm v m bw bm W' := ⟨h.w.below hb, h.m.below hb, h.ne, h.below.trans (hb.mono hB)⟩
theorem PlW.mine (h : PlW W1 B0 Lw Lm v m bw bm W) (hB : B0 ≤ W.heap.size) {x : Edg} {g cap : Nat} {row : Option Nat} (h5 : GB w5 B0 41 3 (.slice (some ⟨g, 0, none⟩) (Lm.length + 1) cap) (Lm.length + 1) (its Lm ++ its [x]) (some g)) (hg : W.grownBy w5 row) (hr : row = none ∨ row = bm) (hw : bm = some g ∨ W.heap.size ≤ g) :
    PlW W1 B0 Lw (Lm ++ [x]) v (.slice (some ⟨g, 0, none⟩) (Lm.length + 1) cap) bw (some g) w5 := by
  refine ⟨h.w.kept hg (fun g' e er => ?_), by rw [List.length_append, its_snoc]; exact h5, fun g' e er => ?_, h.below.grown hg hB (fun k e => ?_)⟩
  · rcases hr with hr | hr
    · rw [hr] at er; cases er
    · rw [hr] at er; exact h.ne g' e er
  · cases er
    rcases hw with hw | hw
    · exact h.ne g e hw
    · have := (h.w.lt g e).2.1; omega
  · rcases hr with hr | hr
    · rw [hr] at e; cases e
    · rw [hr] at e; exact (h.m.lt k e).1
theorem PlW.want (h : PlW W1 B0 Lw Lm v m bw bm W) (hB : B0 ≤ W.heap.size) {x : Edg} {g cap : Nat} {row : Option Nat} (h5 : GB w5 B0 41 3 (.slice (some ⟨g, 0, none⟩) (Lw.length + 1) cap) (Lw.length + 1) (its Lw ++ its [x]) (some g)) (hg : W.grownBy w5 row) (hr : row = none ∨ row = bw) (hw : bw = some g ∨ W.heap.size ≤ g) :
    PlW W1 B0 (Lw ++ [x]) Lm (.slice (some ⟨g, 0, none⟩) (Lw.length + 1) cap) m (some g) bm w5 := by
  refine ⟨by rw [List.length_append, its_snoc]; exact h5, h.m.kept hg (fun g' e er => ?_), fun g' e er => ?_, h.below.grown hg hB (fun k e => ?_)⟩
  · rcases hr with hr | hr
    · rw [hr] at er; cases er
    · rw [hr] at er; exact h.ne g' er.symm.symm e
  · cases e
    rcases hw with hw | hw
    · exact h.ne g hw er
    · have := (h.m.lt g er).2.1; omega
  · rcases hr with hr | hr
    · rw [hr] at e; cases e
    · rw [hr] at e; exact (h.w.lt k e).1
end
/-- What stands in the two rows. -/
def wantL (n : Nat) (F : Nat → Nat → Int) (a b : Nat) : List Edg := upTo n F a ++ (rowOf b (above ((a : Int) + 1) (F a))).map (tag a)
def mineL (F : Nat → Nat → Int) (a b : Nat) : List Edg := (rowOf b (F a)).map (from1 (a : Int))
theorem mineL_succ (F : Nat → Nat → Int) (a b : Nat) : mineL F a (b + 1) = mineL F a b ++ if 0 < F a b then [((a : Int), (b : Int), F a b)] else [] := by
  unfold mineL
  rw [rowOf_succ, List.map_append]
  split <;> rfl
theorem wantL_succ (n : Nat) (F : Nat → Nat → Int) (a b : Nat) : wantL n F a (b + 1) = wantL n F a b ++ if 0 < F a b ∧ a < b then [((a : Int), (b : Int), F a b)] else [] := by
  unfold wantL
  rw [rowOf_succ, List.map_append, ← List.append_assoc]
  congr 1
  by_cases h1 : a < b
  · rw [show above ((a : Int) + 1) (F a) b = F a b by unfold above; rw [if_neg (by omega)]]
    by_cases h2 : 0 < F a b
    · rw [if_pos h2, if_pos ⟨h2, h1⟩]; rfl
    · rw [if_neg h2, if_neg (fun e => h2 e.1)]; rfl
  · rw [show above ((a : Int) + 1) (F a) b = 0 by unfold above; rw [if_pos (by omega)]]
    rw [if_neg (by omega), if_neg (fun e => h1 e.2)]; rfl
theorem wantL_end (n : Nat) (F : Nat → Nat → Int) (a : Nat) : wantL n F a n = upTo n F (a + 1) := rfl
theorem mineL_end (n : Nat) (F : Nat → Nat → Int) {a : Nat} (h : a < n) : mineL F a n = nearE n F (a : Int) := by unfold mineL nearE; rw [nearD_nat F h]
theorem mineL_length (F : Nat → Nat → Int) (a b : Nat) : (mineL F a b).length ≤ b := by unfold mineL; rw [List.length_map]; exact rowOf_length _ _
theorem wantL_length (n : Nat) (F : Nat → Nat → Int) (a b : Nat) : (wantL n F a b).length ≤ a * n + b := by
  unfold wantL
  rw [List.length_append, List.length_map]
  have := upTo_length n F a
  have := rowOf_length b (above ((a : Int) + 1) (F a))
  omega
theorem ten30 {a n : Nat} (ha : a ≤ 30) (hn : n ≤ 30) : a * n ≤ 900 := Nat.mul_le_mul ha hn
end Go.Proofs.Ytgidfgafnihblaa
