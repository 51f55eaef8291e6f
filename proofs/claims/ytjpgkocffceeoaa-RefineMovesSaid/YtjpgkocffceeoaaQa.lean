/- The reference's graph in memory; contracts of what reads it, and of its Join. -/
import Derived.Test.YtjpgkocffceeoaaGr
import Derived.Test.YtjpgkocffceeoaaPb0
set_option linter.unusedVariables false
set_option linter.unusedSectionVars false
namespace Go.Proofs.Ytjpgkocffceeoaa
open Go.RowKit Rk

/-- A row of a table in memory. -/
def rowC (n : Nat) (f : Nat → Int) : Array Value := ((List.range n).map (fun b => Value.int .i64 (f b))).toArray
theorem rowC_at {n : Nat} (f : Nat → Int) {b : Nat} (h : b < n) : (rowC n f)[b]? = some (.int .i64 (f b)) := by simp [rowC, h]
theorem rowC_set {n : Nat} (f : Nat → Int) {b : Nat} (h : b < n) (v : Int) : (rowC n f).setIfInBounds b (.int .i64 v) = rowC n (upd f b v) := by
  apply Array.ext
  · simp [rowC]
  · intro i h1 h2
    simp [rowC] at h1
    by_cases e : b = i
    · subst e; simp [rowC, upd]
    · simp [rowC, upd, e, Ne.symm e]
/-- Where the reference's graph lies. -/
structure XD where
  wa : Option Addr
  wc : Nat
  wb : Nat
  ra : Option Addr
  rc : Nat
  rb : Nat
  rows : Nat → Nat
def XD.val (X : XD) (n : Nat) : Value := .agg #[.slice X.wa n X.wc, .slice X.ra n X.rc]
structure IsX (W : World) (X : XD) (lo : Nat) (ws : List Int) (F : Nat → Nat → Int) : Prop where
  ints : IntsAt .i64 W.heap.size W X.wa X.wb 0 ws.length ws
  wlo : ws.length = 0 ∨ lo ≤ X.wb
  rbl : ws.length = 0 ∨ (X.ra = some ⟨X.rb, 0, none⟩ ∧ lo ≤ X.rb ∧ ∃ cs, W.heap[X.rb]? = some (.cells cs 22 (0, 0)) ∧ ∀ a, a < ws.length → cs[a]? = some (.slice (some ⟨X.rows a, 0, none⟩) ws.length ws.length))
  row : ∀ a, a < ws.length → lo ≤ X.rows a ∧ X.rows a ≠ X.wb ∧ W.heap[X.rows a]? = some (.cells (rowC ws.length (F a)) 2 (0, 0))
  inj : ∀ a b, a < ws.length → b < ws.length → X.rows a = X.rows b → a = b
  tab : Tab ws.length F
  small : ws.length ≤ 4096
section
variable {W W' : World} {X : XD} {lo : Nat} {ws : List Int} {F : Nat → Nat → Int}
theorem IsX.below (h : IsX W X lo ws F) (hb : Below W.heap.size W W') : IsX W' X lo ws F :=
  ⟨(h.ints.kept hb (Nat.le_refl _)).mono hb.size, h.wlo, h.rbl.imp id (fun ⟨h1, h2, cs, h3, h4⟩ => ⟨h1, h2, cs, heap_below h3 hb (heap_lt h3), h4⟩), fun a ha => ⟨(h.row a ha).1, (h.row a ha).2.1, heap_below (h.row a ha).2.2 hb (heap_lt (h.row a ha).2.2)⟩, h.inj, h.tab, h.small⟩
/-- What turns no block of slices or numbers from lo on leaves it. -/
theorem IsX.spared {R : Nat → Prop} (h : IsX W X lo ws F) (ht : Turned R W W') (hR : ∀ c, R c → c < lo ∨ ∃ cs fr, W.heap[c]? = some (.cells cs 100 fr)) (hm : ws.length = 0 ∨ ∀ c, R c → ∀ cs fr, W.heap[c]? = some (.cells cs 100 fr) → cs[0]? = none ∨ ∃ p, cs[0]? = some (.pointer p)) : IsX W' X lo ws F := by
  have k1 : ∀ c cs, W.heap[c]? = some (.cells cs 22 (0, 0)) → lo ≤ c → ¬ R c := fun c cs h3 hl hc => by
    rcases hR _ hc with h5 | ⟨cs', fr, h5⟩
    · omega
    · rw [h3] at h5; cases h5
  have k2 : ∀ c cs, W.heap[c]? = some (.cells cs 2 (0, 0)) → lo ≤ c → ¬ R c := fun c cs h3 hl hc => by
    rcases hR _ hc with h5 | ⟨cs', fr, h5⟩
    · omega
    · rw [h3] at h5; cases h5
  have k3 : ws.length = 0 ∨ ¬ R X.wb := by
    by_cases h0 : ws.length = 0
    · exact .inl h0
    · refine .inr fun hc => ?_
      rcases hR _ hc with h1 | ⟨cs, fr, h1⟩
      · have := h.wlo; omega
      · have c1 := h.ints.cell 0 (by omega)
        rcases hm.resolve_left h0 _ hc cs fr h1 with h2 | ⟨p, h2⟩
        · unfold World.cell? at c1
          simp [h1] at c1
          rw [h2] at c1
          simp at c1
        · have c2 : W.cell? ⟨X.wb, 0 + 0, none⟩ = some (.pointer p) := heap_cell h1 h2
          rw [c1] at c2; cases c2
  exact ⟨h.ints.turned ht k3, h.wlo, h.rbl.imp id (fun ⟨h1, h2, cs, h3, h4⟩ => ⟨h1, h2, cs, ht.old h3 (k1 _ _ h3 h2), h4⟩), fun a ha => ⟨(h.row a ha).1, (h.row a ha).2.1, ht.old (h.row a ha).2.2 (k2 _ _ (h.row a ha).2.2 (h.row a ha).1)⟩, h.inj, h.tab, h.small⟩
theorem xmay_any (n : Int) (w : World) : Calls Try.prog 60 #[.int .i64 n] w fun e w' => e = .returned (.bool (may n)) ∧ w = w' := by
  by_cases h1 : 1 ≤ n
  · have d1 : decide (1 ≤ n) = true := by simpa using h1
    by_cases h2 : n ≤ 1099511627776
    · have d2 : decide (n ≤ 1099511627776) = true := by simpa using h2
      have H := Lib.hid (may_mk h1 h2)
      go_enter Try.func60, Try.ntmps60
      go_wp2
      go_ret
      exact ⟨retb H.out.symm, rfl⟩
    · have d2 : decide (n ≤ 1099511627776) = false := by simpa using h2
      have H : Hid (may n = false) := Lib.hid (may_nm (by omega))
      go_enter Try.func60, Try.ntmps60
      go_wp2
      go_ret
      exact ⟨retb H.out.symm, rfl⟩
  · have d1 : decide (1 ≤ n) = false := by simpa using h1
    have H : Hid (may n = false) := Lib.hid (may_nm (by omega))
    go_enter Try.func60, Try.ntmps60
    go_wp2
    go_ret
    exact ⟨retb H.out.symm, rfl⟩
theorem xthere_any (X : XD) (n : Nat) (i : Int) (w : World) : Calls Try.prog 61 #[X.val n, .int .i64 i] w fun e w' => e = .returned (.bool (hasN n i)) ∧ Below w.heap.size w w' := by
  unfold XD.val
  have hb : Below w.heap.size w (w.alloc (.cells #[.slice X.wa n X.wc, .slice X.ra n X.rc] 29)) := (Below.refl _ _).alloc (Nat.le_refl _) _
  have HB := Lib.hid hb
  clear hb
  by_cases h0 : 0 ≤ i
  · have hd : decide (0 ≤ i) = true := by simpa using h0
    have H : Hid (hasN n i = decide (i < (n : Int))) := Lib.hid (by unfold hasN; rw [decide_eq_decide]; omega)
    go_enter Try.func61, Try.ntmps61
    go_wp2
    go_ret
    exact ⟨retb H.out.symm, HB.out⟩
  · have hd : decide (0 ≤ i) = false := by simpa using h0
    have H : Hid (hasN n i = false) := Lib.hid (decide_eq_false (by omega))
    go_enter Try.func61, Try.ntmps61
    go_wp2
    go_ret
    exact ⟨retb H.out.symm, HB.out⟩

/-- A row of the table as a walk reads it. -/
theorem IsX.at_ (h : IsX W X lo ws F) {a : Nat} (ha : a < ws.length) : X.ra = some ⟨X.rb, 0, none⟩ ∧ W.cell? ⟨X.rb, a, none⟩ = some (.slice (some ⟨X.rows a, 0, none⟩) ws.length ws.length) ∧ ∀ b, b < ws.length → W.cell? ⟨X.rows a, b, none⟩ = some (.int .i64 (F a b)) := by
  obtain ⟨h1, _, cs, h3, h4⟩ := h.rbl.resolve_left (by omega)
  exact ⟨h1, heap_cell h3 (h4 a ha), fun b hb => heap_cell (h.row a ha).2.2 (rowC_at _ hb)⟩
end
end Go.Proofs.Ytjpgkocffceeoaa
