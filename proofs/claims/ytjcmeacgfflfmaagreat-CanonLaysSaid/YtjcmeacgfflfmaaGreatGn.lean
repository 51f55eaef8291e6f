/- A graph in memory; contracts of what only reads it. -/
import Derived.Test.YtjcmeacgfflfmaaGreatGj
import Derived.Test.YtjcmeacgfflfmaaGreatGm
import Derived.Test.YtjcmeacgfflfmaaGreatLib
set_option linter.unusedVariables false
set_option linter.unusedSectionVars false
namespace Go.Proofs.YtjcmeacgfflfmaaGreat
open Go.RowKit Rk

theorem ret1 {k : IntKind} {a b : Int} (h : a = b) : Ending.returned (.int k a) = .returned (.int k b) := by rw [h]
theorem retb {a b : Bool} (h : a = b) : Ending.returned (.bool a) = .returned (.bool b) := by rw [h]
/-- May a number be a weight? -/
def may (n : Int) : Bool := decide (1 ≤ n ∧ n ≤ 1099511627776)
theorem may_t {n : Int} (h : may n = true) : 1 ≤ n ∧ n ≤ 1099511627776 := of_decide_eq_true h
theorem may_f {n : Int} (h : may n = false) : ¬ (1 ≤ n ∧ n ≤ 1099511627776) := of_decide_eq_false h
theorem may_mk {n : Int} (h1 : 1 ≤ n) (h2 : n ≤ 1099511627776) : may n = true := decide_eq_true ⟨h1, h2⟩
theorem may_nm {n : Int} (h : ¬ (1 ≤ n ∧ n ≤ 1099511627776)) : may n = false := decide_eq_false h
def withinF (n low high : Int) : Bool := decide (low ≤ n ∧ n ≤ high)
theorem within_any (n low high : Int) (w : World) :
    Calls Tryz.prog 56 #[.int .i64 n, .int .i64 low, .int .i64 high] w fun e w' => e = .returned (.bool (withinF n low high)) ∧ w = w' := by
  by_cases h1 : low ≤ n
  · by_cases h2 : n ≤ high
    · have H : Hid (withinF n low high = true) := Lib.hid (decide_eq_true ⟨h1, h2⟩)
      go_enter Tryz.func56, Tryz.ntmps56
      go_wp2
      go_ret
      exact ⟨retb H.out.symm, rfl⟩
    · have H : Hid (withinF n low high = false) := Lib.hid (decide_eq_false (by omega))
      have h3 : decide (n ≤ high) = false := by simpa using h2
      go_enter Tryz.func56, Tryz.ntmps56
      go_wp2
      go_ret
      exact ⟨retb H.out.symm, rfl⟩
  · have H : Hid (withinF n low high = false) := Lib.hid (decide_eq_false (by omega))
    have h3 : decide (low ≤ n) = false := by simpa using h1
    go_enter Tryz.func56, Tryz.ntmps56
    go_wp2
    go_ret
    exact ⟨retb H.out.symm, rfl⟩
theorem right_any (n : Int) (w : World) : Calls Tryz.prog 86 #[.int .i64 n] w fun e w' => e = .returned (.bool (may n)) ∧ w = w' := by
  have H : Hid (withinF n 1 1099511627776 = may n) := Lib.hid rfl
  go_enter Tryz.func86, Tryz.ntmps86
  go_wp2_with (go_at_call 56; refine (within_any _ _ _ _).mono ?_; rintro e w' ⟨rfl, rfl⟩)
  go_ret
  exact ⟨retb H.out, rfl⟩

/-- A graph in block g, its maps in block nb. -/
structure IsG (W : World) (g nb : Nat) (ws : List Int) (F : Nat → Nat → Int) : Prop where
  box : ∃ wa wc wb, W.heap[g]? = some (.cells #[.slice wa ws.length wc, .slice (some ⟨nb, 0, none⟩) ws.length ws.length] 90 (0, 0)) ∧ IntsAt .i64 W.heap.size W wa wb 0 ws.length ws
  maps : ∃ cs, W.heap[nb]? = some (.cells cs 95 (0, 0))
  map : ∀ i, i < ws.length → IsM W nb i (rowOf ws.length (F i))
  tab : Tab ws.length F
  small : ws.length ≤ 4096
  wts : ∀ x ∈ ws, 1 ≤ x ∧ x ≤ 1099511627776
theorem IsG.below {W W' : World} {g nb : Nat} {ws : List Int} {F : Nat → Nat → Int} (h : IsG W g nb ws F) (hb : Below W.heap.size W W') : IsG W' g nb ws F := by
  obtain ⟨wa, wc, wb, h1, h2⟩ := h.box
  obtain ⟨cs, h3⟩ := h.maps
  exact ⟨⟨wa, wc, wb, heap_below h1 hb (heap_lt h1), (h2.kept hb (Nat.le_refl _)).mono hb.size⟩, ⟨cs, heap_below h3 hb (heap_lt h3)⟩, fun i hi => (h.map i hi).below hb, h.tab, h.small, h.wts⟩
theorem IsG.lt {W : World} {g nb : Nat} {ws : List Int} {F : Nat → Nat → Int} (h : IsG W g nb ws F) : g < W.heap.size ∧ nb < W.heap.size := by
  obtain ⟨wa, wc, wb, h1, h2⟩ := h.box
  obtain ⟨cs, h3⟩ := h.maps
  exact ⟨heap_lt h1, heap_lt h3⟩
theorem IsG.calm {W W' : World} {g nb : Nat} {ws : List Int} {F : Nat → Nat → Int} (h : IsG W g nb ws F) (ht : Turned (fun _ => False) W W') : IsG W' g nb ws F := h.below (below_of_turned ht)
/-- Is a thing there? -/
def hasN (n : Nat) (i : Int) : Bool := decide (0 ≤ i ∧ i < (n : Int))
theorem hasN_t {n : Nat} {i : Int} (h : hasN n i = true) : ∃ k : Nat, i = (k : Int) ∧ k < n := by
  have := of_decide_eq_true h
  exact ⟨i.toNat, by omega, by omega⟩
theorem hasN_f {n : Nat} {i : Int} (h : hasN n i = false) : i < 0 ∨ (n : Int) ≤ i := by
  have := of_decide_eq_false h
  omega
theorem hasN_nat {n k : Nat} (h : k < n) : hasN n (k : Int) = true := decide_eq_true ⟨by omega, by omega⟩

section
variable {w : World} {g nb : Nat} {ws : List Int} {F : Nat → Nat → Int}
theorem glen_any (h : IsG w g nb ws F) : Calls Tryz.prog 19 #[.pointer (some ⟨g, 0, none⟩)] w fun e w' => e = .returned (.int .i64 (ws.length : Int)) ∧ w = w' := by
  obtain ⟨wa, wc, wb, h1, h2⟩ := h.box
  have c0 : w.cell? ⟨g, 0, none⟩ = some (.slice wa ws.length wc) := heap_cell h1 rfl
  clear h h1 h2
  go_enter Tryz.func19, Tryz.ntmps19
  go_wp2
  go_ret
  exact ⟨rfl, rfl⟩
theorem has_any (h : IsG w g nb ws F) (i : Int) : Calls Tryz.prog 54 #[.pointer (some ⟨g, 0, none⟩), .int .i64 i] w fun e w' => e = .returned (.bool (hasN ws.length i)) ∧ w = w' := by
  have HL := Lib.hid (glen_any h)
  clear h
  generalize ws.length = n at *
  by_cases h0 : 0 ≤ i
  · have hd : decide (0 ≤ i) = true := by simpa using h0
    have H : Hid (hasN n i = decide (i < (n : Int))) := Lib.hid (by unfold hasN; rw [decide_eq_decide]; omega)
    go_enter Tryz.func54, Tryz.ntmps54
    go_wp2_with (go_at_call 19; refine HL.out.mono ?_; rintro e w' ⟨rfl, rfl⟩)
    go_ret
    exact ⟨retb H.out.symm, rfl⟩
  · have hd : decide (0 ≤ i) = false := by simpa using h0
    have H : Hid (hasN n i = false) := Lib.hid (decide_eq_false (by omega))
    go_enter Tryz.func54, Tryz.ntmps54
    go_wp2_with (go_at_call 19; refine HL.out.mono ?_; rintro e w' ⟨rfl, rfl⟩)
    go_ret
    exact ⟨retb H.out.symm, rfl⟩
/-- A thing's weight. -/
def wtOf (ws : List Int) (i : Int) : Int := if 0 ≤ i ∧ i < (ws.length : Int) then ws.getD i.toNat 0 else 0
theorem weightAt_any (h : IsG w g nb ws F) (i : Int) : Calls Tryz.prog 20 #[.pointer (some ⟨g, 0, none⟩), .int .i64 i] w fun e w' => e = .returned (.int .i64 (wtOf ws i)) ∧ w = w' := by
  have HH := Lib.hid (has_any h i)
  cases hi : hasN ws.length i with
  | false =>
    rw [hi] at HH
    have H : Hid (wtOf ws i = 0) := Lib.hid (by unfold wtOf; rw [if_neg]; exact of_decide_eq_false hi)
    clear h hi
    go_enter Tryz.func20, Tryz.ntmps20
    go_wp2_with (go_at_call 54; refine HH.out.mono ?_; rintro e w' ⟨rfl, rfl⟩)
    go_ret
    exact ⟨ret1 H.out.symm, rfl⟩
  | true =>
    rw [hi] at HH
    obtain ⟨k, rfl, hk⟩ := hasN_t hi
    have H : Hid (wtOf ws (k : Int) = ws.getD k 0) := Lib.hid (by unfold wtOf; rw [if_pos ⟨by omega, by omega⟩]; simp)
    obtain ⟨wa, wc, wb, h1, h2⟩ := h.box
    obtain rfl : wa = some ⟨wb, 0, none⟩ := h2.addr.resolve_left (by omega)
    have c0 : w.cell? ⟨g, 0, none⟩ = some (.slice (some ⟨wb, 0, none⟩) ws.length wc) := heap_cell h1 rfl
    have c1 := h2.cell k hk
    rw [Nat.zero_add] at c1
    have hsm := h.small
    clear h hi h1 h2
    generalize ws.getD k 0 = x at *
    generalize ws.length = n at *
    go_enter Tryz.func20, Tryz.ntmps20
    go_wp2_with (go_at_call 54; refine HH.out.mono ?_; rintro e w' ⟨rfl, rfl⟩)
    go_ret
    exact ⟨ret1 H.out.symm, rfl⟩
theorem between_any (h : IsG w g nb ws F) (a b : Int) : Calls Tryz.prog 22 #[.pointer (some ⟨g, 0, none⟩), .int .i64 a, .int .i64 b] w fun e w' => e = .returned (.int .i64 (btw ws.length F a b)) ∧ Turned (fun _ => False) w w' := by
  have HH := Lib.hid (has_any h a)
  cases hi : hasN ws.length a with
  | false =>
    rw [hi] at HH
    have H : Hid (btw ws.length F a b = 0) := Lib.hid (by have := hasN_f hi; unfold btw; rw [if_neg (by omega)])
    clear h hi
    go_enter Tryz.func22, Tryz.ntmps22
    go_wp2_with (go_at_call 54; refine HH.out.mono ?_; rintro e w' ⟨rfl, rfl⟩)
    go_ret
    exact ⟨ret1 H.out.symm, Turned.refl _ _⟩
  | true =>
    rw [hi] at HH
    obtain ⟨k, rfl, hk⟩ := hasN_t hi
    have HG := Lib.hid (mget_any b (h.map k hk))
    have H : Hid (getV b (rowOf ws.length (F k)) = btw ws.length F (k : Int) b) := Lib.hid (by
      unfold getV btw
      rw [getD_rowOf _ _ _ (h.tab.lo k)]
      by_cases hb : 0 ≤ b ∧ b < (ws.length : Int)
      · rw [if_pos hb, if_pos ⟨by omega, by omega, hb⟩]; simp
      · rw [if_neg hb, if_neg (by omega)])
    rw [H.out] at HG
    obtain ⟨wa, wc, wb, h1, h2⟩ := h.box
    have c0 : w.cell? ⟨g, 1, none⟩ = some (.slice (some ⟨nb, 0, none⟩) ws.length ws.length) := heap_cell h1 rfl
    have hsm := h.small
    generalize btw ws.length F (k : Int) b = x at *
    clear h hi h1 h2 H
    generalize ws.length = n at *
    go_enter Tryz.func22, Tryz.ntmps22
    go_wp2_with (go_at_call 54; refine HH.out.mono ?_; rintro e w' ⟨rfl, rfl⟩)
    refine HG.out.mono ?_
    rintro e w1 ⟨rfl, t1⟩
    have T1 := Lib.hid t1
    clear t1
    go_wp2
    go_ret
    exact ⟨rfl, T1.out⟩
end
end Go.Proofs.YtjcmeacgfflfmaaGreat
