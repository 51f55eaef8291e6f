/- Trees of nodes in memory. -/
import Derived.Test.YtpoillgnkmpknaaProg
import Derived.Test.YtpoillgnkmpknaaRg
import Derived.Test.YtpoillgnkmpknaaTp
import Derived.Sort.Walk0
import Derived.Laws.Cover1
import Derived.Laws.StructEq
import Derived.WideShapes
import Derived.Deep.QuietTactic
import Derived.BigQuiet
import Derived.StillTailTactics
import Derived.Deep.RegionHeld3
import Derived.Deep.RegionWith
import Derived.Deep.LoopGhost
set_option linter.unusedVariables false
set_option linter.unusedSectionVars false
namespace Go.Proofs.Ytpoillgnkmpknaa.Ss
open Go.RowKit Go.WideShapes Rk

theorem sret {k : IntKind} {a b : Int} (h : a = b) : Ending.returned (.int k a) = .returned (.int k b) := by rw [h]
/-- Texts, byte by byte. -/
def ltS (a b : ByteArray) : Bool := Op.bytesLess a.toList b.toList
theorem ltS_eq (a b : ByteArray) : ltS a b = decide (a.toList < b.toList) := bytesLess_eq _ _
theorem linS : Lin ltS := ⟨fun a => by rw [ltS_eq]; simp [List.lt_irrefl], fun a b c h k => by
  rw [ltS_eq, decide_eq_true_eq] at *; exact List.lt_trans h k, fun a b h k => by
  rw [ltS_eq, decide_eq_false_iff_not] at h k
  have e := List.le_antisymm (List.not_lt.1 k) (List.not_lt.1 h)
  rw [ByteArray.toList_eq, ByteArray.toList_eq] at e; exact bytes_inj e⟩
def cmpS (a b : ByteArray) : Int := if ltS a b = true then -1 else if ltS b a = true then 1 else 0
theorem nan_any (a : ByteArray) (w : World) : Calls Try.prog 43 #[.string a] w fun e w' => e = .returned (.bool false) ∧ w = w' := by
  go_enter Try.func43, Try.ntmps43
  go_wp2
  go_ret
  exact ⟨by simp, rfl⟩
theorem cmp_any (a b : ByteArray) (w : World) : Calls Try.prog 34 #[.string a, .string b] w fun e w' => e = .returned (.int .i64 (cmpS a b)) ∧ w = w' := by
  cases h1 : Op.bytesLess a.toList b.toList with
  | true =>
    have HC : Hid (cmpS a b = -1) := Lib.hid (by unfold cmpS ltS; rw [if_pos h1])
    go_enter Try.func34, Try.ntmps34
    go_wp2_with (go_at_call 43; refine (nan_any _ _).mono ?_; rintro e w' ⟨rfl, rfl⟩)
    go_ret
    exact ⟨sret HC.out.symm, rfl⟩
  | false =>
    have h3 := (ltS_eq b a)
    unfold ltS at h3
    cases h2 : Op.bytesLess b.toList a.toList with
    | true =>
      have HC : Hid (cmpS a b = 1) := Lib.hid (by unfold cmpS ltS; rw [if_neg (by rw [h1]; simp), if_pos h2])
      have hne : (a.toList == b.toList) = false := by
        have : a.toList ≠ b.toList := fun e => by rw [h2, e] at h3; simp [List.lt_irrefl] at h3
        simpa using this
      go_enter Try.func34, Try.ntmps34
      go_wp2_with (go_at_call 43; refine (nan_any _ _).mono ?_; rintro e w' ⟨rfl, rfl⟩)
      go_ret
      exact ⟨sret HC.out.symm, rfl⟩
    | false =>
      have HC : Hid (cmpS a b = 0) := Lib.hid (by unfold cmpS ltS; rw [if_neg (by rw [h1]; simp), if_neg (by rw [h2]; simp)])
      have hne : (a.toList == b.toList) = true := by
        have h4 := ltS_eq a b
        unfold ltS at h4
        rw [h1] at h4; rw [h2] at h3
        have e1 := of_decide_eq_false h4.symm
        have e2 := of_decide_eq_false h3.symm
        have := List.le_antisymm (List.not_lt.1 e2) (List.not_lt.1 e1)
        simpa using this
      go_enter Try.func34, Try.ntmps34
      go_wp2_with (go_at_call 43; refine (nan_any _ _).mono ?_; rintro e w' ⟨rfl, rfl⟩)
      go_ret
      exact ⟨sret HC.out.symm, rfl⟩
/-- A node's block. -/
def Raw (W : World) (b : Nat) (k : ByteArray) (v s : Int) (pl pr : Option Addr) : Prop :=
  W.heap[b]? = some (.cells #[.string k, .int .i64 v, .int .i64 s, .pointer pl, .pointer pr] 71 (0, 0))
theorem Raw.cells {W : World} {b : Nat} {k : ByteArray} {v s : Int} {pl pr : Option Addr} (h : Raw W b k v s pl pr) :
    W.cell? ⟨b, 0, none⟩ = some (.string k) ∧ W.cell? ⟨b, 1, none⟩ = some (.int .i64 v) ∧ W.cell? ⟨b, 2, none⟩ = some (.int .i64 s) ∧ W.cell? ⟨b, 3, none⟩ = some (.pointer pl) ∧ W.cell? ⟨b, 4, none⟩ = some (.pointer pr) :=
  ⟨heap_cell h rfl, heap_cell h rfl, heap_cell h rfl, heap_cell h rfl, heap_cell h rfl⟩
theorem Raw.frozen {W : World} {b : Nat} {k : ByteArray} {v s : Int} {pl pr : Option Addr} (h : Raw W b k v s pl pr) (i : Nat) : W.frozen? ⟨b, i, none⟩ = false := heap_frozen h i
theorem Raw.lt {W : World} {b : Nat} {k : ByteArray} {v s : Int} {pl pr : Option Addr} (h : Raw W b k v s pl pr) : b < W.heap.size := heap_lt h
theorem Raw.turned {R : Nat → Prop} {W W' : World} {b : Nat} {k : ByteArray} {v s : Int} {pl pr : Option Addr} (h : Raw W b k v s pl pr) (ht : Turned R W W') (hn : ¬ R b) : Raw W' b k v s pl pr := ht.old h hn
theorem Raw.below {W W' : World} {b : Nat} {k : ByteArray} {v s : Int} {pl pr : Option Addr} (h : Raw W b k v s pl pr) (hb : Below W.heap.size W W') : Raw W' b k v s pl pr := heap_below h hb h.lt
/-- The tree t at p, its nodes in blocks of S. -/
def IsT (S : Nat → Prop) (W : World) : Option Addr → T ByteArray Int → Prop
  | p, .nil => p = none
  | p, .node l k v r => ∃ b pl pr, p = some ⟨b, 0, none⟩ ∧ S b ∧ Raw W b k v ((l.count + 1 + r.count : Nat) : Int) pl pr ∧ IsT S W pl l ∧ IsT S W pr r
theorem IsT.mono {S S' : Nat → Prop} {W : World} (hS : ∀ b, b < W.heap.size → S b → S' b) : ∀ {p : Option Addr} {t : T ByteArray Int}, IsT S W p t → IsT S' W p t
  | _, .nil, h => h
  | _, .node _ _ _ _, ⟨b, pl, pr, e, hs, hr, h1, h2⟩ => ⟨b, pl, pr, e, hS b hr.lt hs, hr, h1.mono hS, h2.mono hS⟩
theorem IsT.turned {S R : Nat → Prop} {W W' : World} (ht : Turned R W W') (hn : ∀ b, b < W.heap.size → S b → ¬ R b) : ∀ {p : Option Addr} {t : T ByteArray Int}, IsT S W p t → IsT S W' p t
  | _, .nil, h => h
  | _, .node _ _ _ _, ⟨b, pl, pr, e, hs, hr, h1, h2⟩ => ⟨b, pl, pr, e, hs, hr.turned ht (hn b hr.lt hs), h1.turned ht hn, h2.turned ht hn⟩
theorem IsT.below {S : Nat → Prop} {W W' : World} {p : Option Addr} {t : T ByteArray Int} (h : IsT S W p t) (hb : Below W.heap.size W W') : IsT S W' p t := h.turned (turned_of_below hb) (fun _ _ _ h => h)
theorem IsT.node {S : Nat → Prop} {W : World} {b : Nat} {k : ByteArray} {v : Int} {pl pr : Option Addr} {l r : T ByteArray Int} (hs : S b) (hr : Raw W b k v ((l.count + 1 + r.count : Nat) : Int) pl pr) (h1 : IsT S W pl l) (h2 : IsT S W pr r) : IsT S W (some ⟨b, 0, none⟩) (.node l k v r) :=
  ⟨b, pl, pr, rfl, hs, hr, h1, h2⟩
theorem Raw.size_set {W : World} {b : Nat} {k : ByteArray} {v s : Int} {pl pr : Option Addr} (h : Raw W b k v s pl pr) (s' : Int) : Raw (W.setCell ⟨b, 2, none⟩ (.int .i64 s')) b k v s' pl pr := heap_set h 2 _
theorem Raw.val_set {W : World} {b : Nat} {k : ByteArray} {v s : Int} {pl pr : Option Addr} (h : Raw W b k v s pl pr) (v' : Int) : Raw (W.setCell ⟨b, 1, none⟩ (.int .i64 v')) b k v' s pl pr := heap_set h 1 _
theorem Raw.left_set {W : World} {b : Nat} {k : ByteArray} {v s : Int} {pl pr : Option Addr} (h : Raw W b k v s pl pr) (p : Option Addr) : Raw (W.setCell ⟨b, 3, none⟩ (.pointer p)) b k v s p pr := heap_set h 3 _
theorem Raw.right_set {W : World} {b : Nat} {k : ByteArray} {v s : Int} {pl pr : Option Addr} (h : Raw W b k v s pl pr) (p : Option Addr) : Raw (W.setCell ⟨b, 4, none⟩ (.pointer p)) b k v s pl p := heap_set h 4 _
theorem Raw.other_set {W : World} {b : Nat} {k : ByteArray} {v s : Int} {pl pr : Option Addr} (h : Raw W b k v s pl pr) {b' : Nat} (hb : b ≠ b') (i : Nat) (x : Value) : Raw (W.setCell ⟨b', i, none⟩ x) b k v s pl pr := heap_other h hb i x
theorem IsT.below_size {S : Nat → Prop} {W : World} {p : Option Addr} {t : T ByteArray Int} (h : IsT S W p t) : IsT (fun b => S b ∧ b < W.heap.size) W p t := h.mono (fun b hb hs => ⟨hs, hb⟩)

theorem count_any {S : Nat → Prop} {w : World} {p : Option Addr} {t : T ByteArray Int} (h : IsT S w p t) : Calls Try.prog 20 #[.pointer p] w fun e w' => e = .returned (.int .i64 (t.count : Int)) ∧ w = w' := by
  cases t with
  | nil =>
    obtain rfl : p = none := h
    go_enter Try.func20, Try.ntmps20
    go_wp2
    go_ret
    exact ⟨rfl, rfl⟩
  | node l k v r =>
    obtain ⟨b, pl, pr, rfl, _, hr, _, _⟩ := h
    obtain ⟨c0, c1, c2, c3, c4⟩ := hr.cells
    obtain ⟨n, hn⟩ : ∃ n : Nat, (T.node l k v r).count = n := ⟨_, rfl⟩
    have hn' : l.count + 1 + r.count = n := hn
    rw [hn'] at c2
    rw [hn]
    clear hn hn'
    go_enter Try.func20, Try.ntmps20
    go_wp2
    go_ret
    exact ⟨rfl, rfl⟩
theorem weight_any {S : Nat → Prop} {w : World} {p : Option Addr} {t : T ByteArray Int} (h : IsT S w p t) (hs : t.count ≤ 1000000) : Calls Try.prog 44 #[.pointer p] w fun e w' => e = .returned (.int .i64 ((t.count : Int) + 1)) ∧ w = w' := by
  have HC := Lib.hid (count_any h)
  go_enter Try.func44, Try.ntmps44
  go_wp2_with (go_at_call 20; refine HC.out.mono ?_; rintro e w' ⟨rfl, rfl⟩)
  go_ret
  exact ⟨rfl, rfl⟩
end Go.Proofs.Ytpoillgnkmpknaa.Ss
