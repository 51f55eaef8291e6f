/- Trees of nodes in memory. -/
import Derived.Test.YtjpgkocffceeoaaProg
import Derived.Test.YtjpgkocffceeoaaRg
import Derived.Test.YtjpgkocffceeoaaTm
import Derived.Deep.QuietTactic
import Derived.BigQuiet
import Derived.StillTailTactics
import Derived.Deep.RegionHeld3
import Derived.Deep.RegionWith
import Derived.Deep.LoopGhost
set_option linter.unusedVariables false
set_option linter.unusedSectionVars false
namespace Go.Proofs.Ytjpgkocffceeoaa
open Go.RowKit Rk

/-- Keys in order. -/
def ltI (a b : Int) : Bool := decide (a < b)
theorem linI : Lin ltI := ⟨fun a => by simp [ltI], fun a b c h k => by simp [ltI] at *; omega, fun a b h k => by simp [ltI] at *; omega⟩
/-- A node's block. -/
def Raw (W : World) (b : Nat) (k v s : Int) (pl pr : Option Addr) : Prop :=
  W.heap[b]? = some (.cells #[.int .i64 k, .int .i64 v, .int .i64 s, .pointer pl, .pointer pr] 135 (0, 0))
theorem Raw.cells {W : World} {b : Nat} {k v s : Int} {pl pr : Option Addr} (h : Raw W b k v s pl pr) :
    W.cell? ⟨b, 0, none⟩ = some (.int .i64 k) ∧ W.cell? ⟨b, 1, none⟩ = some (.int .i64 v) ∧ W.cell? ⟨b, 2, none⟩ = some (.int .i64 s) ∧ W.cell? ⟨b, 3, none⟩ = some (.pointer pl) ∧ W.cell? ⟨b, 4, none⟩ = some (.pointer pr) :=
  ⟨heap_cell h rfl, heap_cell h rfl, heap_cell h rfl, heap_cell h rfl, heap_cell h rfl⟩
theorem Raw.frozen {W : World} {b : Nat} {k v s : Int} {pl pr : Option Addr} (h : Raw W b k v s pl pr) (i : Nat) : W.frozen? ⟨b, i, none⟩ = false := heap_frozen h i
theorem Raw.lt {W : World} {b : Nat} {k v s : Int} {pl pr : Option Addr} (h : Raw W b k v s pl pr) : b < W.heap.size := heap_lt h
theorem Raw.turned {R : Nat → Prop} {W W' : World} {b : Nat} {k v s : Int} {pl pr : Option Addr} (h : Raw W b k v s pl pr) (ht : Turned R W W') (hn : ¬ R b) : Raw W' b k v s pl pr := ht.old h hn
theorem Raw.below {W W' : World} {b : Nat} {k v s : Int} {pl pr : Option Addr} (h : Raw W b k v s pl pr) (hb : Below W.heap.size W W') : Raw W' b k v s pl pr := heap_below h hb h.lt
/-- The tree t at p, its nodes in blocks of S. -/
def IsT (S : Nat → Prop) (W : World) : Option Addr → T Int Int → Prop
  | p, .nil => p = none
  | p, .node l k v r => ∃ b pl pr, p = some ⟨b, 0, none⟩ ∧ S b ∧ Raw W b k v ((l.count + 1 + r.count : Nat) : Int) pl pr ∧ IsT S W pl l ∧ IsT S W pr r
theorem IsT.mono {S S' : Nat → Prop} {W : World} (hS : ∀ b, b < W.heap.size → S b → S' b) : ∀ {p : Option Addr} {t : T Int Int}, IsT S W p t → IsT S' W p t
  | _, .nil, h => h
  | _, .node _ _ _ _, ⟨b, pl, pr, e, hs, hr, h1, h2⟩ => ⟨b, pl, pr, e, hS b hr.lt hs, hr, h1.mono hS, h2.mono hS⟩
theorem IsT.turned {S R : Nat → Prop} {W W' : World} (ht : Turned R W W') (hn : ∀ b, b < W.heap.size → S b → ¬ R b) : ∀ {p : Option Addr} {t : T Int Int}, IsT S W p t → IsT S W' p t
  | _, .nil, h => h
  | _, .node _ _ _ _, ⟨b, pl, pr, e, hs, hr, h1, h2⟩ => ⟨b, pl, pr, e, hs, hr.turned ht (hn b hr.lt hs), h1.turned ht hn, h2.turned ht hn⟩
theorem turned_of_below {W W' : World} (h : Below W.heap.size W W') : Turned (fun _ => False) W W' := ⟨h.os, h.tape, h.output, h.size, fun k hk _ => h.block k hk⟩
theorem IsT.below {S : Nat → Prop} {W W' : World} {p : Option Addr} {t : T Int Int} (h : IsT S W p t) (hb : Below W.heap.size W W') : IsT S W' p t := h.turned (turned_of_below hb) (fun _ _ _ h => h)
theorem IsT.node {S : Nat → Prop} {W : World} {b : Nat} {k v : Int} {pl pr : Option Addr} {l r : T Int Int} (hs : S b) (hr : Raw W b k v ((l.count + 1 + r.count : Nat) : Int) pl pr) (h1 : IsT S W pl l) (h2 : IsT S W pr r) : IsT S W (some ⟨b, 0, none⟩) (.node l k v r) :=
  ⟨b, pl, pr, rfl, hs, hr, h1, h2⟩
theorem Turned.refl (R : Nat → Prop) (W : World) : Turned R W W := ⟨rfl, rfl, rfl, Nat.le_refl _, fun _ _ _ => rfl⟩
theorem Turned.trans {R : Nat → Prop} {A B C : World} (h : Turned R A B) (k : Turned R B C) : Turned R A C :=
  ⟨k.os.trans h.os, k.tape.trans h.tape, k.output.trans h.output, Nat.le_trans h.size k.size, fun i hi hn => (k.block i (Nat.lt_of_lt_of_le hi h.size) hn).trans (h.block i hi hn)⟩
/-- What a later step turns and was not there need not be named. -/
theorem Turned.step {R R' : Nat → Prop} {A B C : World} (h : Turned R A B) (k : Turned R' B C) (hR : ∀ i, i < A.heap.size → R' i → R i) : Turned R A C :=
  ⟨k.os.trans h.os, k.tape.trans h.tape, k.output.trans h.output, Nat.le_trans h.size k.size, fun i hi hn => (k.block i (Nat.lt_of_lt_of_le hi h.size) (fun e => hn (hR i hi e))).trans (h.block i hi hn)⟩
theorem Turned.weak {R R' : Nat → Prop} {A B : World} (h : Turned R A B) (hR : ∀ i, i < A.heap.size → R i → R' i) : Turned R' A B :=
  ⟨h.os, h.tape, h.output, h.size, fun i hi hn => h.block i hi (fun e => hn (hR i hi e))⟩
theorem Turned.to_below {R : Nat → Prop} {A B : World} (h : Turned R A B) (hR : ∀ i, i < A.heap.size → ¬ R i) : Below A.heap.size A B :=
  ⟨h.os, h.tape, h.output, h.size, fun i hi => h.block i hi (hR i hi)⟩
theorem Turned.set (W : World) (b i : Nat) (v : Value) : Turned (fun k => k = b) W (W.setCell ⟨b, i, none⟩ v) :=
  ⟨rfl, rfl, rfl, by simp [World.setCell], fun k _ hk => Below.heap_setCell _ _ _ _ hk⟩
theorem Turned.drewN (R : Nat → Prop) (W : World) (n : Nat) : Turned R W (W.drewN n) := ⟨rfl, rfl, rfl, Nat.le_refl _, fun _ _ _ => rfl⟩
theorem Turned.alloc (R : Nat → Prop) (W : World) (o : Obj) : Turned R W (W.alloc o) := ⟨rfl, rfl, rfl, by simp, fun k hk _ => Below.heap_alloc _ _ _ hk⟩
theorem Raw.size_set {W : World} {b : Nat} {k v s : Int} {pl pr : Option Addr} (h : Raw W b k v s pl pr) (s' : Int) : Raw (W.setCell ⟨b, 2, none⟩ (.int .i64 s')) b k v s' pl pr := heap_set h 2 _
theorem Raw.val_set {W : World} {b : Nat} {k v s : Int} {pl pr : Option Addr} (h : Raw W b k v s pl pr) (v' : Int) : Raw (W.setCell ⟨b, 1, none⟩ (.int .i64 v')) b k v' s pl pr := heap_set h 1 _
theorem Raw.left_set {W : World} {b : Nat} {k v s : Int} {pl pr : Option Addr} (h : Raw W b k v s pl pr) (p : Option Addr) : Raw (W.setCell ⟨b, 3, none⟩ (.pointer p)) b k v s p pr := heap_set h 3 _
theorem Raw.right_set {W : World} {b : Nat} {k v s : Int} {pl pr : Option Addr} (h : Raw W b k v s pl pr) (p : Option Addr) : Raw (W.setCell ⟨b, 4, none⟩ (.pointer p)) b k v s pl p := heap_set h 4 _
theorem Raw.other_set {W : World} {b : Nat} {k v s : Int} {pl pr : Option Addr} (h : Raw W b k v s pl pr) {b' : Nat} (hb : b ≠ b') (i : Nat) (x : Value) : Raw (W.setCell ⟨b', i, none⟩ x) b k v s pl pr := heap_other h hb i x
theorem IsT.below_size {S : Nat → Prop} {W : World} {p : Option Addr} {t : T Int Int} (h : IsT S W p t) : IsT (fun b => S b ∧ b < W.heap.size) W p t := h.mono (fun b hb hs => ⟨hs, hb⟩)

def cmpI (a b : Int) : Int := if ltI a b = true then -1 else if ltI b a = true then 1 else 0
def sideI (o : Int) : Int := if 0 < o then 1 else 0

theorem nan_any (a : Int) (w : World) : Calls Try.prog 94 #[.int .i64 a] w fun e w' => e = .returned (.bool false) ∧ w = w' := by
  go_enter Try.func94, Try.ntmps94
  go_wp2
  go_ret
  exact ⟨by simp, rfl⟩
theorem cmp_any (a b : Int) (w : World) : Calls Try.prog 88 #[.int .i64 a, .int .i64 b] w fun e w' => e = .returned (.int .i64 (cmpI a b)) ∧ w = w' := by
  have HC : Hid (cmpI a b = if a < b then -1 else if b < a then 1 else 0) := Lib.hid (by simp [cmpI, ltI])
  go_enter Try.func88, Try.ntmps88
  go_wp2_with (go_at_call 94; refine (nan_any _ _).mono ?_; rintro e w' ⟨rfl, rfl⟩)
  all_goals
    go_ret
    refine ⟨?_, rfl⟩
    rw [HC.out]
    (repeat' split) <;> first | rfl | (exfalso; omega)
theorem side_any (o : Int) (w : World) : Calls Try.prog 89 #[.int .i64 o] w fun e w' => e = .returned (.int .i64 (sideI o)) ∧ w = w' := by
  have HC : Hid (sideI o = if 0 < o then 1 else 0) := Lib.hid rfl
  go_enter Try.func89, Try.ntmps89
  go_wp2
  all_goals
    go_ret
    refine ⟨?_, rfl⟩
    rw [HC.out]
    (repeat' split) <;> first | rfl | (exfalso; omega)
theorem count_any {S : Nat → Prop} {w : World} {p : Option Addr} {t : T Int Int} (h : IsT S w p t) : Calls Try.prog 87 #[.pointer p] w fun e w' => e = .returned (.int .i64 (t.count : Int)) ∧ w = w' := by
  cases t with
  | nil =>
    obtain rfl : p = none := h
    go_enter Try.func87, Try.ntmps87
    go_wp2
    go_ret
    exact ⟨rfl, rfl⟩
  | node l k v r =>
    obtain ⟨b, pl, pr, rfl, _, hr, _, _⟩ := h
    obtain ⟨c0, c1, c2, c3, c4⟩ := hr.cells
    obtain ⟨n, hn⟩ : ∃ n : Nat, (T.node l k v r).count = n := ⟨_, rfl⟩
    have hn' : l.count + 1 + r.count = n := hn
    rw [hn'] at c2
    rw [hn]
    clear hn hn'
    go_enter Try.func87, Try.ntmps87
    go_wp2
    go_ret
    exact ⟨rfl, rfl⟩
theorem weight_any {S : Nat → Prop} {w : World} {p : Option Addr} {t : T Int Int} (h : IsT S w p t) (hs : t.count ≤ 1000000) : Calls Try.prog 95 #[.pointer p] w fun e w' => e = .returned (.int .i64 ((t.count : Int) + 1)) ∧ w = w' := by
  have HC := Lib.hid (count_any h)
  go_enter Try.func95, Try.ntmps95
  go_wp2_with (go_at_call 87; refine HC.out.mono ?_; rintro e w' ⟨rfl, rfl⟩)
  go_ret
  exact ⟨rfl, rfl⟩
end Go.Proofs.Ytjpgkocffceeoaa
