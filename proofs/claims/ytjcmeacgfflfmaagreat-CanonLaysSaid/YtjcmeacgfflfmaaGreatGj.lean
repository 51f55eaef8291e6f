/- Trees of nodes in memory. Contracts: a node counted; a node over another. Contract: a node over another. Contract: a node turned. Contract: a node made even. Contracts: what goes down a tree: find, rank, nth. Contracts: a node's entry; a tree with a key. Contracts: a map's calls. -/
import Derived.Test.YtjcmeacgfflfmaaGreatProg
import Derived.Test.YtjcmeacgfflfmaaGreatRg
import Derived.Test.YtjcmeacgfflfmaaGreatTm
import Derived.Deep.QuietTactic
import Derived.BigQuiet
import Derived.StillTailTactics
import Derived.Deep.RegionHeld3
import Derived.Deep.RegionWith
import Derived.Deep.LoopGhost
import Derived.IntWalk
import Derived.LoopN
set_option linter.unusedVariables false
set_option linter.unusedSectionVars false
set_option linter.unusedSimpArgs false
namespace Go.Proofs.YtjcmeacgfflfmaaGreat
open Go.RowKit Rk

/-- Keys in order. -/
def ltI (a b : Int) : Bool := decide (a < b)
theorem linI : Lin ltI := ⟨fun a => by simp [ltI], fun a b c h k => by simp [ltI] at *; omega, fun a b h k => by simp [ltI] at *; omega⟩
/-- A node's block. -/
def Raw (W : World) (b : Nat) (k v s : Int) (pl pr : Option Addr) : Prop :=
  W.heap[b]? = some (.cells #[.int .i64 k, .int .i64 v, .int .i64 s, .pointer pl, .pointer pr] 191 (0, 0))
theorem Raw.cells {W : World} {b : Nat} {k v s : Int} {pl pr : Option Addr} (h : Raw W b k v s pl pr) :
    W.cell? ⟨b, 0, none⟩ = some (.int .i64 k) ∧ W.cell? ⟨b, 1, none⟩ = some (.int .i64 v) ∧ W.cell? ⟨b, 2, none⟩ = some (.int .i64 s) ∧ W.cell? ⟨b, 3, none⟩ = some (.pointer pl) ∧ W.cell? ⟨b, 4, none⟩ = some (.pointer pr) :=
  ⟨heap_cell h rfl, heap_cell h rfl, heap_cell h rfl, heap_cell h rfl, heap_cell h rfl⟩
theorem Raw.frozen {W : World} {b : Nat} {k v s : Int} {pl pr : Option Addr} (h : Raw W b k v s pl pr) (i : Nat) : W.frozen? ⟨b, i, none⟩ = false := heap_frozen h i
theorem Raw.lt {W : World} {b : Nat} {k v s : Int} {pl pr : Option Addr} (h : Raw W b k v s pl pr) : b < W.heap.size := heap_lt h
theorem Raw.turned {R : Nat → Prop} {W W' : World} {b : Nat} {k v s : Int} {pl pr : Option Addr} (h : Raw W b k v s pl pr) (ht : Turned R W W') (hn : ¬ R b) : Raw W' b k v s pl pr := ht.old h hn
theorem Raw.below {W W' : World} {b : Nat} {k v s : Int} {pl pr : Option Addr} (h : Raw W b k v s pl pr) (hb : Below W.heap.size W W') : Raw W' b k v s pl pr := heap_below h hb h.lt
/-- The tree t at p, its nodes in blocks of S. -/
def IsT (S : Nat → Prop) (W : World) : Option Addr → T Int Int → Prop
  | p, .nil => p = none
  | p, .node l k v r => ∃ b pl pr, p = some ⟨b, 0, none⟩ ∧ S b ∧ Raw W b k v ((l.count + 1 + r.count : Nat) : Int) pl pr ∧ IsT S W pl l ∧ IsT S W pr r
theorem IsT.mono {S S' : Nat → Prop} {W : World} (hS : ∀ b, b < W.heap.size → S b → S' b) : ∀ {p : Option Addr} {t : T Int Int}, IsT S W p t → IsT S' W p t
  | _, .nil, h => h
  | _, .node _ _ _ _, ⟨b, pl, pr, e, hs, hr, h1, h2⟩ => ⟨b, pl, pr, e, hS b hr.lt hs, hr, h1.mono hS, h2.mono hS⟩
theorem IsT.turned {S R : Nat → Prop} {W W' : World} (ht : Turned R W W') (hn : ∀ b, b < W.heap.size → S b → ¬ R b) : ∀ {p : Option Addr} {t : T Int Int}, IsT S W p t → IsT S W' p t
  | _, .nil, h => h
  | _, .node _ _ _ _, ⟨b, pl, pr, e, hs, hr, h1, h2⟩ => ⟨b, pl, pr, e, hs, hr.turned ht (hn b hr.lt hs), h1.turned ht hn, h2.turned ht hn⟩
theorem turned_of_below {W W' : World} (h : Below W.heap.size W W') : Turned (fun _ => False) W W' := ⟨h.os, h.tape, h.output, h.size, fun k hk _ => h.block k hk⟩
theorem IsT.below {S : Nat → Prop} {W W' : World} {p : Option Addr} {t : T Int Int} (h : IsT S W p t) (hb : Below W.heap.size W W') : IsT S W' p t := h.turned (turned_of_below hb) (fun _ _ _ h => h)
theorem IsT.node {S : Nat → Prop} {W : World} {b : Nat} {k v : Int} {pl pr : Option Addr} {l r : T Int Int} (hs : S b) (hr : Raw W b k v ((l.count + 1 + r.count : Nat) : Int) pl pr) (h1 : IsT S W pl l) (h2 : IsT S W pr r) : IsT S W (some ⟨b, 0, none⟩) (.node l k v r) :=
  ⟨b, pl, pr, rfl, hs, hr, h1, h2⟩
theorem Turned.refl (R : Nat → Prop) (W : World) : Turned R W W := ⟨rfl, rfl, rfl, Nat.le_refl _, fun _ _ _ => rfl⟩
theorem Turned.trans {R : Nat → Prop} {A B C : World} (h : Turned R A B) (k : Turned R B C) : Turned R A C :=
  ⟨k.os.trans h.os, k.tape.trans h.tape, k.output.trans h.output, Nat.le_trans h.size k.size, fun i hi hn => (k.block i (Nat.lt_of_lt_of_le hi h.size) hn).trans (h.block i hi hn)⟩
/-- What a later step turns and was not there need not be named. -/
theorem Turned.step {R R' : Nat → Prop} {A B C : World} (h : Turned R A B) (k : Turned R' B C) (hR : ∀ i, i < A.heap.size → R' i → R i) : Turned R A C :=
  ⟨k.os.trans h.os, k.tape.trans h.tape, k.output.trans h.output, Nat.le_trans h.size k.size, fun i hi hn => (k.block i (Nat.lt_of_lt_of_le hi h.size) (fun e => hn (hR i hi e))).trans (h.block i hi hn)⟩
theorem Turned.weak {R R' : Nat → Prop} {A B : World} (h : Turned R A B) (hR : ∀ i, i < A.heap.size → R i → R' i) : Turned R' A B :=
  ⟨h.os, h.tape, h.output, h.size, fun i hi hn => h.block i hi (fun e => hn (hR i hi e))⟩
theorem Turned.to_below {R : Nat → Prop} {A B : World} (h : Turned R A B) (hR : ∀ i, i < A.heap.size → ¬ R i) : Below A.heap.size A B :=
  ⟨h.os, h.tape, h.output, h.size, fun i hi => h.block i hi (hR i hi)⟩
theorem Turned.set (W : World) (b i : Nat) (v : Value) : Turned (fun k => k = b) W (W.setCell ⟨b, i, none⟩ v) :=
  ⟨rfl, rfl, rfl, by simp [World.setCell], fun k _ hk => Below.heap_setCell _ _ _ _ hk⟩
theorem Turned.drewN (R : Nat → Prop) (W : World) (n : Nat) : Turned R W (W.drewN n) := ⟨rfl, rfl, rfl, Nat.le_refl _, fun _ _ _ => rfl⟩
theorem Turned.alloc (R : Nat → Prop) (W : World) (o : Obj) : Turned R W (W.alloc o) := ⟨rfl, rfl, rfl, by simp, fun k hk _ => Below.heap_alloc _ _ _ hk⟩
theorem Raw.size_set {W : World} {b : Nat} {k v s : Int} {pl pr : Option Addr} (h : Raw W b k v s pl pr) (s' : Int) : Raw (W.setCell ⟨b, 2, none⟩ (.int .i64 s')) b k v s' pl pr := heap_set h 2 _
theorem Raw.val_set {W : World} {b : Nat} {k v s : Int} {pl pr : Option Addr} (h : Raw W b k v s pl pr) (v' : Int) : Raw (W.setCell ⟨b, 1, none⟩ (.int .i64 v')) b k v' s pl pr := heap_set h 1 _
theorem Raw.left_set {W : World} {b : Nat} {k v s : Int} {pl pr : Option Addr} (h : Raw W b k v s pl pr) (p : Option Addr) : Raw (W.setCell ⟨b, 3, none⟩ (.pointer p)) b k v s p pr := heap_set h 3 _
theorem Raw.right_set {W : World} {b : Nat} {k v s : Int} {pl pr : Option Addr} (h : Raw W b k v s pl pr) (p : Option Addr) : Raw (W.setCell ⟨b, 4, none⟩ (.pointer p)) b k v s pl p := heap_set h 4 _
theorem Raw.other_set {W : World} {b : Nat} {k v s : Int} {pl pr : Option Addr} (h : Raw W b k v s pl pr) {b' : Nat} (hb : b ≠ b') (i : Nat) (x : Value) : Raw (W.setCell ⟨b', i, none⟩ x) b k v s pl pr := heap_other h hb i x
theorem IsT.below_size {S : Nat → Prop} {W : World} {p : Option Addr} {t : T Int Int} (h : IsT S W p t) : IsT (fun b => S b ∧ b < W.heap.size) W p t := h.mono (fun b hb hs => ⟨hs, hb⟩)

def cmpI (a b : Int) : Int := if ltI a b = true then -1 else if ltI b a = true then 1 else 0
def sideI (o : Int) : Int := if 0 < o then 1 else 0

theorem nan_any (a : Int) (w : World) : Calls Tryz.prog 150 #[.int .i64 a] w fun e w' => e = .returned (.bool false) ∧ w = w' := by
  go_enter Tryz.func150, Tryz.ntmps150
  go_wp2
  go_ret
  exact ⟨by simp, rfl⟩
theorem cmp_any (a b : Int) (w : World) : Calls Tryz.prog 130 #[.int .i64 a, .int .i64 b] w fun e w' => e = .returned (.int .i64 (cmpI a b)) ∧ w = w' := by
  have HC : Hid (cmpI a b = if a < b then -1 else if b < a then 1 else 0) := Lib.hid (by simp [cmpI, ltI])
  go_enter Tryz.func130, Tryz.ntmps130
  go_wp2_with (go_at_call 150; refine (nan_any _ _).mono ?_; rintro e w' ⟨rfl, rfl⟩)
  all_goals
    go_ret
    refine ⟨?_, rfl⟩
    rw [HC.out]
    (repeat' split) <;> first | rfl | (exfalso; omega)
theorem side_any (o : Int) (w : World) : Calls Tryz.prog 131 #[.int .i64 o] w fun e w' => e = .returned (.int .i64 (sideI o)) ∧ w = w' := by
  have HC : Hid (sideI o = if 0 < o then 1 else 0) := Lib.hid rfl
  go_enter Tryz.func131, Tryz.ntmps131
  go_wp2
  all_goals
    go_ret
    refine ⟨?_, rfl⟩
    rw [HC.out]
    (repeat' split) <;> first | rfl | (exfalso; omega)
theorem count_any {S : Nat → Prop} {w : World} {p : Option Addr} {t : T Int Int} (h : IsT S w p t) : Calls Tryz.prog 148 #[.pointer p] w fun e w' => e = .returned (.int .i64 (t.count : Int)) ∧ w = w' := by
  cases t with
  | nil =>
    obtain rfl : p = none := h
    go_enter Tryz.func148, Tryz.ntmps148
    go_wp2
    go_ret
    exact ⟨rfl, rfl⟩
  | node l k v r =>
    obtain ⟨b, pl, pr, rfl, _, hr, _, _⟩ := h
    obtain ⟨c0, c1, c2, c3, c4⟩ := hr.cells
    obtain ⟨n, hn⟩ : ∃ n : Nat, (T.node l k v r).count = n := ⟨_, rfl⟩
    have hn' : l.count + 1 + r.count = n := hn
    rw [hn'] at c2
    rw [hn]
    clear hn hn'
    go_enter Tryz.func148, Tryz.ntmps148
    go_wp2
    go_ret
    exact ⟨rfl, rfl⟩
theorem weight_any {S : Nat → Prop} {w : World} {p : Option Addr} {t : T Int Int} (h : IsT S w p t) (hs : t.count ≤ 1000000) : Calls Tryz.prog 165 #[.pointer p] w fun e w' => e = .returned (.int .i64 ((t.count : Int) + 1)) ∧ w = w' := by
  have HC := Lib.hid (count_any h)
  go_enter Tryz.func165, Tryz.ntmps165
  go_wp2_with (go_at_call 148; refine HC.out.mono ?_; rintro e w' ⟨rfl, rfl⟩)
  go_ret
  exact ⟨rfl, rfl⟩
end Go.Proofs.YtjcmeacgfflfmaaGreat

namespace Go.Proofs.YtjcmeacgfflfmaaGreat
open Go.RowKit Rk

theorem turned_drawn (R : Nat → Prop) (W : World) (n : Nat) : Turned R W { W with drawn := n } := ⟨rfl, rfl, rfl, Nat.le_refl _, fun _ _ _ => rfl⟩
theorem IsT.drawn {S : Nat → Prop} {W : World} {p : Option Addr} {t : T Int Int} (h : IsT S W p t) (n : Nat) : IsT S { W with drawn := n } p t := h.turned (turned_drawn (fun _ => False) W n) (fun _ _ _ h => h)
def CountedPost (b : Nat) (k v s : Int) (pl pr : Option Addr) (w : World) (e : Ending) (w' : World) : Prop :=
  e = .returned (.pointer (some ⟨b, 0, none⟩)) ∧ Turned (fun i => i = b) w w' ∧ Raw w' b k v s pl pr

set_option maxHeartbeats 1000000 in
set_option maxRecDepth 100000 in
theorem counted_any {S S' : Nat → Prop} {w : World} {b : Nat} {k v s : Int} {pl pr : Option Addr} {l r : T Int Int} (hr : Raw w b k v s pl pr) (hl : IsT S w pl l) (hrr : IsT S' w pr r) (hs : l.count + r.count ≤ 1000000) :
    Calls Tryz.prog 167 #[.pointer (some ⟨b, 0, none⟩)] w (CountedPost b k v ((l.count + 1 + r.count : Nat) : Int) pl pr w) := by
  obtain ⟨c0, c1, c2, c3, c4⟩ := hr.cells
  have hf := hr.frozen 2
  have HL := Lib.hid (fun n => count_any (hl.drawn n))
  have HR := Lib.hid (fun n => count_any (hrr.drawn n))
  have hb := hr.lt
  have HRaw := Lib.hid hr
  clear hl hrr hr
  obtain ⟨m, hm⟩ : ∃ m : Nat, l.count = m := ⟨_, rfl⟩
  obtain ⟨n, hn⟩ : ∃ n : Nat, r.count = n := ⟨_, rfl⟩
  rw [hm] at HL hs
  rw [hn] at HR hs
  rw [hm, hn]
  clear hm hn
  go_enter Tryz.func167, Tryz.ntmps167
  go_wp2
  refine wp_region_still_tail 17 (by kernel_rfl) (by kernel_rfl) ?_
  simp only [List.take_succ_cons, List.take_zero, List.drop_succ_cons, List.drop_zero]
  repeat (first | still_step | (refine wpStill_step (fun K hK => ?_); go_simp; apply Exists.intro; refine ⟨?_, hK _ ?_⟩; (first | exact (HL.out _).mono (fun e w' h => ⟨h.1, h.2.symm⟩) | exact (HR.out _).mono (fun e w' h => ⟨h.1, h.2.symm⟩)); clear hK K))
  refine wpStill_nil ?_
  change wpList _ _ _ _ _ w.drew
  go_wp2
  go_ret
  refine ⟨rfl, (Turned.drewN _ w 1).trans (Turned.set _ _ _ _), ?_⟩
  rw [show ((m + 1 + n : Nat) : Int) = (m : Int) + 1 + (n : Int) by omega]
  exact Raw.size_set (W := w.drew) HRaw.out _
end Go.Proofs.YtjcmeacgfflfmaaGreat

namespace Go.Proofs.YtjcmeacgfflfmaaGreat
open Go.RowKit Rk

/-- Behind a turn of two nodes: u over n, whose other side was l2. -/
structure Over0 (S : Nat → Prop) (bu bn : Nat) (k1 v1 k2 v2 : Int) (pr1 : Option Addr) (l2 l1 r1 : T Int Int) (w : World) (e : Ending) (w' : World) : Prop where
  val : e = .returned (.pointer (some ⟨bu, 0, none⟩))
  turned : Turned (fun i => i = bu ∨ i = bn) w w'
  up : Raw w' bu k1 v1 (((T.node l2 k2 v2 l1).count + 1 + r1.count : Nat) : Int) (some ⟨bn, 0, none⟩) pr1
  low : IsT (fun c => S c ∨ c = bn) w' (some ⟨bn, 0, none⟩) (.node l2 k2 v2 l1)
  side : IsT S w' pr1 r1
structure Over1 (S : Nat → Prop) (bu bn : Nat) (k1 v1 k2 v2 : Int) (pl1 : Option Addr) (l1 r1 r2 : T Int Int) (w : World) (e : Ending) (w' : World) : Prop where
  val : e = .returned (.pointer (some ⟨bu, 0, none⟩))
  turned : Turned (fun i => i = bu ∨ i = bn) w w'
  up : Raw w' bu k1 v1 ((l1.count + 1 + (T.node r1 k2 v2 r2).count : Nat) : Int) pl1 (some ⟨bn, 0, none⟩)
  low : IsT (fun c => S c ∨ c = bn) w' (some ⟨bn, 0, none⟩) (.node r1 k2 v2 r2)
  side : IsT S w' pl1 l1

set_option maxRecDepth 100000 in
set_option maxHeartbeats 2000000 in
theorem over0_any {S : Nat → Prop} {w : World} {bu bn : Nat} {k1 v1 s1 k2 v2 s2 : Int} {pl1 pr1 pl2 pr2 : Option Addr} {l1 r1 l2 : T Int Int} (hu : Raw w bu k1 v1 s1 pl1 pr1) (hn : Raw w bn k2 v2 s2 pl2 pr2) (hne : bu ≠ bn)
    (h1 : IsT S w pl1 l1) (h2 : IsT S w pr1 r1) (h3 : IsT S w pl2 l2) (hS : ∀ c, S c → c ≠ bu ∧ c ≠ bn) (hs : l1.count + r1.count + l2.count ≤ 900000) :
    Calls Tryz.prog 168 #[.pointer (some ⟨bu, 0, none⟩), .pointer (some ⟨bn, 0, none⟩), .int .i64 0] w (Over0 S bu bn k1 v1 k2 v2 pr1 l2 l1 r1 w) := by
  obtain ⟨c0, c1, c2, c3, c4⟩ := hu.cells
  obtain ⟨d0, d1, d2, d3, d4⟩ := hn.cells
  have hfn := hn.frozen 4
  have hfu := hu.frozen 3
  have HU := Lib.hid hu
  have HN := Lib.hid hn
  have H1 := Lib.hid h1
  have H2 := Lib.hid h2
  have H3 := Lib.hid h3
  have HS := Lib.hid hS
  have HNE := Lib.hid hne
  clear hu hn h1 h2 h3 hS hne
  have hw1 : IntKind.i64.wrap 1 = 1 := by decide
  have hw0 : IntKind.i64.wrap 0 = 0 := by decide
  go_enter Tryz.func168, Tryz.ntmps168
  go_wp2
  go_still_tail 12, (by kernel_rfl)
  change wpList _ _ _ _ _ w.drew
  go_wp2
  have t2 : Turned (fun i => i = bu ∨ i = bn) w ((w.setCell ⟨bn, 4, none⟩ (.pointer pl1)).drew) := ((Turned.set w bn _ _).trans (Turned.drewN _ _ 1)).weak (fun i _ h => .inr h)
  have n2 : Raw ((w.setCell ⟨bn, 4, none⟩ (.pointer pl1)).drew) bn k2 v2 s2 pl2 pl1 := Raw.right_set (W := w) HN.out _
  have u2 : Raw ((w.setCell ⟨bn, 4, none⟩ (.pointer pl1)).drew) bu k1 v1 s1 pl1 pr1 := Raw.other_set (W := w) HU.out HNE.out _ _
  revert t2 n2 u2
  generalize (w.setCell ⟨bn, 4, none⟩ (.pointer pl1)).drew = w2
  intro t2 n2 u2
  have tt : ∀ {p : Option Addr} {t : T Int Int}, IsT S w p t → IsT S w2 p t := fun h => h.turned t2 (fun c _ hc e => by have := HS.out c hc; rcases e with e | e <;> omega)
  have i1 := tt H1.out
  have i2 := tt H2.out
  have i3 := tt H3.out
  have HC := Lib.hid (counted_any (w := w2.drew) (b := bn) n2 (i3.drawn _) (i1.drawn _) (by omega))
  have T2 := Lib.hid t2
  have U2 := Lib.hid u2
  have I1 := Lib.hid i1
  have I2 := Lib.hid i2
  have I3 := Lib.hid i3
  clear t2 n2 u2 tt i1 i2 i3 c0 c1 c2 c3 c4 d0 d1 d2 d3 d4 hfn hfu
  go_region_with ((go_at_call 167; refine HC.out.mono ?_; rintro e w3 ⟨rfl, t3, n3⟩; have t3' : Turned (fun i => i = bn) w2 w3 := (Turned.drewN _ w2 1).trans t3; have u3 := U2.out.turned t3' HNE.out; obtain ⟨c0, c1, c2, c3, c4⟩ := u3.cells; have hfu := u3.frozen 3; have T3 := Lib.hid t3'; have U3 := Lib.hid u3; have N3 := Lib.hid n3; clear t3 t3' u3 n3))
  have t4 : Turned (fun i => i = bu) w3 (w3.setCell ⟨bu, 3, none⟩ (.pointer (some ⟨bn, 0, none⟩))) := Turned.set _ _ _ _
  have u4 : Raw (w3.setCell ⟨bu, 3, none⟩ (.pointer (some ⟨bn, 0, none⟩))) bu k1 v1 s1 (some ⟨bn, 0, none⟩) pr1 := U3.out.left_set _
  have n4 := N3.out.turned t4 (fun e => HNE.out e.symm)
  have t24 : Turned (fun i => i = bu ∨ i = bn) w2 (w3.setCell ⟨bu, 3, none⟩ (.pointer (some ⟨bn, 0, none⟩))) := (T3.out.weak (fun i _ h => .inr h)).trans (t4.weak (fun i _ h => .inl h))
  revert t4 u4 n4 t24
  generalize w3.setCell ⟨bu, 3, none⟩ (.pointer (some ⟨bn, 0, none⟩)) = w4
  intro t4 u4 n4 t24
  have tt : ∀ {p : Option Addr} {t : T Int Int}, IsT S w2 p t → IsT S w4 p t := fun h => h.turned t24 (fun c _ hc e => by have := HS.out c hc; rcases e with e | e <;> omega)
  have i1 := tt I1.out
  have i2 := tt I2.out
  have i3 := tt I3.out
  have low : IsT (fun c => S c ∨ c = bn) w4 (some ⟨bn, 0, none⟩) (.node l2 k2 v2 l1) := IsT.node (.inr rfl) n4 (i3.mono (fun _ _ h => .inl h)) (i1.mono (fun _ _ h => .inl h))
  have HCu := Lib.hid (counted_any u4 low i2 (by simp only [T.count]; omega))
  have T4 := Lib.hid (T2.out.trans t24)
  have LOW := Lib.hid low
  have I2' := Lib.hid i2
  clear t4 u4 n4 t24 tt i1 i2 i3 low c0 c1 c2 c3 c4 hfu
  go_wp2_with fail
  refine HCu.out.mono ?_
  rintro e w5 ⟨rfl, t5, u5⟩
  have END : Over0 S bu bn k1 v1 k2 v2 pr1 l2 l1 r1 w (.returned (.pointer (some ⟨bu, 0, none⟩))) w5 :=
    ⟨rfl, T4.out.trans (t5.weak (fun i _ h => .inl h)), u5, LOW.out.turned t5 (fun c _ hc e => by rcases hc with hc | hc; (exact (HS.out c hc).1 e); (subst hc; exact HNE.out e.symm)), I2'.out.turned t5 (fun c _ hc e => (HS.out c hc).1 e)⟩
  have HEND := Lib.hid END
  clear END t5 u5
  go_wp2
  go_ret
  exact HEND.out

set_option maxRecDepth 100000 in
set_option maxHeartbeats 2000000 in
theorem over1_any {S : Nat → Prop} {w : World} {bu bn : Nat} {k1 v1 s1 k2 v2 s2 : Int} {pl1 pr1 pl2 pr2 : Option Addr} {l1 r1 r2 : T Int Int} (hu : Raw w bu k1 v1 s1 pl1 pr1) (hn : Raw w bn k2 v2 s2 pl2 pr2) (hne : bu ≠ bn)
    (h1 : IsT S w pl1 l1) (h2 : IsT S w pr1 r1) (h3 : IsT S w pr2 r2) (hS : ∀ c, S c → c ≠ bu ∧ c ≠ bn) (hs : l1.count + r1.count + r2.count ≤ 900000) :
    Calls Tryz.prog 168 #[.pointer (some ⟨bu, 0, none⟩), .pointer (some ⟨bn, 0, none⟩), .int .i64 1] w (Over1 S bu bn k1 v1 k2 v2 pl1 l1 r1 r2 w) := by
  obtain ⟨c0, c1, c2, c3, c4⟩ := hu.cells
  obtain ⟨d0, d1, d2, d3, d4⟩ := hn.cells
  have hfn := hn.frozen 3
  have hfu := hu.frozen 4
  have HU := Lib.hid hu
  have HN := Lib.hid hn
  have H1 := Lib.hid h1
  have H2 := Lib.hid h2
  have H3 := Lib.hid h3
  have HS := Lib.hid hS
  have HNE := Lib.hid hne
  clear hu hn h1 h2 h3 hS hne
  have hw1 : IntKind.i64.wrap 1 = 1 := by decide
  have hw0 : IntKind.i64.wrap 0 = 0 := by decide
  go_enter Tryz.func168, Tryz.ntmps168
  go_wp2
  go_still_tail 12, (by kernel_rfl)
  change wpList _ _ _ _ _ w.drew
  go_wp2
  have t2 : Turned (fun i => i = bu ∨ i = bn) w ((w.setCell ⟨bn, 3, none⟩ (.pointer pr1)).drew) := ((Turned.set w bn _ _).trans (Turned.drewN _ _ 1)).weak (fun i _ h => .inr h)
  have n2 : Raw ((w.setCell ⟨bn, 3, none⟩ (.pointer pr1)).drew) bn k2 v2 s2 pr1 pr2 := Raw.left_set (W := w) HN.out _
  have u2 : Raw ((w.setCell ⟨bn, 3, none⟩ (.pointer pr1)).drew) bu k1 v1 s1 pl1 pr1 := Raw.other_set (W := w) HU.out HNE.out _ _
  revert t2 n2 u2
  generalize (w.setCell ⟨bn, 3, none⟩ (.pointer pr1)).drew = w2
  intro t2 n2 u2
  have tt : ∀ {p : Option Addr} {t : T Int Int}, IsT S w p t → IsT S w2 p t := fun h => h.turned t2 (fun c _ hc e => by have := HS.out c hc; rcases e with e | e <;> omega)
  have i1 := tt H1.out
  have i2 := tt H2.out
  have i3 := tt H3.out
  have HC := Lib.hid (counted_any (w := w2.drew) (b := bn) n2 (i2.drawn _) (i3.drawn _) (by omega))
  have T2 := Lib.hid t2
  have U2 := Lib.hid u2
  have I1 := Lib.hid i1
  have I2 := Lib.hid i2
  have I3 := Lib.hid i3
  clear t2 n2 u2 tt i1 i2 i3 c0 c1 c2 c3 c4 d0 d1 d2 d3 d4 hfn hfu
  go_region_with ((go_at_call 167; refine HC.out.mono ?_; rintro e w3 ⟨rfl, t3, n3⟩; have t3' : Turned (fun i => i = bn) w2 w3 := (Turned.drewN _ w2 1).trans t3; have u3 := U2.out.turned t3' HNE.out; obtain ⟨c0, c1, c2, c3, c4⟩ := u3.cells; have hfu := u3.frozen 4; have T3 := Lib.hid t3'; have U3 := Lib.hid u3; have N3 := Lib.hid n3; clear t3 t3' u3 n3))
  have t4 : Turned (fun i => i = bu) w3 (w3.setCell ⟨bu, 4, none⟩ (.pointer (some ⟨bn, 0, none⟩))) := Turned.set _ _ _ _
  have u4 : Raw (w3.setCell ⟨bu, 4, none⟩ (.pointer (some ⟨bn, 0, none⟩))) bu k1 v1 s1 pl1 (some ⟨bn, 0, none⟩) := U3.out.right_set _
  have n4 := N3.out.turned t4 (fun e => HNE.out e.symm)
  have t24 : Turned (fun i => i = bu ∨ i = bn) w2 (w3.setCell ⟨bu, 4, none⟩ (.pointer (some ⟨bn, 0, none⟩))) := (T3.out.weak (fun i _ h => .inr h)).trans (t4.weak (fun i _ h => .inl h))
  revert t4 u4 n4 t24
  generalize w3.setCell ⟨bu, 4, none⟩ (.pointer (some ⟨bn, 0, none⟩)) = w4
  intro t4 u4 n4 t24
  have tt : ∀ {p : Option Addr} {t : T Int Int}, IsT S w2 p t → IsT S w4 p t := fun h => h.turned t24 (fun c _ hc e => by have := HS.out c hc; rcases e with e | e <;> omega)
  have i1 := tt I1.out
  have i2 := tt I2.out
  have i3 := tt I3.out
  have low : IsT (fun c => S c ∨ c = bn) w4 (some ⟨bn, 0, none⟩) (.node r1 k2 v2 r2) := IsT.node (.inr rfl) n4 (i2.mono (fun _ _ h => .inl h)) (i3.mono (fun _ _ h => .inl h))
  have HCu := Lib.hid (counted_any u4 i1 low (by simp only [T.count]; omega))
  have T4 := Lib.hid (T2.out.trans t24)
  have LOW := Lib.hid low
  have I1' := Lib.hid i1
  clear t4 u4 n4 t24 tt i1 i2 i3 low c0 c1 c2 c3 c4 hfu
  go_wp2_with fail
  refine HCu.out.mono ?_
  rintro e w5 ⟨rfl, t5, u5⟩
  have END : Over1 S bu bn k1 v1 k2 v2 pl1 l1 r1 r2 w (.returned (.pointer (some ⟨bu, 0, none⟩))) w5 :=
    ⟨rfl, T4.out.trans (t5.weak (fun i _ h => .inl h)), u5, LOW.out.turned t5 (fun c _ hc e => by rcases hc with hc | hc; (exact (HS.out c hc).1 e); (subst hc; exact HNE.out e.symm)), I1'.out.turned t5 (fun c _ hc e => (HS.out c hc).1 e)⟩
  have HEND := Lib.hid END
  clear END t5 u5
  go_wp2
  go_ret
  exact HEND.out
end Go.Proofs.YtjcmeacgfflfmaaGreat

namespace Go.Proofs.YtjcmeacgfflfmaaGreat
open Go.RowKit Rk

/-- A tree with this row, its nodes in blocks of S; blocks of R alone have turned. -/
def TreePost (S R : Nat → Prop) (L : List (Int × Int)) (w : World) (e : Ending) (w' : World) : Prop :=
  ∃ p t, e = .returned (.pointer p) ∧ IsT S w' p t ∧ t.list = L ∧ Turned R w w'

set_option maxRecDepth 100000 in
set_option maxHeartbeats 4000000 in
theorem turned0_any {S : Nat → Prop} {w : World} {bn : Nat} {k v s : Int} {pl pr : Option Addr} {ll lr r : T Int Int} {kl vl : Int} (hr : Raw w bn k v s pl pr) (hl : IsT S w pl (.node ll kl vl lr)) (hrr : IsT S w pr r) (hS : ∀ c, S c → c ≠ bn) (hs : ll.count + lr.count + r.count ≤ 800000) :
    Calls Tryz.prog 166 #[.pointer (some ⟨bn, 0, none⟩), .int .i64 0] w (TreePost (fun c => S c ∨ c = bn ∨ w.heap.size ≤ c) (fun c => c = bn) ((T.node ll kl vl lr).list ++ (k, v) :: r.list) w) := by
  obtain ⟨bl, pa, pb, rfl, hSl, hrl, hla, hlb⟩ := hl
  obtain ⟨c0, c1, c2, c3, c4⟩ := hr.cells
  obtain ⟨d0, d1, d2, d3, d4⟩ := hrl.cells
  obtain ⟨sl, hsl⟩ : ∃ sl : Int, ((ll.count + 1 + lr.count : Nat) : Int) = sl := ⟨_, rfl⟩
  rw [hsl] at d2
  have hbn := hr.lt
  have hbl := hrl.lt
  have hw1 : IntKind.i64.wrap 1 = 1 := by decide
  have hw0 : IntKind.i64.wrap 0 = 0 := by decide
  obtain ⟨w1, hw⟩ : ∃ w1, w.alloc (.cells #[.int .i64 kl, .int .i64 vl, .int .i64 sl, .pointer pa, .pointer pb] 191) = w1 := ⟨_, rfl⟩
  have hz1 : w1.heap.size = w.heap.size + 1 := by rw [← hw]; simp
  have own1 : Raw w1 w.heap.size kl vl sl pa pb := by rw [← hw]; exact heap_new _ rfl
  have t01 : Turned (fun _ => False) w w1 := by rw [← hw]; exact Turned.alloc _ _ _
  have tt : ∀ {p : Option Addr} {t : T Int Int}, IsT S w p t → IsT (fun c => S c ∧ c < w.heap.size) w1 p t := fun h => h.below_size.turned t01 (fun _ _ _ h => h)
  have ia := tt hla
  have ib := tt hlb
  have io := tt hrr
  have rn := hr.turned t01 id
  obtain ⟨e0, e1, e2, e3, e4⟩ := own1.cells
  obtain ⟨mi, hmi⟩ : ∃ mi : Nat, lr.count = mi := ⟨_, rfl⟩
  obtain ⟨mo, hmo⟩ : ∃ mo : Nat, ll.count = mo := ⟨_, rfl⟩
  have HWi := Lib.hid (fun n => weight_any (ib.drawn n) (by omega))
  have HWo := Lib.hid (fun n => weight_any (ia.drawn n) (by omega))
  rw [hmi] at HWi
  rw [hmo] at HWo
  have hmi1 : mi ≤ 800000 := by omega
  have hmo1 : mo ≤ 800000 := by omega
  have hwr1 : IntKind.i64.wrap (2 * ((mo : Int) + 1)) = 2 * ((mo : Int) + 1) := IntWalk.i64_in _ (by omega)
  have HWR := Lib.hid hwr1
  have HR := Lib.hid rn
  have HO := Lib.hid own1
  have HIA := Lib.hid ia
  have HIB := Lib.hid ib
  have HIO := Lib.hid io
  have HT1 := Lib.hid t01
  have HZ1 := Lib.hid hz1
  have HS' := Lib.hid hS
  have HMI := Lib.hid hmi
  have HMO := Lib.hid hmo
  have HSs := Lib.hid hs
  have HWw := Lib.hid hw
  have HBl := Lib.hid hbn
  clear hr hla hlb hrr hrl tt ia ib io rn own1 t01 hz1 hS hsl hSl hbl hmi hmo hs e0 e1 e2 e3 e4 hw hwr1 hbn
  by_cases hq : 2 * ((mo : Int) + 1) ≤ (mi : Int) + 1
  · have hqb : decide (2 * ((mo : Int) + 1) ≤ (mi : Int) + 1) = true := by simpa using hq
    have HQ := Lib.hid hq
    clear hq
    go_enter Tryz.func166, Tryz.ntmps166
    go_wp2
    rw [HWw.out]
    obtain ⟨e0, e1, e2, e3, e4⟩ := HO.out.cells
    have hwr := HWR.out
    clear c0 c1 c2 c3 c4 d0 d1 d2 d3 d4
    go_quiet ((first | (go_at_call 165; exact Calls.quiet_of_same ((HWi.out _).mono (fun e w' h => ⟨h.1, h.2.symm⟩))) | (go_at_call 165; exact Calls.quiet_of_same ((HWo.out _).mono (fun e w' h => ⟨h.1, h.2.symm⟩)))))
    have t12 : Turned (fun _ => False) w1 (w1.drewN nq) := Turned.drewN _ _ _
    revert t12
    generalize w1.drewN nq = w2
    intro t12
    have HQ' := HQ.out
    have hcase : ∃ (tl tr : T Int Int) (k3 v3 : Int), lr = .node tl k3 v3 tr := by
      cases hh : lr with
      | nil => have := HMI.out; rw [hh] at this; simp [T.count] at this; omega
      | node tl k3 v3 tr => exact ⟨tl, tr, k3, v3, rfl⟩
    obtain ⟨tl, tr, k3, v3, rfl⟩ := hcase
    obtain ⟨b3, pc, pd, rfl, hS3, hr3, hc3, hd3⟩ := (HIB.out.turned t12 (fun _ _ _ h => h))
    obtain ⟨s3, hs3⟩ : ∃ s3 : Int, ((tl.count + 1 + tr.count : Nat) : Int) = s3 := ⟨_, rfl⟩
    rw [hs3] at hr3
    obtain ⟨g0, g1, g2, g3, g4⟩ := hr3.cells
    have hz2 := t12.size
    have hz1 := HZ1.out
    have ow2 := HO.out.turned t12 id
    obtain ⟨e0, e1, e2, e3, e4⟩ := ow2.cells
    have hb2 : w.heap.size < w2.heap.size := ow2.lt
    obtain ⟨w3, hw3⟩ : ∃ w3, w2.alloc (.cells #[.int .i64 k3, .int .i64 v3, .int .i64 s3, .pointer pc, .pointer pd] 191) = w3 := ⟨_, rfl⟩
    have own2 : Raw w3 w2.heap.size k3 v3 s3 pc pd := by rw [← hw3]; exact heap_new _ rfl
    have t23 : Turned (fun _ => False) w2 w3 := by rw [← hw3]; exact Turned.alloc _ _ _
    have own1 := ow2.turned t23 id
    have tt : ∀ {p : Option Addr} {t : T Int Int}, IsT (fun c => S c ∧ c < w.heap.size) w2 p t → IsT (fun c => S c ∧ c < w.heap.size) w3 p t := fun h => h.turned t23 (fun _ _ _ h => h)
    have t13 := t12.trans t23
    have io3 := HIO.out.turned t13 (fun _ _ _ h => h)
    have ia3 := HIA.out.turned t13 (fun _ _ _ h => h)
    have rn3 := HR.out.turned t13 id
    have hcnt : tl.count + 1 + tr.count + ll.count + r.count ≤ 800000 := by have := HSs.out; simp only [T.count] at this; omega
    have HA := Lib.hid (over0_any (w := w3) (bu := w2.heap.size) (bn := w.heap.size) own2 own1 (by omega) (tt hc3) (tt hd3) ia3 (fun c hc => ⟨by omega, by omega⟩) (by omega))
    have HW3 := Lib.hid hw3
    have HT03 := Lib.hid (HT1.out.trans t13)
    have HIO3 := Lib.hid io3
    have HR3 := Lib.hid rn3
    have HZ3 := Lib.hid t23.size
    have HCN := Lib.hid hcnt
    have HB2 := Lib.hid hb2
    clear t12 HQ' hS3 hr3 hc3 hd3 hs3 hz2 hz1 ow2 hb2 own2 t23 own1 tt t13 io3 ia3 rn3 hcnt hw3
    go_wp2_with fail
    rw [HW3.out]
    refine HA.out.mono ?_
    rintro e w4 ⟨rfl, t4, u4, low4, side4⟩
    have hb := HB2.out
    have hbn := HBl.out
    have hz3 := HZ3.out
    have cn := HCN.out
    have rn4 := HR3.out.turned t4 (fun e => by rcases e with e | e <;> omega)
    have io4 := HIO3.out.turned t4 (fun c _ hc e => by rcases e with e | e <;> omega)
    have HBB := Lib.hid (over1_any (S := fun c => (S c ∧ c < w.heap.size) ∨ c = w.heap.size) (w := w4) (bu := w2.heap.size) (bn := bn) u4 rn4 (by omega) (low4.mono (fun _ _ h => h)) (side4.mono (fun _ _ h => .inl h)) (io4.mono (fun _ _ h => .inl h)) (fun c hc => by rcases hc with hc | hc; (exact ⟨by omega, HS'.out c hc.1⟩); (exact ⟨by omega, by omega⟩)) (by simp only [T.count]; omega))
    have HT4 := Lib.hid (HT03.out.step t4 (R' := fun i => i = w2.heap.size ∨ i = w.heap.size) (fun i hi e => by rcases e with e | e <;> omega))
    clear t4 u4 low4 side4 rn4 io4 hb hbn hz3 cn
    go_wp2_with fail
    refine HBB.out.mono ?_
    rintro e w5 ⟨rfl, t5, u5, low5, side5⟩
    have hb := HB2.out
    have END : TreePost (fun c => S c ∨ c = bn ∨ w.heap.size ≤ c) (fun c => c = bn) ((T.node ll kl vl (.node tl k3 v3 tr)).list ++ (k, v) :: r.list) w (.returned (.pointer (some ⟨w2.heap.size, 0, none⟩))) w5 := by
      refine ⟨_, .node (.node ll kl vl tl) k3 v3 (.node tr k v r), rfl, IsT.node (.inr (.inr (Nat.le_of_lt hb))) u5 (side5.mono (fun c _ hc => by rcases hc with hc | hc; exact .inl hc.1; (exact .inr (.inr (by omega))))) (low5.mono (fun c _ hc => by rcases hc with (hc | hc) | hc; exact .inl hc.1; (exact .inr (.inr (by omega))); exact .inr (.inl hc))), by simp [T.list, List.append_assoc], ?_⟩
      exact (HT4.out.weak (fun _ _ h => h.elim)).step t5 (fun i hi e => by rcases e with e | e; omega; exact e)
    have HEND := Lib.hid END
    clear END t5 u5 low5 side5
    go_wp2
    go_ret
    exact HEND.out
  · have hqb : decide (2 * ((mo : Int) + 1) ≤ (mi : Int) + 1) = false := by simpa using hq
    have HQ := Lib.hid hq
    clear hq
    go_enter Tryz.func166, Tryz.ntmps166
    go_wp2
    rw [HWw.out]
    obtain ⟨e0, e1, e2, e3, e4⟩ := HO.out.cells
    have hwr := HWR.out
    clear c0 c1 c2 c3 c4 d0 d1 d2 d3 d4
    go_quiet ((first | (go_at_call 165; exact Calls.quiet_of_same ((HWi.out _).mono (fun e w' h => ⟨h.1, h.2.symm⟩))) | (go_at_call 165; exact Calls.quiet_of_same ((HWo.out _).mono (fun e w' h => ⟨h.1, h.2.symm⟩)))))
    have t12 : Turned (fun _ => False) w1 (w1.drewN nq) := Turned.drewN _ _ _
    revert t12
    generalize w1.drewN nq = w2
    intro t12
    have hz2 := t12.size
    have hbn := HBl.out
    have ow2 := HO.out.turned t12 id
    have rn2 := HR.out.turned t12 id
    have tt : ∀ {p : Option Addr} {t : T Int Int}, IsT (fun c => S c ∧ c < w.heap.size) w1 p t → IsT (fun c => S c ∧ c < w.heap.size) w2 p t := fun h => h.turned t12 (fun _ _ _ h => h)
    have HBB := Lib.hid (over1_any (w := w2) (bu := w.heap.size) (bn := bn) ow2 rn2 (by omega) (tt HIA.out) (tt HIB.out) (tt HIO.out) (fun c hc => ⟨by omega, HS'.out c hc.1⟩) (by have := HSs.out; omega))
    have HT2 := Lib.hid (HT1.out.trans t12)
    clear t12 hz2 hbn ow2 rn2 tt e0 e1 e2 e3 e4
    go_wp2_with fail
    refine HBB.out.mono ?_
    rintro e w5 ⟨rfl, t5, u5, low5, side5⟩
    have END : TreePost (fun c => S c ∨ c = bn ∨ w.heap.size ≤ c) (fun c => c = bn) ((T.node ll kl vl lr).list ++ (k, v) :: r.list) w (.returned (.pointer (some ⟨w.heap.size, 0, none⟩))) w5 := by
      refine ⟨_, .node ll kl vl (.node lr k v r), rfl, IsT.node (.inr (.inr (Nat.le_refl _))) u5 (side5.mono (fun c _ hc => .inl hc.1)) (low5.mono (fun c _ hc => by rcases hc with hc | hc; exact .inl hc.1; exact .inr (.inl hc))), by simp [T.list, List.append_assoc], ?_⟩
      exact (HT2.out.weak (fun _ _ h => h.elim)).step t5 (fun i hi e => by rcases e with e | e; omega; exact e)
    have HEND := Lib.hid END
    clear END t5 u5 low5 side5
    go_wp2
    go_ret
    exact HEND.out

set_option maxRecDepth 100000 in
set_option maxHeartbeats 4000000 in
theorem turned1_any {S : Nat → Prop} {w : World} {bn : Nat} {k v s : Int} {pl pr : Option Addr} {ll lr r : T Int Int} {kl vl : Int} (hr : Raw w bn k v s pl pr) (hl : IsT S w pr (.node ll kl vl lr)) (hrr : IsT S w pl r) (hS : ∀ c, S c → c ≠ bn) (hs : ll.count + lr.count + r.count ≤ 800000) :
    Calls Tryz.prog 166 #[.pointer (some ⟨bn, 0, none⟩), .int .i64 1] w (TreePost (fun c => S c ∨ c = bn ∨ w.heap.size ≤ c) (fun c => c = bn) (r.list ++ (k, v) :: (T.node ll kl vl lr).list) w) := by
  obtain ⟨bl, pa, pb, rfl, hSl, hrl, hla, hlb⟩ := hl
  obtain ⟨c0, c1, c2, c3, c4⟩ := hr.cells
  obtain ⟨d0, d1, d2, d3, d4⟩ := hrl.cells
  obtain ⟨sl, hsl⟩ : ∃ sl : Int, ((ll.count + 1 + lr.count : Nat) : Int) = sl := ⟨_, rfl⟩
  rw [hsl] at d2
  have hbn := hr.lt
  have hbl := hrl.lt
  have hw1 : IntKind.i64.wrap 1 = 1 := by decide
  have hw0 : IntKind.i64.wrap 0 = 0 := by decide
  obtain ⟨w1, hw⟩ : ∃ w1, w.alloc (.cells #[.int .i64 kl, .int .i64 vl, .int .i64 sl, .pointer pa, .pointer pb] 191) = w1 := ⟨_, rfl⟩
  have hz1 : w1.heap.size = w.heap.size + 1 := by rw [← hw]; simp
  have own1 : Raw w1 w.heap.size kl vl sl pa pb := by rw [← hw]; exact heap_new _ rfl
  have t01 : Turned (fun _ => False) w w1 := by rw [← hw]; exact Turned.alloc _ _ _
  have tt : ∀ {p : Option Addr} {t : T Int Int}, IsT S w p t → IsT (fun c => S c ∧ c < w.heap.size) w1 p t := fun h => h.below_size.turned t01 (fun _ _ _ h => h)
  have ia := tt hla
  have ib := tt hlb
  have io := tt hrr
  have rn := hr.turned t01 id
  obtain ⟨e0, e1, e2, e3, e4⟩ := own1.cells
  obtain ⟨mi, hmi⟩ : ∃ mi : Nat, ll.count = mi := ⟨_, rfl⟩
  obtain ⟨mo, hmo⟩ : ∃ mo : Nat, lr.count = mo := ⟨_, rfl⟩
  have HWi := Lib.hid (fun n => weight_any (ia.drawn n) (by omega))
  have HWo := Lib.hid (fun n => weight_any (ib.drawn n) (by omega))
  rw [hmi] at HWi
  rw [hmo] at HWo
  have hmi1 : mi ≤ 800000 := by omega
  have hmo1 : mo ≤ 800000 := by omega
  have hwr1 : IntKind.i64.wrap (2 * ((mo : Int) + 1)) = 2 * ((mo : Int) + 1) := IntWalk.i64_in _ (by omega)
  have HWR := Lib.hid hwr1
  have HR := Lib.hid rn
  have HO := Lib.hid own1
  have HIA := Lib.hid ia
  have HIB := Lib.hid ib
  have HIO := Lib.hid io
  have HT1 := Lib.hid t01
  have HZ1 := Lib.hid hz1
  have HS' := Lib.hid hS
  have HMI := Lib.hid hmi
  have HMO := Lib.hid hmo
  have HSs := Lib.hid hs
  have HWw := Lib.hid hw
  have HBl := Lib.hid hbn
  clear hr hla hlb hrr hrl tt ia ib io rn own1 t01 hz1 hS hsl hSl hbl hmi hmo hs e0 e1 e2 e3 e4 hw hwr1 hbn
  by_cases hq : 2 * ((mo : Int) + 1) ≤ (mi : Int) + 1
  · have hqb : decide (2 * ((mo : Int) + 1) ≤ (mi : Int) + 1) = true := by simpa using hq
    have HQ := Lib.hid hq
    clear hq
    go_enter Tryz.func166, Tryz.ntmps166
    go_wp2
    rw [HWw.out]
    obtain ⟨e0, e1, e2, e3, e4⟩ := HO.out.cells
    have hwr := HWR.out
    clear c0 c1 c2 c3 c4 d0 d1 d2 d3 d4
    go_quiet ((first | (go_at_call 165; exact Calls.quiet_of_same ((HWi.out _).mono (fun e w' h => ⟨h.1, h.2.symm⟩))) | (go_at_call 165; exact Calls.quiet_of_same ((HWo.out _).mono (fun e w' h => ⟨h.1, h.2.symm⟩)))))
    have t12 : Turned (fun _ => False) w1 (w1.drewN nq) := Turned.drewN _ _ _
    revert t12
    generalize w1.drewN nq = w2
    intro t12
    have HQ' := HQ.out
    have hcase : ∃ (tl tr : T Int Int) (k3 v3 : Int), ll = .node tl k3 v3 tr := by
      cases hh : ll with
      | nil => have := HMI.out; rw [hh] at this; simp [T.count] at this; omega
      | node tl k3 v3 tr => exact ⟨tl, tr, k3, v3, rfl⟩
    obtain ⟨tl, tr, k3, v3, rfl⟩ := hcase
    obtain ⟨b3, pc, pd, rfl, hS3, hr3, hc3, hd3⟩ := (HIA.out.turned t12 (fun _ _ _ h => h))
    obtain ⟨s3, hs3⟩ : ∃ s3 : Int, ((tl.count + 1 + tr.count : Nat) : Int) = s3 := ⟨_, rfl⟩
    rw [hs3] at hr3
    obtain ⟨g0, g1, g2, g3, g4⟩ := hr3.cells
    have hz2 := t12.size
    have hz1 := HZ1.out
    have ow2 := HO.out.turned t12 id
    obtain ⟨e0, e1, e2, e3, e4⟩ := ow2.cells
    have hb2 : w.heap.size < w2.heap.size := ow2.lt
    obtain ⟨w3, hw3⟩ : ∃ w3, w2.alloc (.cells #[.int .i64 k3, .int .i64 v3, .int .i64 s3, .pointer pc, .pointer pd] 191) = w3 := ⟨_, rfl⟩
    have own2 : Raw w3 w2.heap.size k3 v3 s3 pc pd := by rw [← hw3]; exact heap_new _ rfl
    have t23 : Turned (fun _ => False) w2 w3 := by rw [← hw3]; exact Turned.alloc _ _ _
    have own1 := ow2.turned t23 id
    have tt : ∀ {p : Option Addr} {t : T Int Int}, IsT (fun c => S c ∧ c < w.heap.size) w2 p t → IsT (fun c => S c ∧ c < w.heap.size) w3 p t := fun h => h.turned t23 (fun _ _ _ h => h)
    have t13 := t12.trans t23
    have io3 := HIO.out.turned t13 (fun _ _ _ h => h)
    have ib3 := HIB.out.turned t13 (fun _ _ _ h => h)
    have rn3 := HR.out.turned t13 id
    have hcnt : tl.count + 1 + tr.count + lr.count + r.count ≤ 800000 := by have := HSs.out; simp only [T.count] at this; omega
    have HA := Lib.hid (over1_any (w := w3) (bu := w2.heap.size) (bn := w.heap.size) own2 own1 (by omega) (tt hc3) (tt hd3) ib3 (fun c hc => ⟨by omega, by omega⟩) (by omega))
    have HW3 := Lib.hid hw3
    have HT03 := Lib.hid (HT1.out.trans t13)
    have HIO3 := Lib.hid io3
    have HR3 := Lib.hid rn3
    have HZ3 := Lib.hid t23.size
    have HCN := Lib.hid hcnt
    have HB2 := Lib.hid hb2
    clear t12 HQ' hS3 hr3 hc3 hd3 hs3 hz2 hz1 ow2 hb2 own2 t23 own1 tt t13 io3 ib3 rn3 hcnt hw3
    go_wp2_with fail
    rw [HW3.out]
    refine HA.out.mono ?_
    rintro e w4 ⟨rfl, t4, u4, low4, side4⟩
    have hb := HB2.out
    have hbn := HBl.out
    have hz3 := HZ3.out
    have cn := HCN.out
    have rn4 := HR3.out.turned t4 (fun e => by rcases e with e | e <;> omega)
    have io4 := HIO3.out.turned t4 (fun c _ hc e => by rcases e with e | e <;> omega)
    have HBB := Lib.hid (over0_any (S := fun c => (S c ∧ c < w.heap.size) ∨ c = w.heap.size) (w := w4) (bu := w2.heap.size) (bn := bn) u4 rn4 (by omega) (side4.mono (fun _ _ h => .inl h)) (low4.mono (fun _ _ h => h)) (io4.mono (fun _ _ h => .inl h)) (fun c hc => by rcases hc with hc | hc; (exact ⟨by omega, HS'.out c hc.1⟩); (exact ⟨by omega, by omega⟩)) (by simp only [T.count]; omega))
    have HT4 := Lib.hid (HT03.out.step t4 (R' := fun i => i = w2.heap.size ∨ i = w.heap.size) (fun i hi e => by rcases e with e | e <;> omega))
    clear t4 u4 low4 side4 rn4 io4 hb hbn hz3 cn
    go_wp2_with fail
    refine HBB.out.mono ?_
    rintro e w5 ⟨rfl, t5, u5, low5, side5⟩
    have hb := HB2.out
    have END : TreePost (fun c => S c ∨ c = bn ∨ w.heap.size ≤ c) (fun c => c = bn) (r.list ++ (k, v) :: (T.node (.node tl k3 v3 tr) kl vl lr).list) w (.returned (.pointer (some ⟨w2.heap.size, 0, none⟩))) w5 := by
      refine ⟨_, .node (.node r k v tl) k3 v3 (.node tr kl vl lr), rfl, IsT.node (.inr (.inr (Nat.le_of_lt hb))) u5 (low5.mono (fun c _ hc => by rcases hc with (hc | hc) | hc; exact .inl hc.1; (exact .inr (.inr (by omega))); exact .inr (.inl hc))) (side5.mono (fun c _ hc => by rcases hc with hc | hc; exact .inl hc.1; (exact .inr (.inr (by omega))))), by simp [T.list, List.append_assoc], ?_⟩
      exact (HT4.out.weak (fun _ _ h => h.elim)).step t5 (fun i hi e => by rcases e with e | e; omega; exact e)
    have HEND := Lib.hid END
    clear END t5 u5 low5 side5
    go_wp2
    go_ret
    exact HEND.out
  · have hqb : decide (2 * ((mo : Int) + 1) ≤ (mi : Int) + 1) = false := by simpa using hq
    have HQ := Lib.hid hq
    clear hq
    go_enter Tryz.func166, Tryz.ntmps166
    go_wp2
    rw [HWw.out]
    obtain ⟨e0, e1, e2, e3, e4⟩ := HO.out.cells
    have hwr := HWR.out
    clear c0 c1 c2 c3 c4 d0 d1 d2 d3 d4
    go_quiet ((first | (go_at_call 165; exact Calls.quiet_of_same ((HWi.out _).mono (fun e w' h => ⟨h.1, h.2.symm⟩))) | (go_at_call 165; exact Calls.quiet_of_same ((HWo.out _).mono (fun e w' h => ⟨h.1, h.2.symm⟩)))))
    have t12 : Turned (fun _ => False) w1 (w1.drewN nq) := Turned.drewN _ _ _
    revert t12
    generalize w1.drewN nq = w2
    intro t12
    have hz2 := t12.size
    have hbn := HBl.out
    have ow2 := HO.out.turned t12 id
    have rn2 := HR.out.turned t12 id
    have tt : ∀ {p : Option Addr} {t : T Int Int}, IsT (fun c => S c ∧ c < w.heap.size) w1 p t → IsT (fun c => S c ∧ c < w.heap.size) w2 p t := fun h => h.turned t12 (fun _ _ _ h => h)
    have HBB := Lib.hid (over0_any (w := w2) (bu := w.heap.size) (bn := bn) ow2 rn2 (by omega) (tt HIA.out) (tt HIB.out) (tt HIO.out) (fun c hc => ⟨by omega, HS'.out c hc.1⟩) (by have := HSs.out; omega))
    have HT2 := Lib.hid (HT1.out.trans t12)
    clear t12 hz2 hbn ow2 rn2 tt e0 e1 e2 e3 e4
    go_wp2_with fail
    refine HBB.out.mono ?_
    rintro e w5 ⟨rfl, t5, u5, low5, side5⟩
    have END : TreePost (fun c => S c ∨ c = bn ∨ w.heap.size ≤ c) (fun c => c = bn) (r.list ++ (k, v) :: (T.node ll kl vl lr).list) w (.returned (.pointer (some ⟨w.heap.size, 0, none⟩))) w5 := by
      refine ⟨_, .node (.node r k v ll) kl vl lr, rfl, IsT.node (.inr (.inr (Nat.le_refl _))) u5 (low5.mono (fun c _ hc => by rcases hc with hc | hc; exact .inl hc.1; exact .inr (.inl hc))) (side5.mono (fun c _ hc => .inl hc.1)), by simp [T.list, List.append_assoc], ?_⟩
      exact (HT2.out.weak (fun _ _ h => h.elim)).step t5 (fun i hi e => by rcases e with e | e; omega; exact e)
    have HEND := Lib.hid END
    clear END t5 u5 low5 side5
    go_wp2
    go_ret
    exact HEND.out
end Go.Proofs.YtjcmeacgfflfmaaGreat

namespace Go.Proofs.YtjcmeacgfflfmaaGreat
open Go.RowKit Rk

theorem TreePost.from {S S' R : Nat → Prop} {L : List (Int × Int)} {w w0 : World} {e : Ending} {w' : World} (h : TreePost S R L w0 e w') (ht : Turned (fun _ => False) w w0) (hS : ∀ c, S c → S' c) : TreePost S' R L w e w' := by
  obtain ⟨p, t, h1, h2, h3, h4⟩ := h
  exact ⟨p, t, h1, h2.mono (fun c _ hc => hS c hc), h3, (ht.weak (fun _ _ h => h.elim)).trans h4⟩
theorem count_node {t : T Int Int} (h : 1 ≤ t.count) : ∃ l k v r, t = .node l k v r := by
  cases t with
  | nil => simp [T.count] at h
  | node l k v r => exact ⟨l, k, v, r, rfl⟩

set_option maxRecDepth 100000 in
set_option maxHeartbeats 4000000 in
theorem even_any {S : Nat → Prop} {w : World} {bn : Nat} {k v s : Int} {pl pr : Option Addr} {l r : T Int Int} (hr : Raw w bn k v s pl pr) (hl : IsT S w pl l) (hrr : IsT S w pr r) (hS : ∀ c, S c → c ≠ bn) (hs : l.count + r.count ≤ 700000) :
    Calls Tryz.prog 149 #[.pointer (some ⟨bn, 0, none⟩)] w (TreePost (fun c => S c ∨ c = bn ∨ w.heap.size ≤ c) (fun c => c = bn) (l.list ++ (k, v) :: r.list) w) := by
  obtain ⟨c0, c1, c2, c3, c4⟩ := hr.cells
  have hw1 : IntKind.i64.wrap 1 = 1 := by decide
  have hw0 : IntKind.i64.wrap 0 = 0 := by decide
  obtain ⟨ml, hml⟩ : ∃ ml : Nat, l.count = ml := ⟨_, rfl⟩
  obtain ⟨mr, hmr⟩ : ∃ mr : Nat, r.count = mr := ⟨_, rfl⟩
  have HWl := Lib.hid (fun n => weight_any (hl.drawn n) (by omega))
  have HWr := Lib.hid (fun n => weight_any (hrr.drawn n) (by omega))
  rw [hml] at HWl
  rw [hmr] at HWr
  have hb1 : ml ≤ 700000 := by omega
  have hb2 : mr ≤ 700000 := by omega
  have hwr1 : IntKind.i64.wrap (3 * ((ml : Int) + 1)) = 3 * ((ml : Int) + 1) := IntWalk.i64_in _ (by omega)
  have hwr2 : IntKind.i64.wrap (3 * ((mr : Int) + 1)) = 3 * ((mr : Int) + 1) := IntWalk.i64_in _ (by omega)
  have HR := Lib.hid hr
  have HL := Lib.hid hl
  have HRR := Lib.hid hrr
  have HS := Lib.hid hS
  have HML := Lib.hid hml
  have HMR := Lib.hid hmr
  have HSS := Lib.hid hs
  clear hr hl hrr hS hml hmr hs
  by_cases h0 : 3 * ((mr : Int) + 1) < (ml : Int) + 1
  · have hd : decide (3 * ((mr : Int) + 1) < (ml : Int) + 1) = true := by simpa using h0
    have hn0 : 1 ≤ ml := by omega
    have H0 := Lib.hid h0
    clear h0
    go_enter Tryz.func149, Tryz.ntmps149
    go_wp2
    refine wp_loop_rounds 3 ?_
    rw [rounds_succ]
    go_wp2
    go_quiet ((first | (go_at_call 165; exact Calls.quiet_of_same ((HWl.out _).mono (fun e w' h => ⟨h.1, h.2.symm⟩))) | (go_at_call 165; exact Calls.quiet_of_same ((HWr.out _).mono (fun e w' h => ⟨h.1, h.2.symm⟩)))))
    have t1 : Turned (fun _ => False) w (w.drewN nq) := Turned.drewN _ _ _
    have hz : (w.drewN nq).heap.size = w.heap.size := rfl
    revert t1 hz
    generalize w.drewN nq = w1
    intro t1 hz
    obtain ⟨ll, kl, vl, lr, rfl⟩ := count_node (t := l) (by rw [HML.out]; exact hn0)
    have hcn : ll.count + lr.count + r.count ≤ 800000 := by have := HSS.out; simp only [T.count] at this; omega
    have HT := Lib.hid ((turned0_any (HR.out.turned t1 id) (HL.out.turned t1 (fun _ _ _ h => h)) (HRR.out.turned t1 (fun _ _ _ h => h)) HS.out hcn).mono (fun e w' h => TreePost.from h t1 (fun c hc => by rw [hz] at hc; exact hc)))
    clear t1 hz hcn
    go_wp2_with fail
    refine HT.out.mono ?_
    rintro e w5 hP
    obtain ⟨p, t, rfl, h2, h3, h4⟩ := hP
    have HEND := Lib.hid (show TreePost _ _ _ w (.returned (.pointer p)) w5 from ⟨p, t, rfl, h2, h3, h4⟩)
    clear h2 h3 h4
    go_wp2
    go_ret
    exact HEND.out
  · have hd : decide (3 * ((mr : Int) + 1) < (ml : Int) + 1) = false := by simpa using h0
    have H0 := Lib.hid h0
    clear h0
    go_enter Tryz.func149, Tryz.ntmps149
    go_wp2
    refine wp_loop_rounds 3 ?_
    rw [rounds_succ]
    go_wp2
    go_quiet ((first | (go_at_call 165; exact Calls.quiet_of_same ((HWl.out _).mono (fun e w' h => ⟨h.1, h.2.symm⟩))) | (go_at_call 165; exact Calls.quiet_of_same ((HWr.out _).mono (fun e w' h => ⟨h.1, h.2.symm⟩)))))
    have t1 : Turned (fun _ => False) w (w.drewN nq) := Turned.drewN _ _ _
    have hz : (w.drewN nq).heap.size = w.heap.size := rfl
    revert t1 hz
    generalize w.drewN nq = w1
    intro t1 hz
    have r1 := HR.out.turned t1 id
    have l1 := HL.out.turned t1 (fun _ _ _ h => h)
    have rr1 := HRR.out.turned t1 (fun _ _ _ h => h)
    clear HWl HWr c0 c1 c2 c3 c4
    obtain ⟨c0, c1, c2, c3, c4⟩ := r1.cells
    have HWl := Lib.hid (fun n => weight_any (l1.drawn n) (by rw [HML.out]; omega))
    have HWr := Lib.hid (fun n => weight_any (rr1.drawn n) (by rw [HMR.out]; omega))
    rw [HML.out] at HWl
    rw [HMR.out] at HWr
    have R1 := Lib.hid r1
    have L1 := Lib.hid l1
    have RR1 := Lib.hid rr1
    have T1 := Lib.hid t1
    have HZ := Lib.hid hz
    clear r1 l1 rr1 t1 hz
    go_wp2
    rw [rounds_succ]
    go_wp2
    by_cases h1 : 3 * ((ml : Int) + 1) < (mr : Int) + 1
    · have hd1 : decide (3 * ((ml : Int) + 1) < (mr : Int) + 1) = true := by simpa using h1
      have hn0 : 1 ≤ mr := by omega
      have H1 := Lib.hid h1
      clear h1
      go_quiet ((first | (go_at_call 165; exact Calls.quiet_of_same ((HWl.out _).mono (fun e w' h => ⟨h.1, h.2.symm⟩))) | (go_at_call 165; exact Calls.quiet_of_same ((HWr.out _).mono (fun e w' h => ⟨h.1, h.2.symm⟩)))))
      have t2 : Turned (fun _ => False) w1 (w1.drewN nq) := Turned.drewN _ _ _
      have hz : (w1.drewN nq).heap.size = w1.heap.size := rfl
      revert t2 hz
      generalize w1.drewN nq = w2
      intro t2 hz
      obtain ⟨rl, kr, vr, rr, rfl⟩ := count_node (t := r) (by rw [HMR.out]; exact hn0)
      have hcn : rl.count + rr.count + l.count ≤ 800000 := by have := HSS.out; simp only [T.count] at this; omega
      have hzz : w2.heap.size = w.heap.size := hz.trans HZ.out
      have HT := Lib.hid ((turned1_any (R1.out.turned t2 id) (RR1.out.turned t2 (fun _ _ _ h => h)) (L1.out.turned t2 (fun _ _ _ h => h)) HS.out hcn).mono (fun e w' h => TreePost.from (S' := fun c => S c ∨ c = bn ∨ w.heap.size ≤ c) h (T1.out.trans t2) (fun c hc => by rw [hzz] at hc; exact hc)))
      clear t2 hz hcn hzz
      go_wp2_with fail
      refine HT.out.mono ?_
      rintro e w5 hP
      obtain ⟨p, t, rfl, h2, h3, h4⟩ := hP
      have HEND := Lib.hid (show TreePost _ _ _ w (.returned (.pointer p)) w5 from ⟨p, t, rfl, h2, h3, h4⟩)
      clear h2 h3 h4
      go_wp2
      go_ret
      exact HEND.out
    · have hd1 : decide (3 * ((ml : Int) + 1) < (mr : Int) + 1) = false := by simpa using h1
      have H1 := Lib.hid h1
      clear h1
      go_quiet ((first | (go_at_call 165; exact Calls.quiet_of_same ((HWl.out _).mono (fun e w' h => ⟨h.1, h.2.symm⟩))) | (go_at_call 165; exact Calls.quiet_of_same ((HWr.out _).mono (fun e w' h => ⟨h.1, h.2.symm⟩)))))
      have t2 : Turned (fun _ => False) w1 (w1.drewN nq) := Turned.drewN _ _ _
      have hz : (w1.drewN nq).heap.size = w1.heap.size := rfl
      revert t2 hz
      generalize w1.drewN nq = w2
      intro t2 hz
      have l2 := L1.out.turned t2 (fun _ _ _ h => h)
      have rr2 := RR1.out.turned t2 (fun _ _ _ h => h)
      have HC := Lib.hid (counted_any (R1.out.turned t2 id) l2 rr2 (by have := HSS.out; omega))
      have L2 := Lib.hid l2
      have RR2 := Lib.hid rr2
      have T2 := Lib.hid (T1.out.trans t2)
      clear l2 rr2 t2 hz c0 c1 c2 c3 c4
      go_wp2
      rw [rounds_succ]
      go_wp2_with fail
      refine HC.out.mono ?_
      rintro e w5 ⟨rfl, t5, r5⟩
      have END : TreePost (fun c => S c ∨ c = bn ∨ w.heap.size ≤ c) (fun c => c = bn) (l.list ++ (k, v) :: r.list) w (.returned (.pointer (some ⟨bn, 0, none⟩))) w5 :=
        ⟨_, .node l k v r, rfl, IsT.node (.inr (.inl rfl)) r5 ((L2.out.turned t5 (fun c _ hc e => HS.out c hc e)).mono (fun _ _ h => .inl h)) ((RR2.out.turned t5 (fun c _ hc e => HS.out c hc e)).mono (fun _ _ h => .inl h)), rfl, (T2.out.weak (fun _ _ h => h.elim)).trans t5⟩
      have HEND := Lib.hid END
      clear END t5 r5
      go_wp2
      go_ret
      exact HEND.out
end Go.Proofs.YtjcmeacgfflfmaaGreat

namespace Go.Proofs.YtjcmeacgfflfmaaGreat
open Go.RowKit Rk

theorem cmp_lt {a b : Int} (h : ltI a b = true) (w : World) : Calls Tryz.prog 130 #[.int .i64 a, .int .i64 b] w fun e w' => e = .returned (.int .i64 (-1)) ∧ w = w' :=
  (cmp_any a b w).mono fun e w' h' => ⟨by rw [h'.1, cmpI, if_pos h], h'.2⟩
theorem cmp_gt {a b : Int} (h : ltI b a = true) (w : World) : Calls Tryz.prog 130 #[.int .i64 a, .int .i64 b] w fun e w' => e = .returned (.int .i64 1) ∧ w = w' :=
  (cmp_any a b w).mono fun e w' h' => ⟨by rw [h'.1, cmpI, if_neg (by rw [linI.asymm h]; simp), if_pos h], h'.2⟩
theorem cmp_eq (a : Int) (w : World) : Calls Tryz.prog 130 #[.int .i64 a, .int .i64 a] w fun e w' => e = .returned (.int .i64 0) ∧ w = w' :=
  (cmp_any a a w).mono fun e w' h' => ⟨by rw [h'.1, cmpI, if_neg (by rw [linI.irr]; simp), if_neg (by rw [linI.irr]; simp)], h'.2⟩
theorem side_lt (w : World) : Calls Tryz.prog 131 #[.int .i64 (-1)] w fun e w' => e = .returned (.int .i64 0) ∧ w = w' := side_any (-1) w
theorem side_gt (w : World) : Calls Tryz.prog 131 #[.int .i64 1] w fun e w' => e = .returned (.int .i64 1) ∧ w = w' := side_any 1 w

theorem three (a b : Int) : ltI a b = true ∨ ltI b a = true ∨ a = b := by
  cases h : ltI a b with
  | true => exact .inl rfl
  | false =>
    cases h' : ltI b a with
    | true => exact .inr (.inl rfl)
    | false => exact .inr (.inr (linI.tri a b h h'))

/-- What find hands back. -/
def FindPost (k : Int) (L : List (Int × Int)) (w : World) (e : Ending) (w' : World) : Prop :=
  ∃ p, e = .returned (.pointer p) ∧ Turned (fun _ => False) w w' ∧ ((p = none ∧ get ltI k L = none) ∨ ∃ b v s pl pr, p = some ⟨b, 0, none⟩ ∧ get ltI k L = some v ∧ Raw w' b k v s pl pr)

set_option maxRecDepth 100000 in
set_option maxHeartbeats 2000000 in
theorem find_any {S : Nat → Prop} {w : World} {p : Option Addr} {t : T Int Int} (k : Int) (h : IsT S w p t) (hs : Srt ltI t.list) :
    Calls Tryz.prog 94 #[.pointer p, .int .i64 k] w (FindPost k t.list w) := by
  have H := Lib.hid h
  have HS := Lib.hid hs
  clear h hs
  go_enter Tryz.func94, Tryz.ntmps94
  go_wp2
  go_loopg [0] t.count (fun g n wr => ∃ (q : Option Addr) (u : T Int Int), n = .pointer q ∧ g = u.count ∧ Hid (IsT S wr q u) ∧ Hid (Srt ltI u.list) ∧ Hid (get ltI k u.list = get ltI k t.list) ∧ Hid (Turned (fun _ => False) w wr))
  case atStart => exact ⟨p, t, rfl, rfl, H, HS, Lib.hid rfl, Lib.hid (Turned.refl _ _)⟩
  case round =>
    obtain ⟨q, u, rfl, hg, hT, hSr, hG, hW⟩ := hrel
    have HGK := Lib.hid hg
    clear hg
    cases u with
    | nil =>
      obtain rfl : q = none := hT.out
      go_wp2
      go_ret
      exact ⟨none, rfl, hW.out, .inl ⟨rfl, by rw [← hG.out]; rfl⟩⟩
    | node l k' v' r =>
      obtain ⟨b, pl, pr, rfl, hb, hr, hl, hrr⟩ := hT.out
      obtain ⟨s', hs'⟩ : ∃ s' : Int, ((l.count + 1 + r.count : Nat) : Int) = s' := ⟨_, rfl⟩
      rw [hs'] at hr
      obtain ⟨c0, c1, c2, c3, c4⟩ := hr.cells
      have HR := Lib.hid hr
      have HL := Lib.hid hl
      have HRR := Lib.hid hrr
      have hsp := hSr.out
      simp only [T.list] at hsp
      have HSP := Lib.hid hsp
      clear hr hl hrr hsp hs' hb
      rcases three k k' with hlt | hgt | rfl
      · have HLT := Lib.hid hlt
        clear hlt
        have hgl := get_lt linI _ _ _ k HSP.out HLT.out
        have HGL := Lib.hid hgl
        clear hgl
        go_wp2_with (go_at_call 130; refine (cmp_lt HLT.out _).mono ?_; rintro e w' ⟨rfl, rfl⟩)
        go_quiet ((go_at_call 131; exact Calls.quiet_of_same ((side_lt _).mono (fun e w' h => ⟨h.1, h.2.symm⟩))))
        have t1 : Turned (fun _ => False) wr (wr.drewN nq) := Turned.drewN _ _ _
        revert t1
        generalize wr.drewN nq = w1
        intro t1
        have T1 := Lib.hid t1
        clear t1
        go_wp2
        go_roundg l.count
        case measure => rw [HGK.out]; simp only [T.count]; omega
        case rel => exact ⟨pl, l, rfl, rfl, Lib.hid (HL.out.turned T1.out (fun _ _ _ h => h)), Lib.hid HSP.out.split.1, Lib.hid (by rw [← hG.out, T.list]; exact HGL.out.symm), Lib.hid (hW.out.trans T1.out)⟩
      · have HLT := Lib.hid hgt
        clear hgt
        have hgl := get_gt linI _ _ _ k HSP.out HLT.out
        have HGL := Lib.hid hgl
        clear hgl
        go_wp2_with (go_at_call 130; refine (cmp_gt HLT.out _).mono ?_; rintro e w' ⟨rfl, rfl⟩)
        go_quiet ((go_at_call 131; exact Calls.quiet_of_same ((side_gt _).mono (fun e w' h => ⟨h.1, h.2.symm⟩))))
        have t1 : Turned (fun _ => False) wr (wr.drewN nq) := Turned.drewN _ _ _
        revert t1
        generalize wr.drewN nq = w1
        intro t1
        have T1 := Lib.hid t1
        clear t1
        go_wp2
        go_roundg r.count
        case measure => rw [HGK.out]; simp only [T.count]; omega
        case rel => exact ⟨pr, r, rfl, rfl, Lib.hid (HRR.out.turned T1.out (fun _ _ _ h => h)), Lib.hid HSP.out.split.2.1, Lib.hid (by rw [← hG.out, T.list]; exact HGL.out.symm), Lib.hid (hW.out.trans T1.out)⟩
      · have hgl := get_eq linI _ _ _ HSP.out
        have HGL := Lib.hid hgl
        clear hgl
        go_wp2_with (go_at_call 130; refine (cmp_eq k _).mono ?_; rintro e w' ⟨rfl, rfl⟩)
        go_ret
        exact ⟨_, rfl, hW.out, .inr ⟨b, v', s', pl, pr, rfl, by rw [← hG.out, T.list]; exact HGL.out, HR.out⟩⟩

end Go.Proofs.YtjcmeacgfflfmaaGreat

namespace Go.Proofs.YtjcmeacgfflfmaaGreat
open Go.RowKit Rk

theorem entry_nil (w : World) : Calls Tryz.prog 95 #[.pointer none] w fun e w' => e = .returned (.tuple #[.int .i64 0, .int .i64 0, .bool false]) ∧ w = w' := by
  go_enter Tryz.func95, Tryz.ntmps95
  go_wp2
  go_ret3
  exact ⟨rfl, rfl⟩
theorem entry_some {w : World} {b : Nat} {k v s : Int} {pl pr : Option Addr} (hr : Raw w b k v s pl pr) : Calls Tryz.prog 95 #[.pointer (some ⟨b, 0, none⟩)] w fun e w' => e = .returned (.tuple #[.int .i64 k, .int .i64 v, .bool true]) ∧ Turned (fun _ => False) w w' := by
  obtain ⟨c0, c1, c2, c3, c4⟩ := hr.cells
  clear hr
  go_enter Tryz.func95, Tryz.ntmps95
  go_wp2
  go_quiet (fail)
  go_wp2
  go_ret3
  exact ⟨rfl, Turned.drewN _ _ _⟩

set_option maxRecDepth 100000 in
set_option maxHeartbeats 4000000 in
theorem with_any (k v : Int) (t : T Int Int) : ∀ {S : Nat → Prop} {w : World} {p : Option Addr}, IsT S w p t → Srt ltI t.list → t.count ≤ 600000 →
    Calls Tryz.prog 128 #[.pointer p, .int .i64 k, .int .i64 v] w (TreePost (fun c => S c ∨ w.heap.size ≤ c) (fun _ => False) (ins ltI k v t.list) w) := by
  induction t with
  | nil =>
    intro S w p h hs hc
    obtain rfl : p = none := h
    go_enter Tryz.func128, Tryz.ntmps128
    go_wp2
    go_ret
    exact ⟨_, .node .nil k v .nil, rfl, IsT.node (.inr (Nat.le_refl _)) (heap_new _ rfl) rfl rfl, rfl, Turned.alloc _ _ _⟩
  | node l k' v' r ihl ihr =>
    intro S w p h hs hc
    obtain ⟨b, pl, pr, rfl, hSb, hr, hl, hrr⟩ := h
    obtain ⟨s', hs'⟩ : ∃ s' : Int, ((l.count + 1 + r.count : Nat) : Int) = s' := ⟨_, rfl⟩
    rw [hs'] at hr
    have hblt := hr.lt
    obtain ⟨c0, c1, c2, c3, c4⟩ := hr.cells
    have hcn : l.count + 1 + r.count ≤ 600000 := hc
    simp only [T.list] at hs
    obtain ⟨w1, hw⟩ : ∃ w1, w.alloc (.cells #[.int .i64 k', .int .i64 v', .int .i64 s', .pointer pl, .pointer pr] 191) = w1 := ⟨_, rfl⟩
    have hz1 : w1.heap.size = w.heap.size + 1 := by rw [← hw]; simp
    have own1 : Raw w1 w.heap.size k' v' s' pl pr := by rw [← hw]; exact heap_new _ rfl
    have t01 : Turned (fun _ => False) w w1 := by rw [← hw]; exact Turned.alloc _ _ _
    have l1 : IsT (fun c => S c ∧ c < w.heap.size) w1 pl l := hl.below_size.turned t01 (fun _ _ _ h => h)
    have r1 : IsT (fun c => S c ∧ c < w.heap.size) w1 pr r := hrr.below_size.turned t01 (fun _ _ _ h => h)
    have old1 := hr.turned t01 id
    have IHL := Lib.hid (ihl l1 hs.split.1 (by omega))
    have IHR := Lib.hid (ihr r1 hs.split.2.1 (by omega))
    have HL1 := Lib.hid l1
    have HR1 := Lib.hid r1
    have HO := Lib.hid own1
    have HOLD := Lib.hid old1
    have HSr := Lib.hid hs
    have HW := Lib.hid hw
    have HZ := Lib.hid hz1
    have HT1 := Lib.hid t01
    have HCN := Lib.hid hcn
    have HS' := Lib.hid hs'
    clear ihl ihr hr hl hrr hs hc hw hz1 own1 t01 l1 r1 old1 hcn hs' hSb
    rcases three k k' with hlt | hgt | rfl
    · have HLT := Lib.hid hlt
      clear hlt
      go_enter Tryz.func128, Tryz.ntmps128
      go_wp2_with fail
      rw [HW.out]
      clear c0 c1 c2 c3 c4
      obtain ⟨c0, c1, c2, c3, c4⟩ := HOLD.out.cells
      refine (cmp_lt HLT.out _).mono ?_
      rintro e w' ⟨rfl, rfl⟩
      go_wp2_with fail
      refine (side_lt _).mono ?_
      rintro e w' ⟨rfl, rfl⟩
      go_wp2_with fail
      refine IHL.out.mono ?_
      rintro e w2 ⟨p2, t2, rfl, h2, hl2, tu2⟩
      have o2 := HO.out.turned tu2 id
      obtain ⟨d0, d1, d2, d3, d4⟩ := o2.cells
      have df := o2.frozen 3
      have T2 := Lib.hid tu2
      have H2 := Lib.hid h2
      have HL2 := Lib.hid hl2
      have O2 := Lib.hid o2
      clear h2 hl2 tu2 o2
      go_wp2_with fail
      have t3 : Turned (fun c => c = w.heap.size) w2 (w2.setCell ⟨w.heap.size, 3, none⟩ (.pointer p2)) := Turned.set _ _ _ _
      have o3 := O2.out.left_set p2
      revert t3 o3
      generalize w2.setCell ⟨w.heap.size, 3, none⟩ (.pointer p2) = w3
      intro t3 o3
      have hz := HZ.out
      have l3 : IsT (fun c => (S c ∧ c < w.heap.size) ∨ w1.heap.size ≤ c) w3 p2 t2 := H2.out.turned t3 (fun c _ hc e => by rcases hc with hc | hc <;> omega)
      have r3 : IsT (fun c => (S c ∧ c < w.heap.size) ∨ w1.heap.size ≤ c) w3 pr r := (HR1.out.turned (T2.out.weak (R' := fun _ => False) (fun _ _ h => h)) (fun _ _ _ h => h) |>.turned t3 (fun c _ hc e => by omega)).mono (fun _ _ h => .inl h)
      have hc2 : t2.count ≤ l.count + 1 := by rw [← T.list_length, HL2.out, ← T.list_length]; exact ins_length_le _ _ _
      refine (even_any o3 l3 r3 (fun c hc => by rcases hc with hc | hc <;> omega) (by have := HCN.out; omega)).mono ?_
      rintro e w4 ⟨p4, t4, rfl, h4, hl4, tu4⟩
      have END : TreePost (fun c => S c ∨ w.heap.size ≤ c) (fun _ => False) (ins ltI k v (T.node l k' v' r).list) w (.returned (.pointer p4)) w4 := by
        refine ⟨p4, t4, rfl, h4.mono (fun c _ hc => ?_), ?_, ?_⟩
        · have := t3.size
          have := T2.out.size
          rcases hc with (hc | hc) | hc | hc
          · exact .inl hc.1
          · exact .inr (by omega)
          · exact .inr (by omega)
          · exact .inr (by omega)
        · rw [hl4, HL2.out, T.list, ins_lt _ _ _ _ _ HLT.out]
        · exact (((HT1.out.trans T2.out).step t3 (R' := fun c => c = w.heap.size) (fun i hi e => by omega)).step tu4 (fun i hi e => by omega))
      have HEND := Lib.hid END
      clear END h4 hl4 tu4 l3 r3 t3 o3 hc2 hz
      go_wp2
      go_ret
      exact HEND.out
    · have HLT := Lib.hid hgt
      clear hgt
      go_enter Tryz.func128, Tryz.ntmps128
      go_wp2_with fail
      rw [HW.out]
      clear c0 c1 c2 c3 c4
      obtain ⟨c0, c1, c2, c3, c4⟩ := HOLD.out.cells
      refine (cmp_gt HLT.out _).mono ?_
      rintro e w' ⟨rfl, rfl⟩
      go_wp2_with fail
      refine (side_gt _).mono ?_
      rintro e w' ⟨rfl, rfl⟩
      go_wp2_with fail
      refine IHR.out.mono ?_
      rintro e w2 ⟨p2, t2, rfl, h2, hl2, tu2⟩
      have o2 := HO.out.turned tu2 id
      obtain ⟨d0, d1, d2, d3, d4⟩ := o2.cells
      have df := o2.frozen 4
      have T2 := Lib.hid tu2
      have H2 := Lib.hid h2
      have HL2 := Lib.hid hl2
      have O2 := Lib.hid o2
      clear h2 hl2 tu2 o2
      go_wp2_with fail
      have t3 : Turned (fun c => c = w.heap.size) w2 (w2.setCell ⟨w.heap.size, 4, none⟩ (.pointer p2)) := Turned.set _ _ _ _
      have o3 := O2.out.right_set p2
      revert t3 o3
      generalize w2.setCell ⟨w.heap.size, 4, none⟩ (.pointer p2) = w3
      intro t3 o3
      have hz := HZ.out
      have r3 : IsT (fun c => (S c ∧ c < w.heap.size) ∨ w1.heap.size ≤ c) w3 p2 t2 := H2.out.turned t3 (fun c _ hc e => by rcases hc with hc | hc <;> omega)
      have l3 : IsT (fun c => (S c ∧ c < w.heap.size) ∨ w1.heap.size ≤ c) w3 pl l := (HL1.out.turned (T2.out.weak (R' := fun _ => False) (fun _ _ h => h)) (fun _ _ _ h => h) |>.turned t3 (fun c _ hc e => by omega)).mono (fun _ _ h => .inl h)
      have hc2 : t2.count ≤ r.count + 1 := by rw [← T.list_length, HL2.out, ← T.list_length]; exact ins_length_le _ _ _
      refine (even_any o3 l3 r3 (fun c hc => by rcases hc with hc | hc <;> omega) (by have := HCN.out; omega)).mono ?_
      rintro e w4 ⟨p4, t4, rfl, h4, hl4, tu4⟩
      have END : TreePost (fun c => S c ∨ w.heap.size ≤ c) (fun _ => False) (ins ltI k v (T.node l k' v' r).list) w (.returned (.pointer p4)) w4 := by
        refine ⟨p4, t4, rfl, h4.mono (fun c _ hc => ?_), ?_, ?_⟩
        · have := t3.size
          have := T2.out.size
          rcases hc with (hc | hc) | hc | hc
          · exact .inl hc.1
          · exact .inr (by omega)
          · exact .inr (by omega)
          · exact .inr (by omega)
        · rw [hl4, HL2.out, T.list, ins_gt linI _ _ _ _ _ HSr.out HLT.out]
        · exact (((HT1.out.trans T2.out).step t3 (R' := fun c => c = w.heap.size) (fun i hi e => by omega)).step tu4 (fun i hi e => by omega))
      have HEND := Lib.hid END
      clear END h4 hl4 tu4 l3 r3 t3 o3 hc2 hz
      go_wp2
      go_ret
      exact HEND.out
    · go_enter Tryz.func128, Tryz.ntmps128
      go_wp2_with fail
      rw [HW.out]
      clear c0 c1 c2 c3 c4
      obtain ⟨c0, c1, c2, c3, c4⟩ := HOLD.out.cells
      refine (cmp_eq k _).mono ?_
      rintro e w' ⟨rfl, rfl⟩
      obtain ⟨d0, d1, d2, d3, d4⟩ := HO.out.cells
      have df := HO.out.frozen 1
      go_wp2
      go_ret
      have t3 : Turned (fun c => c = w.heap.size) w1 (w1.setCell ⟨w.heap.size, 1, none⟩ (.int .i64 v)) := Turned.set _ _ _ _
      have o3 := HO.out.val_set v
      refine ⟨_, .node l k v r, rfl, IsT.node (.inr (Nat.le_refl _)) (by rw [HS'.out]; exact o3) ((HL1.out.turned t3 (fun c _ hc e => by omega)).mono (fun _ _ h => .inl h.1)) ((HR1.out.turned t3 (fun c _ hc e => by omega)).mono (fun _ _ h => .inl h.1)), ?_, HT1.out.step t3 (fun i hi e => by omega)⟩
      rw [T.list, T.list, ins_eq linI _ _ _ _ HSr.out]
end Go.Proofs.YtjcmeacgfflfmaaGreat

namespace Go.Proofs.YtjcmeacgfflfmaaGreat
open Go.RowKit Rk

/-- Is an object no node? -/
def NotNode (o : Obj) : Prop := ∀ cs fr, o ≠ .cells cs 191 fr
/-- What turns no node leaves each tree. -/
theorem IsT.spared {S R : Nat → Prop} {W W' : World} (ht : Turned R W W') (hn : ∀ c, R c → ∀ o, W.heap[c]? = some o → NotNode o) : ∀ {p : Option Addr} {t : T Int Int}, IsT S W p t → IsT S W' p t
  | _, .nil, h => h
  | _, .node _ _ _ _, ⟨b, pl, pr, e, hs, hr, h1, h2⟩ => ⟨b, pl, pr, e, hs, hr.turned ht (fun hc => hn b hc _ hr _ _ rfl), h1.spared ht hn, h2.spared ht hn⟩
/-- A tree's nodes are no blocks of another kind. -/
theorem IsT.apart {S : Nat → Prop} {W : World} {m : Nat} {o : Obj} (hm : W.heap[m]? = some o) (ho : NotNode o) : ∀ {p : Option Addr} {t : T Int Int}, IsT S W p t → IsT (fun c => c ≠ m) W p t
  | _, .nil, h => h
  | _, .node _ _ _ _, ⟨b, pl, pr, e, hs, hr, h1, h2⟩ => ⟨b, pl, pr, e, fun ec => by subst ec; rw [show W.heap[b]? = _ from hr] at hm; cases hm; exact ho _ _ rfl, hr, h1.apart hm ho, h2.apart hm ho⟩
theorem notNode_map (cs : Array Value) (fr : Nat × Nat) : NotNode (.cells cs 95 fr) := fun c f e => by cases e
/-- A map at place o of block m, which has the row L. -/
def IsM (W : World) (m o : Nat) (L : List (Int × Int)) : Prop :=
  ∃ p t cs, W.heap[m]? = some (.cells cs 95 (0, 0)) ∧ cs[o]? = some (.pointer p) ∧ IsT (fun _ => True) W p t ∧ t.list = L ∧ Srt ltI L
theorem IsM.lt {W : World} {m o : Nat} {L : List (Int × Int)} (h : IsM W m o L) : m < W.heap.size := by obtain ⟨p, t, cs, h1, _⟩ := h; exact heap_lt h1
theorem IsM.srt {W : World} {m o : Nat} {L : List (Int × Int)} (h : IsM W m o L) : Srt ltI L := by obtain ⟨p, t, cs, h1, h2, h3, h4, h5⟩ := h; exact h5
theorem IsM.turned {R : Nat → Prop} {W W' : World} {m o : Nat} {L : List (Int × Int)} (h : IsM W m o L) (ht : Turned R W W') (hm : ¬ R m) (hn : ∀ c, R c → ∀ o, W.heap[c]? = some o → NotNode o) : IsM W' m o L := by
  obtain ⟨p, t, cs, h1, h2, h3, h4, h5⟩ := h
  exact ⟨p, t, cs, ht.old h1 hm, h2, h3.spared ht hn, h4, h5⟩
theorem IsM.below {W W' : World} {m o : Nat} {L : List (Int × Int)} (h : IsM W m o L) (hb : Below W.heap.size W W') : IsM W' m o L := h.turned (turned_of_below hb) id (fun _ h => h.elim)
theorem IsM.calm {W W' : World} {m o : Nat} {L : List (Int × Int)} (h : IsM W m o L) (ht : Turned (fun _ => False) W W') : IsM W' m o L := h.turned ht id (fun _ h => h.elim)
theorem below_of_turned {W W' : World} (h : Turned (fun _ => False) W W') : Below W.heap.size W W' := ⟨h.os, h.tape, h.output, h.size, fun k hk => h.block k hk id⟩

theorem mlen_any {w : World} {m o : Nat} {L : List (Int × Int)} (h : IsM w m o L) : Calls Tryz.prog 127 #[.pointer (some ⟨m, o, none⟩)] w fun e w' => e = .returned (.int .i64 (L.length : Int)) ∧ w = w' := by
  obtain ⟨p, t, cs, h1, h2, h3, rfl, h5⟩ := h
  have hc : w.cell? ⟨m, o, none⟩ = some (.pointer p) := heap_cell h1 h2
  have HC := Lib.hid (count_any h3)
  rw [T.list_length]
  clear h1 h2 h3 h5
  go_enter Tryz.func127, Tryz.ntmps127
  go_wp2_with (go_at_call 148; refine HC.out.mono ?_; rintro e w' ⟨rfl, rfl⟩)
  go_ret
  exact ⟨rfl, rfl⟩
/-- What Get hands back. -/
def getV (k : Int) (L : List (Int × Int)) : Int := (get ltI k L).getD 0
theorem mget_any {w : World} {m o : Nat} {L : List (Int × Int)} (k : Int) (h : IsM w m o L) : Calls Tryz.prog 55 #[.pointer (some ⟨m, o, none⟩), .int .i64 k] w fun e w' => e = .returned (.tuple #[.int .i64 (getV k L), .bool (get ltI k L).isSome]) ∧ Turned (fun _ => False) w w' := by
  obtain ⟨p, t, cs, h1, h2, h3, rfl, h5⟩ := h
  have hc : w.cell? ⟨m, o, none⟩ = some (.pointer p) := heap_cell h1 h2
  have HC := Lib.hid (find_any k h3 h5)
  clear h1 h2 h3 h5
  go_enter Tryz.func55, Tryz.ntmps55
  go_wp2_with fail
  refine HC.out.mono ?_
  rintro e w1 ⟨q, rfl, t1, hq⟩
  have T1 := Lib.hid t1
  clear t1 HC hc
  rcases hq with ⟨rfl, hg⟩ | ⟨b, v, s, pl, pr, rfl, hg, hr⟩
  · have HG := Lib.hid hg
    clear hg
    go_wp2_with fail
    refine (entry_nil _).mono ?_
    rintro e w' ⟨rfl, rfl⟩
    go_wp2
    go_ret2
    exact ⟨by rw [getV, HG.out]; rfl, T1.out⟩
  · have HG := Lib.hid hg
    have HR := Lib.hid hr
    clear hg hr
    go_wp2_with fail
    refine (entry_some HR.out).mono ?_
    rintro e w2 ⟨rfl, t2⟩
    have T2 := Lib.hid t2
    clear t2
    go_wp2
    go_ret2
    exact ⟨by rw [getV, HG.out]; rfl, T1.out.trans T2.out⟩
/-- Behind a store of a new root. -/
structure PutW (m o : Nat) (L : List (Int × Int)) (w w' : World) : Prop where
  map : IsM w' m o L
  turned : Turned (fun c => c = m) w w'
  rest : ∀ cs, w.heap[m]? = some (.cells cs 95 (0, 0)) → ∃ v, w'.heap[m]? = some (.cells (cs.setIfInBounds o v) 95 (0, 0))
theorem PutW.mk' {S : Nat → Prop} {m o : Nat} {L : List (Int × Int)} {w w2 : World} {p2 : Option Addr} {t2 : T Int Int} {cs : Array Value} {p : Option Addr} (h1 : w.heap[m]? = some (.cells cs 95 (0, 0))) (h2 : cs[o]? = some (.pointer p))
    (ht : Turned (fun _ => False) w w2) (hT : IsT S w2 p2 t2) (hl : t2.list = L) (hs : Srt ltI L) : PutW m o L w (w2.setCell ⟨m, o, none⟩ (.pointer p2)) := by
  have h3 := ht.old h1 id
  have h4 := Turned.set w2 m o (.pointer p2)
  have h5 : o < cs.size := (Array.getElem?_eq_some_iff.1 h2).1
  refine ⟨⟨p2, t2, _, heap_set h3 o _, ?_, ((hT.apart h3 (notNode_map _ _)).turned h4 (fun c _ hc e => hc e)).mono (fun _ _ _ => trivial), hl, hs⟩, (ht.weak (fun _ _ h => h.elim)).trans h4, fun cs' h' => ?_⟩
  · simp [h5]
  · rw [h1] at h'; cases h'; exact ⟨_, heap_set h3 o _⟩
theorem PutW.calm {m o : Nat} {L : List (Int × Int)} {w w' w'' : World} (h : PutW m o L w w') (ht : Turned (fun _ => False) w' w'') : PutW m o L w w'' :=
  ⟨h.map.calm ht, h.turned.trans (ht.weak (fun _ _ h => h.elim)), fun cs hc => by obtain ⟨v, hv⟩ := h.rest cs hc; exact ⟨v, ht.old hv id⟩⟩
def PutPost (m o : Nat) (v : Bool) (L : List (Int × Int)) (w : World) (e : Ending) (w' : World) : Prop := e = .returned (.bool v) ∧ PutW m o L w w'

theorem mput_any {w : World} {m o : Nat} {L : List (Int × Int)} (k v : Int) (h : IsM w m o L) (hs : L.length ≤ 500000) : Calls Tryz.prog 88 #[.pointer (some ⟨m, o, none⟩), .int .i64 k, .int .i64 v] w (PutPost m o (get ltI k L).isNone (ins ltI k v L) w) := by
  have HLn := Lib.hid (mlen_any h)
  have HSr := Lib.hid h.srt
  obtain ⟨p, t, cs, h1, h2, h3, h4, h5⟩ := h
  have hc : w.cell? ⟨m, o, none⟩ = some (.pointer p) := heap_cell h1 h2
  have hcn : t.count ≤ 600000 := by rw [← T.list_length, h4]; omega
  have HC := Lib.hid (with_any k v t h3 (by rw [h4]; exact h5) hcn)
  have H1 := Lib.hid h1
  have H2 := Lib.hid h2
  have H4 := Lib.hid h4
  have HD := Lib.hid (show decide (L.length < (ins ltI k v L).length) = (get ltI k L).isNone by rw [← ins_length_gt linI k v L h5]; exact decide_eq_decide.2 (by omega))
  have HLE := Lib.hid (ins_length_le (lt := ltI) k v L)
  clear h1 h2 h3 h4 h5 hcn
  go_enter Tryz.func88, Tryz.ntmps88
  go_wp2_with fail
  refine HLn.out.mono ?_
  rintro e w' ⟨rfl, rfl⟩
  go_wp2_with fail
  refine HC.out.mono ?_
  rintro e w2 ⟨p2, t2, rfl, h2, hl2, tu2⟩
  have hP : PutW m o (ins ltI k v L) w (w2.setCell ⟨m, o, none⟩ (.pointer p2)) := PutW.mk' H1.out H2.out tu2 h2 (by rw [hl2, H4.out]) (ins_srt linI k v L HSr.out)
  have hc2 : w2.cell? ⟨m, o, none⟩ = some (.pointer p) := heap_cell (tu2.old H1.out id) H2.out
  have hf2 : w2.frozen? ⟨m, o, none⟩ = false := heap_frozen (tu2.old H1.out id) _
  have HP := Lib.hid hP
  clear hP h2 hl2 tu2
  go_wp2_with fail
  have HLn2 := Lib.hid (mlen_any HP.out.map)
  revert HP HLn2
  generalize w2.setCell ⟨m, o, none⟩ (.pointer p2) = w3
  intro HP HLn2
  clear hc2 hf2
  refine HLn2.out.mono ?_
  rintro e w' ⟨rfl, rfl⟩
  go_wp2
  go_ret
  exact ⟨congrArg (fun b => Ending.returned (.bool b)) HD.out, HP.out⟩
end Go.Proofs.YtjcmeacgfflfmaaGreat
