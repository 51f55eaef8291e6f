/- Memory of layer 3: pieces one behind the other, a writer over them. The contract of what lays a piece behind. -/
import Derived.Test.YtnkhpmpoemodiaaCl
import Derived.Test.YtnkhpmpoemodiaaVn
import Derived.Test.YtnkhpmpoemodiaaHp
set_option linter.unusedVariables false
namespace Go.Proofs.Ytnkhpmpoemodiaa
open Go.RowKit

/-- Where a pointer leads, and one more. -/
def ptrNo : Value → Nat
  | .pointer (some a) => a.block + 1
  | _ => 0
/-- Pieces, the last one first: what they hold, and that they lie in blocks of S. -/
def Chain (S : Nat → Prop) (w : World) : Nat → Value → List Int → Prop
  | 0, p, zs => p = .pointer none ∧ zs = []
  | n + 1, p, zs => ∃ (g : Nat) (q : Value) (a : Option Addr) (cap b off : Nat) (front bs : List Int), p = .pointer (some ⟨g, 0, none⟩) ∧ S g ∧ w.heap[g]? = some (.cells #[q, .slice a bs.length cap] 102 (0, 0)) ∧
      bs.length ≤ cap ∧ IntsAt .u8 w.heap.size w a b off bs.length bs ∧ (bs.length = 0 ∨ S b) ∧ (zs = front ++ bs ∧ ptrNo q ≤ g) ∧ Chain S w n q front

/-- Blocks of S are as they were. -/
def Stay (S : Nat → Prop) (w w' : World) : Prop := w.heap.size ≤ w'.heap.size ∧ ∀ k, k < w.heap.size → S k → w'.heap[k]? = w.heap[k]?
theorem Stay.refl (S : Nat → Prop) (w : World) : Stay S w w := ⟨Nat.le_refl _, fun _ _ _ => rfl⟩
theorem Stay.trans {S : Nat → Prop} {a b c : World} (h : Stay S a b) (k : Stay S b c) : Stay S a c :=
  ⟨Nat.le_trans h.1 k.1, fun i hi hs => (k.2 i (Nat.lt_of_lt_of_le hi h.1) hs).trans (h.2 i hi hs)⟩
theorem Stay.grown {S : Nat → Prop} {w w' : World} {row : Option Nat} (hg : w.grownBy w' row) (h : ∀ k, row = some k → ¬ S k) : Stay S w w' :=
  ⟨hg.size, fun k hk hs => hg.block k hk (fun e => h k e.symm hs)⟩
theorem Stay.below {S : Nat → Prop} {w w' : World} (hb : Below w.heap.size w w') : Stay S w w' := ⟨hb.size, fun k hk _ => hb.block k hk⟩
theorem IntsAt.stay {S : Nat → Prop} {k : IntKind} {w w' : World} {a : Option Addr} {b off len : Nat} {zs : List Int} (h : IntsAt k w.heap.size w a b off len zs) (hs : Stay S w w') (hb : len = 0 ∨ S b) : IntsAt k w'.heap.size w' a b off len zs :=
  ⟨h.addr, h.length, h.small, h.below.imp id (fun g => Nat.lt_of_lt_of_le g hs.1), fun i hi => by
    have h1 := h.below.resolve_left (by omega)
    have h2 := hb.resolve_left (by omega)
    rw [World.cell?_of_block (w := w) (hs.2 b h1 h2)]; exact h.cell i hi, h.fits⟩
theorem Chain.stay {S : Nat → Prop} {w w' : World} (hs : Stay S w w') : ∀ n p zs, Chain S w n p zs → Chain S w' n p zs := by
  intro n
  induction n with
  | zero => intro p zs h; exact h
  | succ n ih =>
    intro p zs h
    obtain ⟨g, q, a, cap, b, off, front, bs, h1, h2, h3, h4, h5, h6, h7, h8⟩ := h
    refine ⟨g, q, a, cap, b, off, front, bs, h1, h2, ?_, h4, h5.stay hs h6, h6, h7, ih _ _ h8⟩
    rw [hs.2 g (Array.getElem?_eq_some_iff.1 h3).1 h2]; exact h3
theorem Chain.wider {S T : Nat → Prop} {w : World} (hst : ∀ k, S k → T k) : ∀ n p zs, Chain S w n p zs → Chain T w n p zs := by
  intro n
  induction n with
  | zero => intro p zs h; exact h
  | succ n ih =>
    intro p zs h
    obtain ⟨g, q, a, cap, b, off, front, bs, h1, h2, h3, h4, h5, h6, h7, h8⟩ := h
    exact ⟨g, q, a, cap, b, off, front, bs, h1, hst _ h2, h3, h4, h5, h6.imp id (hst _), h7, ih _ _ h8⟩

theorem Chain.no {S : Nat → Prop} {w : World} {n : Nat} {p : Value} {zs : List Int} (h : Chain S w n p zs) : ptrNo p ≤ w.heap.size := by
  cases n with
  | zero => rw [h.1]; exact Nat.zero_le _
  | succ n =>
    obtain ⟨g, q, a, cap, b, off, front, bs, h1, _, h3, _⟩ := h
    rw [h1]; exact heap_lt h3
theorem Chain.ptr {S : Nat → Prop} {w : World} {n : Nat} {p : Value} {zs : List Int} (h : Chain S w n p zs) : ∃ ao, p = .pointer ao := by
  cases n with
  | zero => exact ⟨none, h.1⟩
  | succ n => obtain ⟨g, q, a, cap, b, off, front, bs, h1, _⟩ := h; exact ⟨_, h1⟩

/-- A writer in block W that has written zs. -/
structure WAt (S : Nat → Prop) (w : World) (W : Nat) (zs : List Int) (p : Value) : Prop where
  chain : ∃ n, Chain S w n p zs
  box : w.heap[W]? = some (.cells #[p, .int .i64 zs.length] 39 (0, 0))
  out : ¬ S W
def WIs (S : Nat → Prop) (w : World) (W : Nat) (zs : List Int) : Prop := ∃ p, WAt S w W zs p
theorem WIs.stay {S : Nat → Prop} {w w' : World} {W : Nat} {zs : List Int} (h : WIs S w W zs) (hs : Stay (fun k => S k ∨ k = W) w w') : WIs S w' W zs := by
  obtain ⟨p, ⟨n, hc⟩, hb, ho⟩ := h
  refine ⟨p, ⟨n, hc.stay ⟨hs.1, fun k hk hk' => hs.2 k hk (.inl hk')⟩⟩, ?_, ho⟩
  rw [hs.2 W (Array.getElem?_eq_some_iff.1 hb).1 (.inr rfl)]; exact hb
/-- The call lays bs behind; nothing else is turned. -/
def AddPost (S : Nat → Prop) (w : World) (W : Nat) (zs : List Int) (e : Ending) (w' : World) : Prop :=
  e = .returned (.tuple #[]) ∧ WIs S w' W zs ∧ w.grownBy w' (some W)

theorem two_cells {w : World} {W : Nat} {p q : Value} {t : TypeId} (h : w.heap[W]? = some (.cells #[p, q] t (0, 0))) : w.cell? ⟨W, 0, none⟩ = some p ∧ w.cell? ⟨W, 1, none⟩ = some q ∧ w.frozen? ⟨W, 0, none⟩ = false ∧ w.frozen? ⟨W, 1, none⟩ = false := by
  refine ⟨?_, ?_, ?_, ?_⟩ <;> simp [World.cell?, World.frozen?, h]

theorem add_any (S : Nat → Prop) (w : World) (W : Nat) (zs bs : List Int) (a : Option Addr) (cap b off : Nat) (h : WIs S w W zs) (hi : IntsAt .u8 w.heap.size w a b off bs.length bs) (hcap : bs.length ≤ cap) (hb : bs.length = 0 ∨ S b) (hS : ∀ k, w.heap.size ≤ k → S k)
    (hsz : zs.length + bs.length ≤ 1000000) :
    Calls Try.prog 54 #[.pointer (some ⟨W, 0, none⟩), .slice a bs.length cap] w (AddPost S w W (zs ++ bs)) := by
  obtain ⟨p, ⟨n, hc⟩, hbox, ho⟩ := h
  obtain ⟨ao, rfl⟩ := hc.ptr
  obtain ⟨c0, c1, f0, f1⟩ := two_cells hbox
  have hlt : W < w.heap.size := (Array.getElem?_eq_some_iff.1 hbox).1
  have HH := Lib.hid (And.intro hc (And.intro hbox (And.intro hi ho)))
  clear hc hbox hi ho
  have HB := Lib.hid hb
  have HS := Lib.hid hS
  clear hb hS
  generalize hzl : zs.length = zl at *
  generalize hbl : bs.length = bl at *
  have HL := Lib.hid (And.intro hzl hbl)
  clear hzl hbl
  go_enter Try.func54, Try.ntmps54
  go_wp2
  go_end0
  obtain ⟨hc, hbox, hi, ho⟩ := HH.out
  obtain ⟨hzl, hbl⟩ := HL.out
  have s0 := heap_set hbox 0 (.pointer (some ⟨w.heap.size, 0, none⟩))
  have s1 := heap_set s0 1 (.int .i64 ((zl : Int) + (bl : Int)))
  have g2 := (grown_set w W 0 (.pointer (some ⟨w.heap.size, 0, none⟩))).trans (grown_set _ W 1 (.int .i64 ((zl : Int) + (bl : Int))))
  have g3 := g2.trans (World.grownBy_alloc _ (.cells #[Value.pointer ao, Value.slice a bl cap] 102) (some W))
  have hst : Stay S w _ := Stay.grown g3 (fun k e hk => by cases e; exact ho hk)
  refine ⟨rfl, ⟨_, ⟨n + 1, w.heap.size, .pointer ao, a, cap, b, off, zs, bs, rfl, HS.out _ (Nat.le_refl _), ?_, by omega, ?_, ?_, ⟨rfl, hc.no⟩, hc.stay hst⟩, ?_, ho⟩, g3⟩
  · rw [hbl]
    exact heap_new _ (by rw [size_set, size_set])
  · rw [hbl]
    exact hi.stay hst HB.out
  · rw [hbl]; exact HB.out
  · rw [List.length_append, hzl, hbl]
    exact heap_alloc s1 _
end Go.Proofs.Ytnkhpmpoemodiaa
