/- Models as they lie; the names' first places as a map. -/
import Derived.Test.YtjcmeacgfflfmaaGreatChecked
import Derived.WalkKit
import Derived.ProofKit
import Derived.OpenShut
import Derived.Below
import Derived.Lib.Hide
import Derived.Test.YtjcmeacgfflfmaaGreatHp
import Derived.Test.YtjcmeacgfflfmaaGreatMdM
set_option linter.unusedVariables false
set_option linter.unusedSectionVars false
set_option linter.unusedSimpArgs false
namespace Go.Proofs.YtjcmeacgfflfmaaGreat.Md
open Go.RowKit

structure VarM where
  name : ByteArray
  init : Int
structure StepM where
  kind : Int
  name : ByteArray
  ak : Int
  an : Int
  aname : ByteArray
structure ProcM where
  name : ByteArray
  weight : Int
  vars : List VarM
  steps : List StepM
structure LinkM where
  name : ByteArray
  frm : ByteArray
  to_ : ByteArray
  delay : Int
  weight : Int
structure EventM where
  to_ : ByteArray
  at_ : Int
  val : Int
structure ModelM where
  ver : Int
  procs : List ProcM
  links : List LinkM
  events : List EventM
def encV (x : VarM) : List Value := [.string x.name, .int .i64 x.init]
def encS (x : StepM) : List Value := [.int .i64 x.kind, .string x.name, .int .i64 x.ak, .int .i64 x.an, .string x.aname]
def encL (x : LinkM) : List Value := [.string x.name, .string x.frm, .string x.to_, .int .i64 x.delay, .int .i64 x.weight]
def encE (x : EventM) : List Value := [.string x.to_, .int .i64 x.at_, .int .i64 x.val]
def fitV (x : VarM) : Prop := x.name.size ≤ maxLen
def fitS (x : StepM) : Prop := x.name.size ≤ maxLen ∧ x.aname.size ≤ maxLen
def fitL (x : LinkM) : Prop := x.name.size ≤ maxLen ∧ x.frm.size ≤ maxLen ∧ x.to_.size ≤ maxLen
def fitE (x : EventM) : Prop := x.to_.size ≤ maxLen
/-- A slice of rows below block B. -/
structure RowsAt {α : Type} (enc : α → List Value) (fit : α → Prop) (sz B : Nat) (w : World) (a : Option Addr) (b off len : Nat) (L : List α) : Prop where
  addr : len = 0 ∨ a = some ⟨b, off, none⟩
  length : L.length = len
  small : len ≤ maxLen
  below : len = 0 ∨ b < B
  cell : ∀ i x, L[i]? = some x → ∀ j u, (enc x)[j]? = some u → w.cell? ⟨b, off + i * sz + j, none⟩ = some u
  fits : ∀ x ∈ L, fit x
section
variable {α : Type} {enc : α → List Value} {fit : α → Prop} {sz B B' : Nat} {w w' : World} {a : Option Addr} {b off len : Nat} {L : List α}
theorem RowsAt.kept (h : RowsAt enc fit sz B w a b off len L) (hb : Below B' w w') (hB : B ≤ B') : RowsAt enc fit sz B w' a b off len L :=
  ⟨h.addr, h.length, h.small, h.below, fun i x hi j u hu => by
    have h0 := (List.getElem?_eq_some_iff.1 hi).1
    rw [hb.cell (p := ⟨b, off + i * sz + j, none⟩) (by have := h.below; have := h.length; show b < B'; omega)]
    exact h.cell i x hi j u hu, h.fits⟩
theorem RowsAt.mono (h : RowsAt enc fit sz B w a b off len L) (hB : B ≤ B') : RowsAt enc fit sz B' w a b off len L :=
  ⟨h.addr, h.length, h.small, h.below.imp id (fun e => by omega), h.cell, h.fits⟩
theorem RowsAt.on (h : RowsAt enc fit sz w.heap.size w a b off len L) (hb : Below w.heap.size w w') : RowsAt enc fit sz w'.heap.size w' a b off len L := (h.kept hb (Nat.le_refl _)).mono hb.size
theorem RowsAt.nil (hl : len = 0) (hL : L = []) : RowsAt enc fit sz B w a b off len L := ⟨.inl hl, by rw [hL, hl]; rfl, by rw [hl]; exact Nat.zero_le _, .inl hl, fun i x hi => by rw [hL] at hi; simp at hi, fun x hx => by rw [hL] at hx; simp at hx⟩
end
/-- A process, and where its lists lie. -/
structure ProcV where
  p : ProcM
  va : Option Addr
  vb : Nat
  vo : Nat
  vc : Nat
  sa : Option Addr
  sb : Nat
  so : Nat
  sc : Nat
def ProcV.vv (x : ProcV) : Value := .slice x.va x.p.vars.length x.vc
def ProcV.sv (x : ProcV) : Value := .slice x.sa x.p.steps.length x.sc
def encP (x : ProcV) : List Value := [.string x.p.name, .int .i64 x.p.weight, x.vv, x.sv]
def fitP (x : ProcV) : Prop := x.p.name.size ≤ maxLen
/-- What a process's lists hold. -/
structure ProcIn (B : Nat) (w : World) (x : ProcV) : Prop where
  vars : RowsAt encV fitV 2 B w x.va x.vb x.vo x.p.vars.length x.p.vars
  steps : RowsAt encS fitS 5 B w x.sa x.sb x.so x.p.steps.length x.p.steps
theorem ProcIn.kept {B B' : Nat} {w w' : World} {x : ProcV} (h : ProcIn B w x) (hb : Below B' w w') (hB : B ≤ B') : ProcIn B w' x := ⟨h.vars.kept hb hB, h.steps.kept hb hB⟩
theorem ProcIn.mono {B B' : Nat} {w : World} {x : ProcV} (h : ProcIn B w x) (hB : B ≤ B') : ProcIn B' w x := ⟨h.vars.mono hB, h.steps.mono hB⟩
theorem ProcIn.on {w w' : World} {x : ProcV} (h : ProcIn w.heap.size w x) (hb : Below w.heap.size w w') : ProcIn w'.heap.size w' x := ⟨h.vars.on hb, h.steps.on hb⟩
/-- A model, and where its lists lie. -/
structure ModelV where
  ver : Int
  procs : List ProcV
  links : List LinkM
  events : List EventM
  pa : Option Addr
  pb : Nat
  po : Nat
  pc : Nat
  la : Option Addr
  lb : Nat
  lo : Nat
  lc : Nat
  ea : Option Addr
  eb : Nat
  eo : Nat
  ec : Nat
def ModelV.m (x : ModelV) : ModelM := ⟨x.ver, x.procs.map (·.p), x.links, x.events⟩
def ModelV.pv (x : ModelV) : Value := .slice x.pa x.procs.length x.pc
def ModelV.lv (x : ModelV) : Value := .slice x.la x.links.length x.lc
def ModelV.ev (x : ModelV) : Value := .slice x.ea x.events.length x.ec
structure ModelAt (B : Nat) (w : World) (x : ModelV) : Prop where
  procs : RowsAt encP fitP 4 B w x.pa x.pb x.po x.procs.length x.procs
  inner : ∀ p ∈ x.procs, ProcIn B w p
  links : RowsAt encL fitL 5 B w x.la x.lb x.lo x.links.length x.links
  events : RowsAt encE fitE 3 B w x.ea x.eb x.eo x.events.length x.events
theorem ModelAt.kept {B B' : Nat} {w w' : World} {x : ModelV} (h : ModelAt B w x) (hb : Below B' w w') (hB : B ≤ B') : ModelAt B w' x := ⟨h.procs.kept hb hB, fun p hp => (h.inner p hp).kept hb hB, h.links.kept hb hB, h.events.kept hb hB⟩
theorem ModelAt.mono {B B' : Nat} {w : World} {x : ModelV} (h : ModelAt B w x) (hB : B ≤ B') : ModelAt B' w x := ⟨h.procs.mono hB, fun p hp => (h.inner p hp).mono hB, h.links.mono hB, h.events.mono hB⟩
theorem ModelAt.on {w w' : World} {x : ModelV} (h : ModelAt w.heap.size w x) (hb : Below w.heap.size w w') : ModelAt w'.heap.size w' x := (h.kept hb (Nat.le_refl _)).mono hb.size
def PlMap (w : World) (b n : Nat) (f : ByteArray → Option Nat) : Prop := MapS w Tryz.prog 9 3 b n f
theorem zeroI (w : World) : (zeroValue 3).run Tryz.prog w = .ok (.int .i64 0) w := by kernel_rfl
theorem wf_nat (n : Nat) (h : n ≤ maxLen) : (Lit.int .i64 (n : Int)).wf = true := by
  have h1 : IntKind.i64.min = -9223372036854775808 := by decide
  have h2 : IntKind.i64.max = 9223372036854775807 := by decide
  unfold maxLen at h
  show (decide (IntKind.i64.min ≤ (n : Int)) && decide ((n : Int) ≤ IntKind.i64.max)) = true
  rw [h1, h2, Bool.and_eq_true, decide_eq_true_eq, decide_eq_true_eq]
  omega
theorem procName_any (x : ProcV) (w : World) : Calls Tryz.prog 58 #[.agg #[.string x.p.name, .int .i64 x.p.weight, x.vv, x.sv]] w fun e w' => e = .returned (.string x.p.name) ∧ Below w.heap.size w w' := by
  have hb : Below w.heap.size w (w.alloc (.cells #[.string x.p.name, .int .i64 x.p.weight, x.vv, x.sv] 34)) := (Below.refl _ w).alloc (Nat.le_refl _) _
  have HB := Lib.hid hb
  clear hb
  unfold ProcV.vv ProcV.sv at *
  go_enter Tryz.func58, Tryz.ntmps58
  go_wp2
  go_ret
  exact ⟨rfl, HB.out⟩
theorem linkName_any (x : LinkM) (w : World) : Calls Tryz.prog 60 #[.agg #[.string x.name, .string x.frm, .string x.to_, .int .i64 x.delay, .int .i64 x.weight]] w fun e w' => e = .returned (.string x.name) ∧ Below w.heap.size w w' := by
  have hb : Below w.heap.size w (w.alloc (.cells #[.string x.name, .string x.frm, .string x.to_, .int .i64 x.delay, .int .i64 x.weight] 42)) := (Below.refl _ w).alloc (Nat.le_refl _) _
  have HB := Lib.hid hb
  clear hb
  go_enter Tryz.func60, Tryz.ntmps60
  go_wp2
  go_ret
  exact ⟨rfl, HB.out⟩
theorem varName_any (x : VarM) (w : World) : Calls Tryz.prog 99 #[.agg #[.string x.name, .int .i64 x.init]] w fun e w' => e = .returned (.string x.name) ∧ Below w.heap.size w w' := by
  have hb : Below w.heap.size w (w.alloc (.cells #[.string x.name, .int .i64 x.init] 40)) := (Below.refl _ w).alloc (Nat.le_refl _) _
  have HB := Lib.hid hb
  clear hb
  go_enter Tryz.func99, Tryz.ntmps99
  go_wp2
  go_ret
  exact ⟨rfl, HB.out⟩
end Go.Proofs.YtjcmeacgfflfmaaGreat.Md
