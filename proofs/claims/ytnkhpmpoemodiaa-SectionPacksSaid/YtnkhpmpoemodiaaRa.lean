/- Memory of layer 3: a reader of bytes. The contract of what keeps the first fault; of what tells it. -/
import Derived.Test.YtnkhpmpoemodiaaWd
set_option linter.unusedVariables false
namespace Go.Proofs.Ytnkhpmpoemodiaa
open Go.RowKit

/-- A reader's state: how many bytes were read, the first fault and where. -/
structure RS where
  pos : Nat
  e : Nat
  fa : Nat
def rfail (s : RS) (c : Nat) : RS := if s.e = 0 then ⟨s.pos, c, s.pos⟩ else s

/-- A reader in block R over the bytes zs. -/
structure RAt (w : World) (R : Nat) (zs : List Int) (s : RS) (a : Option Addr) (cap b off : Nat) : Prop where
  box : w.heap[R]? = some (.cells #[.slice a zs.length cap, .int .i64 s.pos, .int .i64 s.e, .int .i64 s.fa] 110 (0, 0))
  data : IntsAt .u8 w.heap.size w a b off zs.length zs
  hcap : zs.length ≤ cap
  nil : a = none → zs.length = 0 ∧ cap = 0
  apart : zs.length = 0 ∨ b ≠ R
  le : s.pos ≤ zs.length
  few : zs.length ≤ 1000000
  typ : zs.length = 0 ∨ ∃ cur, w.heap[b]? = some (.cells cur 5 (0, 0))
def RIs (w : World) (R : Nat) (zs : List Int) (s : RS) : Prop := ∃ a cap b off, RAt w R zs s a cap b off
theorem four_cells {w : World} {W : Nat} {p q r s : Value} {t : TypeId} (h : w.heap[W]? = some (.cells #[p, q, r, s] t (0, 0))) :
    w.cell? ⟨W, 0, none⟩ = some p ∧ w.cell? ⟨W, 1, none⟩ = some q ∧ w.cell? ⟨W, 2, none⟩ = some r ∧ w.cell? ⟨W, 3, none⟩ = some s ∧ w.frozen? ⟨W, 1, none⟩ = false ∧ w.frozen? ⟨W, 2, none⟩ = false ∧ w.frozen? ⟨W, 3, none⟩ = false := by
  refine ⟨?_, ?_, ?_, ?_, ?_, ?_, ?_⟩ <;> simp [World.cell?, World.frozen?, h]
theorem RIs.stay {w w' : World} {R : Nat} {zs : List Int} {s : RS} (h : RIs w R zs s) (hb : Below w.heap.size w w') : RIs w' R zs s := by
  obtain ⟨a, cap, b, off, h1, h2, h3, h4, h5, h6, h7, h8⟩ := h
  exact ⟨a, cap, b, off, heap_below h1 hb (heap_lt h1), (h2.kept hb (Nat.le_refl _)).mono hb.size, h3, h4, h5, h6, h7, h8.imp id (fun ⟨cur, hc⟩ => ⟨cur, heap_below hc hb (heap_lt hc)⟩)⟩
/-- Only the reader's own block is turned. -/
theorem RAt.turned {w w' : World} {R : Nat} {zs : List Int} {s s' : RS} {a : Option Addr} {cap b off : Nat} (h : RAt w R zs s a cap b off) (hg : w.grownBy w' (some R))
    (hbox : w'.heap[R]? = some (.cells #[.slice a zs.length cap, .int .i64 s'.pos, .int .i64 s'.e, .int .i64 s'.fa] 110 (0, 0))) (hle : s'.pos ≤ zs.length) : RAt w' R zs s' a cap b off :=
  ⟨hbox, h.data.stay (S := fun k => k ≠ R) (Stay.grown hg (fun k e hk => hk (by cases e; rfl))) h.apart, h.hcap, h.nil, h.apart, hle, h.few, by
    by_cases hz : zs.length = 0
    · exact .inl hz
    · obtain ⟨cur, hc⟩ := h.typ.resolve_left hz
      exact .inr ⟨cur, heap_kept hc hg (by have := h.apart.resolve_left hz; simpa using this)⟩⟩
/-- Another block is turned, whose elements are no bytes. -/
theorem RIs.apart {w w' : World} {R A : Nat} {zs : List Int} {s : RS} {cur : Array Value} {t : TypeId} (h : RIs w R zs s) (hA : w.heap[A]? = some (.cells cur t (0, 0))) (ht : t ≠ 5) (hR : R ≠ A) (hg : w.grownBy w' (some A)) : RIs w' R zs s := by
  obtain ⟨a, cap, b, off, h1, h2, h3, h4, h5, h6, h7, h8⟩ := h
  have hb : zs.length = 0 ∨ b ≠ A := by
    rcases h8 with h8 | ⟨c, h8⟩
    · exact .inl h8
    · refine .inr (fun e => ?_)
      subst e
      rw [hA] at h8
      cases h8
      exact ht rfl
  exact ⟨a, cap, b, off, heap_kept h1 hg (by simpa using hR), h2.stay (S := fun k => k ≠ A) (Stay.grown hg (fun k e hk => hk (by cases e; rfl))) hb, h3, h4, h5, h6, h7, by
    by_cases hz : zs.length = 0
    · exact .inl hz
    · obtain ⟨c, hc⟩ := h8.resolve_left hz
      exact .inr ⟨c, heap_kept hc hg (by have := hb.resolve_left hz; simpa using this)⟩⟩
def FailPost (w : World) (R : Nat) (zs : List Int) (s : RS) (e : Ending) (w' : World) : Prop := e = .returned (.tuple #[]) ∧ RIs w' R zs s ∧ w.grownBy w' (some R)

theorem rfail_any (w : World) (R : Nat) (zs : List Int) (s : RS) (c : Nat) (h : RIs w R zs s) :
    Calls Try.prog 103 #[.pointer (some ⟨R, 0, none⟩), .int .i64 c] w (FailPost w R zs (rfail s c)) := by
  obtain ⟨a, cap, b, off, h⟩ := h
  obtain ⟨pos, er, fa⟩ := s
  obtain ⟨c0, c1, c2, c3, f1, f2, f3⟩ := four_cells h.box
  have hlt := heap_lt h.box
  have H := Lib.hid h
  clear h
  by_cases he : er = 0
  · subst he
    go_enter Try.func103, Try.ntmps103
    go_wp2
    go_end0
    have s2 := heap_set (heap_set H.out.box 2 (.int .i64 c)) 3 (.int .i64 pos)
    have g2 := (grown_set w R 2 (.int .i64 c)).trans (grown_set _ R 3 (.int .i64 pos))
    exact ⟨rfl, ⟨a, cap, b, off, H.out.turned g2 s2 H.out.le⟩, g2⟩
  · have he1 : ((er : Int) == 0) = false := by simp; omega
    go_enter Try.func103, Try.ntmps103
    go_wp2
    go_end0
    refine ⟨rfl, ⟨a, cap, b, off, ?_⟩, grown_refl _ _⟩
    unfold rfail
    rw [if_neg he]
    exact H.out
def FaultPost (w : World) (s : RS) (e : Ending) (w' : World) : Prop := e = .returned (.agg #[.int .i64 s.e, .int .i64 s.fa]) ∧ Below w.heap.size w w'
theorem rfault_any (w : World) (R : Nat) (zs : List Int) (s : RS) (h : RIs w R zs s) :
    Calls Try.prog 84 #[.pointer (some ⟨R, 0, none⟩)] w (FaultPost w s) := by
  obtain ⟨a, cap, b, off, h⟩ := h
  obtain ⟨pos, er, fa⟩ := s
  obtain ⟨c0, c1, c2, c3, f1, f2, f3⟩ := four_cells h.box
  have hlt := heap_lt h.box
  clear h
  go_enter Try.func84, Try.ntmps84
  go_wp2
  exact bodyPost_ret (v := .agg #[.int .i64 er, .int .i64 fa]) (by simp [results, Try.results84, go_sem]) rfl ⟨rfl, (Below.refl _ _).alloc (Nat.le_refl _) _⟩
theorem rat_any (w : World) (R : Nat) (zs : List Int) (s : RS) (h : RIs w R zs s) :
    Calls Try.prog 31 #[.pointer (some ⟨R, 0, none⟩)] w fun e w' => e = .returned (.int .i64 s.pos) ∧ w = w' := by
  obtain ⟨a, cap, b, off, h⟩ := h
  obtain ⟨pos, er, fa⟩ := s
  obtain ⟨c0, c1, c2, c3, f1, f2, f3⟩ := four_cells h.box
  have hlt := heap_lt h.box
  clear h
  go_enter Try.func31, Try.ntmps31
  go_wp2
  go_ret
  exact ⟨rfl, rfl⟩
/-- The reader lies in new memory. -/
def OpenPost (w : World) (zs : List Int) (e : Ending) (w' : World) : Prop := ∃ R, e = .returned (.pointer (some ⟨R, 0, none⟩)) ∧ w.heap.size ≤ R ∧ RIs w' R zs ⟨0, 0, 0⟩ ∧ Below w.heap.size w w'
theorem open_any {B : Nat} {w : World} {a : Option Addr} {b off len cap : Nat} {zs : List Int} (h : IntsAt .u8 B w a b off len zs) (h0 : a = none → len = 0 ∧ cap = 0) (hcap : len ≤ 65536) :
    Calls Try.prog 29 #[.slice a len cap] w (OpenPost w zs) := by
  have hl := h.length
  have HC := Lib.hid (clone_any (cap := cap) h h0 hcap)
  have HL := Lib.hid (show zs.length ≤ 65536 by omega)
  clear h h0 hl
  go_enter Try.func29, Try.ntmps29
  go_wp2_with fail
  refine HC.out.mono ?_
  rintro e w1 ⟨a5, b5, cap5, rfl, hc5, hI, hlb, hB, hnc, htyp⟩
  have hl := HL.out
  have HTYP := Lib.hid htyp
  clear htyp
  obtain ⟨zl, hzl⟩ : ∃ zl, zs.length = zl := ⟨_, rfl⟩
  have H := Lib.hid (And.intro hI (And.intro hlb (And.intro hc5 (And.intro hzl hnc))))
  rw [hzl] at hc5 hl ⊢
  clear hI hlb hzl hnc
  go_wp2
  go_ret
  obtain ⟨hI, hlb, hc5, hzl, hnc⟩ := H.out
  refine ⟨w1.heap.size, rfl, hB.size, ⟨a5, cap5, b5, 0, ?_, ?_, hc5, ?_, ?_, Nat.zero_le _, by omega, HTYP.out.imp id (fun ⟨cur, hc⟩ => ⟨cur, heap_alloc hc _⟩)⟩, hB.alloc hB.size _⟩
  · rw [hzl]; exact heap_new _ rfl
  · exact (hI.kept ((Below.refl _ _).alloc (Nat.le_refl _) _) (Nat.le_refl _)).mono (by simp)
  · exact hnc
  · have := hI.below; omega
end Go.Proofs.Ytnkhpmpoemodiaa
