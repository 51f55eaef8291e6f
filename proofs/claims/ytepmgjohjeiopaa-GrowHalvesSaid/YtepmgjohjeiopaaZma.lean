/- Rows of numbers that a walk owns: made of 0, one of them set. -/
import Derived.Test.YtepmgjohjeiopaaZl
set_option linter.unusedVariables false
set_option linter.unusedSectionVars false
namespace Go.Proofs.Ytepmgjohjeiopaa
open Go.RowKit Rk

theorem Gi.Try.infoInt : (Try.prog.info? 3).map (fun i => (i.zero, i.size, i.bytes)) = some (some (.int .i64 0), 1, 8) := by kernel_rfl
theorem ints_rowC {W : World} {b n : Nat} {f : Nat → Int} {ty : TypeId} (h : W.heap[b]? = some (.cells (rowC n f) ty (0, 0))) (hn : n ≤ 65536) (hf : ∀ i, i < n → (Lit.int .i64 (f i)).wf = true) : IntsAt .i64 W.heap.size W (some ⟨b, 0, none⟩) b 0 n ((List.range n).map f) :=
  ⟨.inr rfl, by simp, by unfold maxLen; omega, .inr (heap_lt h), fun i hi => by
    rw [show ((List.range n).map f).getD i 0 = f i by simp [List.getD, hi], Nat.zero_add]
    exact heap_cell h (rowC_at f hi), fun x hx => by
    obtain ⟨i, hi, rfl⟩ := List.mem_map.1 hx
    exact hf i (List.mem_range.1 hi)⟩
theorem madeInts (w : World) (n : Nat) (hn : n ≤ 4096) :
    (Instr.makeSlice 24 (.int .i64 (n : Int)) (.int .i64 (n : Int))).run Try.prog w = .ok (.slice (some ⟨w.heap.size, 0, none⟩) n n) (w.alloc (.cells (rowC n (fun _ => 0)) 3)) := by
  obtain ⟨i0, hi, hz0, hz1, hz2⟩ := info_parts Gi.Try.infoInt
  have h := run_make (P := Try.prog) w 24 3 i0 _ Try.underlying24 hi hz0 .i64 .i64 n n (by omega) (Int.le_refl _) (by rw [hz2]; omega) (by omega)
  rw [hz1, show (Value.int IntKind.i64 0).cells = #[Value.int IntKind.i64 0] from rfl] at h
  have e : madeCells #[Value.int IntKind.i64 0] n = rowC n (fun _ => 0) := by
    apply Array.ext
    · simp [size_madeCells, rowC]
    · intro i h1 h2
      simp [madeCells, rowC, Nat.mod_one]
  simp only [Int.toNat_natCast, Nat.mul_one] at h
  rw [h, e]
theorem and_255 (n : Int) : bits .and .i64 n 255 = n % 256 := by
  have h511 : (BitVec.ofInt 64 255).toNat = 2 ^ 8 - 1 := by decide
  have key : (BitVec.ofInt 64 n &&& BitVec.ofInt 64 255).toNat = (n % ((2 ^ 64 : Nat) : Int)).toNat % 2 ^ 8 := by
    rw [BitVec.toNat_and, BitVec.toNat_ofInt, h511, Nat.and_two_pow_sub_one_eq_mod]
  show IntKind.i64.wrap ((BitVec.ofInt 64 n &&& BitVec.ofInt 64 255).toNat : Nat) = n % 256
  rw [key, IntKind.wrap_i64]
  omega
theorem zeros_getD (n i : Nat) : mOf ((List.range n).map (fun _ => (0 : Int))) i = 0 := by
  unfold mOf
  by_cases h : i < n <;> simp [List.getD, h]
theorem zeros_right (n : Nat) : rightP n ((List.range n).map (fun _ => (0 : Int))) 1 = true :=
  rightP_mk (by simp) (by omega) (by omega) (fun p hp => by obtain ⟨_, _, rfl⟩ := List.mem_map.1 hp; omega)
theorem IntsAt.set {W : World} {a : Option Addr} {b len : Nat} {zs : List Int} {cur : Array Value} {ty : TypeId} (h : IntsAt .i64 W.heap.size W a b 0 len zs) (hg : W.heap[b]? = some (.cells cur ty (0, 0))) {i : Nat} (hi : i < len) {v : Int} (hv : (Lit.int .i64 v).wf = true) :
    IntsAt .i64 (W.setCell ⟨b, i, none⟩ (.int .i64 v)).heap.size (W.setCell ⟨b, i, none⟩ (.int .i64 v)) a b 0 len (zs.set i v) := by
  have hg2 := heap_set hg i (.int .i64 v)
  have hc : ∀ j, j < len → cur[j]? = some (.int .i64 (zs.getD j 0)) := fun j hj => by
    have := h.cell j hj
    rw [Nat.zero_add] at this
    simpa [World.cell?, hg] using this
  have hl := h.length
  refine ⟨h.addr, by rw [List.length_set]; exact hl, h.small, .inr (heap_lt hg2), fun j hj => ?_, fun x hx => ?_⟩
  · rw [Nat.zero_add]
    refine heap_cell hg2 ?_
    have h1 := hc j hj
    have hjs := (Array.getElem?_eq_some_iff.1 h1).1
    by_cases e : i = j
    · subst e
      rw [Array.getElem?_setIfInBounds_self_of_lt hjs]
      simp [List.getD, hl, hj]
    · rw [Array.getElem?_setIfInBounds_ne e, h1]
      simp [List.getD, e]
  · rcases List.mem_or_eq_of_mem_set hx with h1 | h1
    · exact h.fits x h1
    · rw [h1]; exact hv
theorem set_mOf {ms : List Int} {i : Nat} (hi : i < ms.length) (v : Int) : mOf (ms.set i v) i = v ∧ ∀ b, b ≠ i → mOf (ms.set i v) b = mOf ms b := by
  unfold mOf
  refine ⟨by simp [List.getD, hi], fun b hb => ?_⟩
  simp [List.getD, Ne.symm hb]
theorem set_right {n : Nat} {ms : List Int} {k : Int} (h : rightP n ms k = true) (i : Nat) {v : Int} (h0 : 0 ≤ v) (h1 : v < k) : rightP n (ms.set i v) k = true := by
  obtain ⟨h2, h3, h4⟩ := rightP_t h
  refine rightP_mk (by rw [List.length_set]; exact h2) h3.1 h3.2 fun p hp => ?_
  rcases List.mem_or_eq_of_mem_set hp with h5 | h5
  · exact h4 p h5
  · subst h5; exact ⟨h0, h1⟩
theorem own_ints {w : World} {base : Nat} {e : TypeId} {v : Value} {n : Nat} {zs : List Int} (h : w.ownsRow base e 1 v n (ivals .i64 zs)) (hn : zs.length = n) (hf : ∀ x ∈ zs, (Lit.int .i64 x).wf = true) (h0 : 0 < n) :
    ∃ g cap cur, v = .slice (some ⟨g, 0, none⟩) n cap ∧ base ≤ g ∧ w.heap[g]? = some (.cells cur e (0, 0)) ∧ IntsAt .i64 w.heap.size w (some ⟨g, 0, none⟩) g 0 n zs := by
  obtain ⟨a, cap, b, rfl, _, _, hb, HS⟩ := Gath.ints (.inr h) hn hf
  rcases h.2 with ⟨h1, h2⟩ | ⟨g, c9, cur, h1, hg, hc, _⟩
  · omega
  · have h3 : a = some ⟨b, 0, none⟩ := HS.addr.resolve_left (by omega)
    subst h3
    cases h1
    exact ⟨b, cap, cur, rfl, hg, hc, HS⟩
theorem own_cell {w : World} {g n : Nat} {zs : List Int} {cur : Array Value} {ty : TypeId} (h : IntsAt .i64 w.heap.size w (some ⟨g, 0, none⟩) g 0 n zs) (hc : w.heap[g]? = some (.cells cur ty (0, 0))) {i : Nat} (hi : i < n) : w.cell? ⟨g, i, none⟩ = some (.int .i64 (zs.getD i 0)) := by
  have := h.cell i hi
  rwa [Nat.zero_add] at this
end Go.Proofs.Ytepmgjohjeiopaa
