/- Contract: the reference's SameInts. Rows of numbers that a walk owns: made of 0, one of them set. -/
import Derived.Test.YtjpgkocffceeoaaBo
set_option linter.unusedVariables false
set_option linter.unusedSectionVars false
namespace Go.Proofs.Ytjpgkocffceeoaa
open Go.RowKit Rk

theorem take_snoc {ms : List Int} {j : Nat} (h : j < ms.length) : ms.take (j + 1) = ms.take j ++ [ms.getD j 0] := by
  rw [List.take_succ_eq_append_getElem h, List.getD_eq_getElem?_getD, List.getElem?_eq_getElem h]; rfl
theorem getD_mem {ms : List Int} {j : Nat} (h : j < ms.length) : ms.getD j 0 ∈ ms := by
  rw [List.getD_eq_getElem?_getD, List.getElem?_eq_getElem h]; exact List.getElem_mem h
set_option maxHeartbeats 1000000 in
theorem sameints_any {B B' : Nat} {w : World} {a a' : Option Addr} {b off b' off' len len' cap cap' : Nat} {zs zs' : List Int} (h : IntsAt .i64 B w a b off len zs) (h' : IntsAt .i64 B' w a' b' off' len' zs') :
    Calls Try.prog 16 #[.slice a len cap, .slice a' len' cap'] w fun e w' => e = .returned (.bool (decide (zs = zs'))) ∧ Below w.heap.size w w' := by
  have hm := h.small
  have hm' := h'.small
  unfold maxLen at hm hm'
  have H := Lib.hid h
  have H' := Lib.hid h'
  have HL := Lib.hid h.length
  have HL' := Lib.hid h'.length
  clear h h'
  by_cases hll : len = len'
  · subst hll
    go_enter Try.func16, Try.ntmps16
    go_wp2
    go_loopw [5] (fun i wr => ∃ k nq : Nat, k ≤ len ∧ i = .int .i64 k ∧ wr = w.drewN nq ∧ Hid (zs.take k = zs'.take k)) (fun i _ => len - (intOf i).toNat)
    case atStart => exact ⟨0, 0, Nat.zero_le _, rfl, rfl, Lib.hid rfl⟩
    case round =>
      obtain ⟨k, nq, hk, rfl, rfl, hE⟩ := hrel
      by_cases hlt : k < len
      · have c1 := H.out.cell k hlt
        have c2 := H'.out.cell k hlt
        obtain rfl : a = some ⟨b, off, none⟩ := H.out.addr.resolve_left (by omega)
        obtain rfl : a' = some ⟨b', off', none⟩ := H'.out.addr.resolve_left (by omega)
        have HT := Lib.hid (take_snoc (ms := zs) (j := k) (by rw [HL.out]; exact hlt))
        have HT' := Lib.hid (take_snoc (ms := zs') (j := k) (by rw [HL'.out]; exact hlt))
        have HG : Hid (zs = zs' → zs.getD k 0 = zs'.getD k 0) := Lib.hid (fun e => by rw [e])
        generalize zs.getD k 0 = x at *
        generalize zs'.getD k 0 = y at *
        have hki : (k : Int) < (len : Int) := by omega
        have hk0 : (0 : Int) ≤ (k : Int) := by omega
        by_cases hxy : x = y
        · subst hxy
          go_wp2
          go_quiet (fail)
          go_wp2
          go_roundw
          case rel => exact ⟨k + 1, _, by omega, by go_num, rfl, Lib.hid (by rw [HT.out, HT'.out, hE.out])⟩
          case measure => simp [intOf]; omega
        · have hd : (x == y) = false := by simpa using hxy
          have HF : Hid (decide (zs = zs') = false) := Lib.hid (decide_eq_false (fun e => hxy (HG.out e)))
          clear hxy
          go_wp2
          go_quiet (fail)
          go_wp2
          go_ret
          exact ⟨retb HF.out.symm, ⟨rfl, rfl, rfl, Nat.le_refl _, fun _ _ => rfl⟩⟩
      · have HF : Hid (decide (zs = zs') = true) := Lib.hid (decide_eq_true (by
          have := hE.out
          rwa [List.take_of_length_le (by rw [HL.out]; omega), List.take_of_length_le (by rw [HL'.out]; omega)] at this))
        go_wp2
        go_ret
        exact ⟨retb HF.out.symm, ⟨rfl, rfl, rfl, Nat.le_refl _, fun _ _ => rfl⟩⟩
  · have HF : Hid (decide (zs = zs') = false) := Lib.hid (decide_eq_false (fun e => hll (by rw [← HL.out, ← HL'.out, e])))
    have hd : ((len : Int) == (len' : Int)) = false := by simp; omega
    go_enter Try.func16, Try.ntmps16
    go_wp2
    go_ret
    exact ⟨retb HF.out.symm, Below.refl _ _⟩
theorem Gi.Try.infoInt : (Try.prog.info? 3).map (fun i => (i.zero, i.size, i.bytes)) = some (some (.int .i64 0), 1, 8) := by kernel_rfl
theorem ints_rowC {W : World} {b n : Nat} {f : Nat → Int} {ty : TypeId} (h : W.heap[b]? = some (.cells (rowC n f) ty (0, 0))) (hn : n ≤ 65536) (hf : ∀ i, i < n → (Lit.int .i64 (f i)).wf = true) : IntsAt .i64 W.heap.size W (some ⟨b, 0, none⟩) b 0 n ((List.range n).map f) :=
  ⟨.inr rfl, by simp, by unfold maxLen; omega, .inr (heap_lt h), fun i hi => by
    rw [show ((List.range n).map f).getD i 0 = f i by simp [List.getD, hi], Nat.zero_add]
    exact heap_cell h (rowC_at f hi), fun x hx => by
    obtain ⟨i, hi, rfl⟩ := List.mem_map.1 hx
    exact hf i (List.mem_range.1 hi)⟩
theorem madeInts (w : World) (n : Nat) (hn : n ≤ 4096) :
    (Instr.makeSlice 24 (.int .i64 (n : Int)) (.int .i64 (n : Int))).run Try.prog w = .ok (.slice (some ⟨w.heap.size, 0, none⟩) n n) (w.alloc (.cells (rowC n (fun _ => 0)) 3)) := by
  obtain ⟨i0, hi, hz0, hz1, hz2⟩ := info_parts Gi.Try.infoInt
  have h := run_make (P := Try.prog) w 24 3 i0 _ Try.underlying24 hi hz0 .i64 .i64 n n (by omega) (Int.le_refl _) (by rw [hz2]; omega) (by omega)
  rw [hz1, show (Value.int IntKind.i64 0).cells = #[Value.int IntKind.i64 0] from rfl] at h
  have e : madeCells #[Value.int IntKind.i64 0] n = rowC n (fun _ => 0) := by
    apply Array.ext
    · simp [size_madeCells, rowC]
    · intro i h1 h2
      simp [madeCells, rowC, Nat.mod_one]
  simp only [Int.toNat_natCast, Nat.mul_one] at h
  rw [h, e]
theorem IntsAt.set {W : World} {a : Option Addr} {b len : Nat} {zs : List Int} {cur : Array Value} {ty : TypeId} (h : IntsAt .i64 W.heap.size W a b 0 len zs) (hg : W.heap[b]? = some (.cells cur ty (0, 0))) {i : Nat} (hi : i < len) {v : Int} (hv : (Lit.int .i64 v).wf = true) :
    IntsAt .i64 (W.setCell ⟨b, i, none⟩ (.int .i64 v)).heap.size (W.setCell ⟨b, i, none⟩ (.int .i64 v)) a b 0 len (zs.set i v) := by
  have hg2 := heap_set hg i (.int .i64 v)
  have hc : ∀ j, j < len → cur[j]? = some (.int .i64 (zs.getD j 0)) := fun j hj => by
    have := h.cell j hj
    rw [Nat.zero_add] at this
    simpa [World.cell?, hg] using this
  have hl := h.length
  refine ⟨h.addr, by rw [List.length_set]; exact hl, h.small, .inr (heap_lt hg2), fun j hj => ?_, fun x hx => ?_⟩
  · rw [Nat.zero_add]
    refine heap_cell hg2 ?_
    have h1 := hc j hj
    have hjs := (Array.getElem?_eq_some_iff.1 h1).1
    by_cases e : i = j
    · subst e
      rw [Array.getElem?_setIfInBounds_self_of_lt hjs]
      simp [List.getD, hl, hj]
    · rw [Array.getElem?_setIfInBounds_ne e, h1]
      simp [List.getD, e]
  · rcases List.mem_or_eq_of_mem_set hx with h1 | h1
    · exact h.fits x h1
    · rw [h1]; exact hv
theorem own_ints {w : World} {base : Nat} {e : TypeId} {v : Value} {n : Nat} {zs : List Int} (h : w.ownsRow base e 1 v n (ivals .i64 zs)) (hn : zs.length = n) (hf : ∀ x ∈ zs, (Lit.int .i64 x).wf = true) (h0 : 0 < n) :
    ∃ g cap cur, v = .slice (some ⟨g, 0, none⟩) n cap ∧ base ≤ g ∧ w.heap[g]? = some (.cells cur e (0, 0)) ∧ IntsAt .i64 w.heap.size w (some ⟨g, 0, none⟩) g 0 n zs := by
  obtain ⟨a, cap, b, rfl, _, _, hb, HS⟩ := Gath.ints (.inr h) hn hf
  rcases h.2 with ⟨h1, h2⟩ | ⟨g, c9, cur, h1, hg, hc, _⟩
  · omega
  · have h3 : a = some ⟨b, 0, none⟩ := HS.addr.resolve_left (by omega)
    subst h3
    cases h1
    exact ⟨b, cap, cur, rfl, hg, hc, HS⟩
theorem own_cell {w : World} {g n : Nat} {zs : List Int} {cur : Array Value} {ty : TypeId} (h : IntsAt .i64 w.heap.size w (some ⟨g, 0, none⟩) g 0 n zs) (hc : w.heap[g]? = some (.cells cur ty (0, 0))) {i : Nat} (hi : i < n) : w.cell? ⟨g, i, none⟩ = some (.int .i64 (zs.getD i 0)) := by
  have := h.cell i hi
  rwa [Nat.zero_add] at this
end Go.Proofs.Ytjpgkocffceeoaa
