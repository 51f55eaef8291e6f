/- Contracts: the reference's In and SameInts. -/
import Derived.Test.YtepmgjohjeiopaaZa
import Derived.Test.YtepmgjohjeiopaaBo
set_option linter.unusedVariables false
set_option linter.unusedSectionVars false
namespace Go.Proofs.Ytepmgjohjeiopaa
open Go.RowKit Rk

theorem take_snoc {ms : List Int} {j : Nat} (h : j < ms.length) : ms.take (j + 1) = ms.take j ++ [ms.getD j 0] := by
  rw [List.take_succ_eq_append_getElem h, List.getD_eq_getElem?_getD, List.getElem?_eq_getElem h]; rfl
theorem getD_mem {ms : List Int} {j : Nat} (h : j < ms.length) : ms.getD j 0 ∈ ms := by
  rw [List.getD_eq_getElem?_getD, List.getElem?_eq_getElem h]; exact List.getElem_mem h
set_option maxHeartbeats 1000000 in
theorem xin_any {B : Nat} {w : World} {a : Option Addr} {b off len cap : Nat} {ms : List Int} (hm : IntsAt .i64 B w a b off len ms) (x : Int) :
    Calls Try.prog 59 #[.slice a len cap, .int .i64 x] w fun e w' => e = .returned (.bool (decide (x ∈ ms))) ∧ w = w' := by
  have hsm := hm.small
  unfold maxLen at hsm
  have HM := Lib.hid hm
  have HL := Lib.hid hm.length
  clear hm
  go_enter Try.func59, Try.ntmps59
  go_wp2
  go_loop [5] (fun i => ∃ j : Nat, j ≤ len ∧ i = .int .i64 j ∧ Hid (¬ x ∈ ms.take j)) (fun i => len - (intOf i).toNat)
  case atStart => exact ⟨0, Nat.zero_le _, rfl, Lib.hid (by simp)⟩
  case round =>
    obtain ⟨j, hj, rfl, hs⟩ := hrel
    by_cases hlt : j < len
    · have hcell := HM.out.cell j hlt
      obtain rfl : a = some ⟨b, off, none⟩ := HM.out.addr.resolve_left (by omega)
      have hkz : j < ms.length := by rw [HL.out]; exact hlt
      have HT := Lib.hid (take_snoc hkz)
      have HMEM := Lib.hid (getD_mem hkz)
      generalize ms.getD j 0 = y at *
      clear hkz
      by_cases hyx : y = x
      · have hd : (y == x) = true := by simpa using hyx
        have HE : Hid (decide (x ∈ ms) = true) := Lib.hid (decide_eq_true (hyx ▸ HMEM.out))
        clear hyx
        go_wp2
        go_ret
        exact ⟨retb HE.out.symm, rfl⟩
      · have hd : (y == x) = false := by simpa using hyx
        have HE : Hid (¬ x ∈ ms.take (j + 1)) := Lib.hid (by rw [HT.out, List.mem_append, List.mem_singleton]; rintro (h | h); exact hs.out h; exact hyx h.symm)
        clear hyx
        go_wp2
        go_round
        case rel => exact ⟨j + 1, by omega, by go_num, HE⟩
        case measure => simp [intOf]; omega
    · have HE : Hid (decide (x ∈ ms) = false) := Lib.hid (decide_eq_false (by
        have := hs.out
        rwa [List.take_of_length_le (by rw [HL.out]; omega)] at this))
      go_wp2
      go_ret
      exact ⟨retb HE.out.symm, rfl⟩
set_option maxHeartbeats 1000000 in
theorem sameints_any {B B' : Nat} {w : World} {a a' : Option Addr} {b off b' off' len len' cap cap' : Nat} {zs zs' : List Int} (h : IntsAt .i64 B w a b off len zs) (h' : IntsAt .i64 B' w a' b' off' len' zs') :
    Calls Try.prog 20 #[.slice a len cap, .slice a' len' cap'] w fun e w' => e = .returned (.bool (decide (zs = zs'))) ∧ Below w.heap.size w w' := by
  have hm := h.small
  have hm' := h'.small
  unfold maxLen at hm hm'
  have H := Lib.hid h
  have H' := Lib.hid h'
  have HL := Lib.hid h.length
  have HL' := Lib.hid h'.length
  clear h h'
  by_cases hll : len = len'
  · subst hll
    go_enter Try.func20, Try.ntmps20
    go_wp2
    go_loopw [5] (fun i wr => ∃ k nq : Nat, k ≤ len ∧ i = .int .i64 k ∧ wr = w.drewN nq ∧ Hid (zs.take k = zs'.take k)) (fun i _ => len - (intOf i).toNat)
    case atStart => exact ⟨0, 0, Nat.zero_le _, rfl, rfl, Lib.hid rfl⟩
    case round =>
      obtain ⟨k, nq, hk, rfl, rfl, hE⟩ := hrel
      by_cases hlt : k < len
      · have c1 := H.out.cell k hlt
        have c2 := H'.out.cell k hlt
        obtain rfl : a = some ⟨b, off, none⟩ := H.out.addr.resolve_left (by omega)
        obtain rfl : a' = some ⟨b', off', none⟩ := H'.out.addr.resolve_left (by omega)
        have HT := Lib.hid (take_snoc (ms := zs) (j := k) (by rw [HL.out]; exact hlt))
        have HT' := Lib.hid (take_snoc (ms := zs') (j := k) (by rw [HL'.out]; exact hlt))
        have HG : Hid (zs = zs' → zs.getD k 0 = zs'.getD k 0) := Lib.hid (fun e => by rw [e])
        generalize zs.getD k 0 = x at *
        generalize zs'.getD k 0 = y at *
        have hki : (k : Int) < (len : Int) := by omega
        have hk0 : (0 : Int) ≤ (k : Int) := by omega
        by_cases hxy : x = y
        · subst hxy
          go_wp2
          go_quiet (fail)
          go_wp2
          go_roundw
          case rel => exact ⟨k + 1, _, by omega, by go_num, rfl, Lib.hid (by rw [HT.out, HT'.out, hE.out])⟩
          case measure => simp [intOf]; omega
        · have hd : (x == y) = false := by simpa using hxy
          have HF : Hid (decide (zs = zs') = false) := Lib.hid (decide_eq_false (fun e => hxy (HG.out e)))
          clear hxy
          go_wp2
          go_quiet (fail)
          go_wp2
          go_ret
          exact ⟨retb HF.out.symm, ⟨rfl, rfl, rfl, Nat.le_refl _, fun _ _ => rfl⟩⟩
      · have HF : Hid (decide (zs = zs') = true) := Lib.hid (decide_eq_true (by
          have := hE.out
          rwa [List.take_of_length_le (by rw [HL.out]; omega), List.take_of_length_le (by rw [HL'.out]; omega)] at this))
        go_wp2
        go_ret
        exact ⟨retb HF.out.symm, ⟨rfl, rfl, rfl, Nat.le_refl _, fun _ _ => rfl⟩⟩
  · have HF : Hid (decide (zs = zs') = false) := Lib.hid (decide_eq_false (fun e => hll (by rw [← HL.out, ← HL'.out, e])))
    have hd : ((len : Int) == (len' : Int)) = false := by simp; omega
    go_enter Try.func20, Try.ntmps20
    go_wp2
    go_ret
    exact ⟨retb HF.out.symm, Below.refl _ _⟩
end Go.Proofs.Ytepmgjohjeiopaa
