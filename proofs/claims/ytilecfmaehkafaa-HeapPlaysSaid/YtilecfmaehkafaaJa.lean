/- Contracts of the reference: the first of the least; two rows compared. -/
import Derived.Test.YtilecfmaehkafaaHo
import Derived.Laws.StructEq
set_option linter.unusedVariables false
namespace Go.Proofs.Ytilecfmaehkafaa
open Go.RowKit

theorem below_of_drewN (W : World) (n : Nat) : Below W.heap.size W (W.drewN n) := ⟨rfl, rfl, rfl, Nat.le_refl _, fun _ _ => rfl⟩
/-- The order by keys. -/
def kk (x : Int × Int) : Int := x.1
/-- The place of the least, or -1. -/
def firstI (row : List (Int × Int)) : Int := if row.length = 0 then -1 else (Hm.first kk row : Nat)
/-- Behind k of them. -/
def firstK (row : List (Int × Int)) : Nat → Int
  | 0 => -1
  | k + 1 => (Hm.firstGo kk row k : Nat)
theorem firstK_len (row : List (Int × Int)) : firstK row row.length = firstI row := by
  unfold firstI Hm.first
  cases h : row.length with
  | zero => rfl
  | succ n => rfl

set_option maxHeartbeats 1000000 in
theorem first_any {B : Nat} {w : World} {a : Option Addr} {b len cap : Nat} {row : List (Int × Int)} (h : ItsAt B w a b len row) (hs : len ≤ 100000) (hBs : B ≤ w.heap.size) :
    Calls Try.prog 11 #[.slice a len cap] w fun e w' => e = .returned (.int .i64 (firstI row)) ∧ Below w.heap.size w w' := by
  have hrl := h.length
  have HI := Lib.hid h
  clear h
  go_enter Try.func11, Try.ntmps11
  go_wp2
  go_loopw [3, 4] (fun t i wr => ∃ k : Nat, k ≤ len ∧ i = .int .i64 k ∧ t = .int .i64 (firstK row k) ∧ Hid (Below w.heap.size w wr)) (fun _ i _ => len - (intOf i).toNat)
  case atStart => exact ⟨0, Nat.zero_le _, rfl, rfl, Lib.hid (Below.refl _ _)⟩
  case round =>
    obtain ⟨k, hk, rfl, rfl, hB⟩ := hrel
    by_cases hlt : k < len
    · cases k with
      | zero =>
        have hd : decide ((-1 : Int) < 0) = true := by decide
        simp only [firstK]
        go_wp2
        go_quiet (fail)
        go_wp2
        go_roundw
        case rel => exact ⟨1, by omega, by go_num, rfl, Lib.hid (hB.out.trans ((below_of_drewN _ _).mono hB.out.size))⟩
        case measure => simp [intOf]; omega
      | succ k =>
        have hg := Hm.firstGo_le (kf := kk) row k
        obtain ⟨g, hgg⟩ : ∃ g, Hm.firstGo kk row k = g := ⟨_, rfl⟩
        have hfk : firstK row (k + 1) = (g : Int) := by rw [← hgg]; rfl
        have hd : decide ((g : Int) < 0) = false := by simp
        have hI := HI.out.kept hB.out (B' := w.heap.size) hBs
        have ha : a = some ⟨b, 0, none⟩ := hI.addr.resolve_left (by omega)
        subst ha
        obtain ⟨c0, _⟩ := hI.cell (k + 1) hlt
        obtain ⟨d0, _⟩ := hI.cell g (by omega)
        have hst : firstK row (k + 1 + 1) = if (row.getD (k + 1) default).1 < (row.getD g default).1 then ((k + 1 : Nat) : Int) else (g : Int) := by
          show ((Hm.firstGo kk row (k + 1) : Nat) : Int) = _
          unfold Hm.firstGo
          rw [hgg]
          unfold kk
          split <;> rfl
        rw [hgg] at hg
        generalize (row.getD (k + 1) default).1 = x at *
        generalize (row.getD g default).1 = y at *
        have hi0 : (0 : Int) ≤ (g : Int) := by omega
        have hi1 : (g : Int) < (len : Int) := by omega
        have hn1 : g < len := by omega
        rw [hfk]
        have HST := Lib.hid hst
        clear hst hfk hI hgg HI
        by_cases hxy : x < y
        · have hxb : decide (x < y) = true := by simpa using hxy
          have HXY := Lib.hid hxy
          clear hxy
          go_wp2
          go_quiet (fail)
          go_wp2
          go_roundw
          case rel => exact ⟨k + 1 + 1, by omega, by go_num, by rw [HST.out, if_pos HXY.out], Lib.hid (hB.out.trans ((below_of_drewN _ _).mono hB.out.size))⟩
          case measure => simp [intOf]; omega
        · have hxb : decide (x < y) = false := by simpa using hxy
          have HXY := Lib.hid hxy
          clear hxy
          go_wp2
          go_quiet (fail)
          go_wp2
          go_roundw
          case rel => exact ⟨k + 1 + 1, by omega, by go_num, by rw [HST.out, if_neg (Int.not_lt.2 HXY.out)], Lib.hid (hB.out.trans ((below_of_drewN _ _).mono hB.out.size))⟩
          case measure => simp [intOf]; omega
    · obtain rfl : k = len := by omega
      go_wp2
      go_ret
      exact ⟨by rw [← firstK_len, hrl]; rfl, hB.out⟩
theorem Try.structItem : Try.prog.underlying 27 = some (.struct (Try.prog.fieldsOf 27)) := by kernel_rfl
theorem Try.stoodItem : Try.prog.stoodInHeld 27 = false := by kernel_rfl
theorem Try.guardItem : Try.prog.eqGuardType Try.prog.depth 27 = false := by kernel_rfl
theorem neq_item (x y : Int × Int) (V : World) : (binOp BinOp.neq 27 (.agg #[.int .i64 x.1, .int .i64 x.2]) (.agg #[.int .i64 y.1, .int .i64 y.2])).run Try.prog V = .ok (.bool (!decide (x = y))) V := by
  obtain ⟨a, s⟩ := x
  obtain ⟨b, t⟩ := y
  simp [go_sem, run_equalIn_agg _ _ _ _ _ Try.structItem Try.stoodItem]
  split <;> (try split) <;> simp_all
set_option maxHeartbeats 1000000 in
theorem same_any {B : Nat} {w : World} {a a' : Option Addr} {b len cap b' len' cap' : Nat} {l l' : List (Int × Int)} (h : ItsAt B w a b len l) (h' : ItsAt B w a' b' len' l') (hs : len ≤ 100000) (hs' : len' ≤ 100000) (hBs : B ≤ w.heap.size) :
    Calls Try.prog 17 #[.slice a len cap, .slice a' len' cap'] w fun e w' => e = .returned (.bool (decide (l = l'))) ∧ Below w.heap.size w w' := by
  have hrl := h.length
  have hrl' := h'.length
  by_cases hll : len = len'
  · subst hll
    go_enter Try.func17, Try.ntmps17
    go_wp2
    go_loopw [5] (fun i wr => ∃ k : Nat, k ≤ len ∧ i = .int .i64 k ∧ Hid (l.take k = l'.take k) ∧ Hid (Below w.heap.size w wr)) (fun i _ => len - (intOf i).toNat)
    case atStart => exact ⟨0, Nat.zero_le _, rfl, Lib.hid rfl, Lib.hid (Below.refl _ _)⟩
    case round =>
      obtain ⟨k, hk, rfl, hE, hB⟩ := hrel
      by_cases hlt : k < len
      · have ha : a = some ⟨b, 0, none⟩ := h.addr.resolve_left (by omega)
        have ha' : a' = some ⟨b', 0, none⟩ := h'.addr.resolve_left (by omega)
        subst ha ha'
        obtain ⟨c0, c1⟩ := (h.kept hB.out hBs).cell k hlt
        obtain ⟨d0, d1⟩ := (h'.kept hB.out hBs).cell k hlt
        have hil : (k : Int) < (len : Int) := by omega
        have hx1 : l[k]'(by omega) = l.getD k default := by simp [List.getD, show k < l.length by omega]
        have hy1 : l'[k]'(by omega) = l'.getD k default := by simp [List.getD, show k < l'.length by omega]
        generalize l.getD k default = x at *
        generalize l'.getD k default = y at *
        have hg := Try.guardItem
        by_cases hxy : x = y
        · have hneq : ∀ V : World, (binOp BinOp.neq 27 (.agg #[.int .i64 x.1, .int .i64 x.2]) (.agg #[.int .i64 y.1, .int .i64 y.2])).run Try.prog V = .ok (.bool false) V := fun V => by rw [neq_item, decide_eq_true hxy]; rfl
          have HXY := Lib.hid hxy
          clear hxy
          go_wp2
          go_quiet (fail)
          go_wp2
          go_roundw
          case rel => exact ⟨k + 1, by omega, by go_num, Lib.hid (by rw [List.take_succ_eq_append_getElem (by omega), List.take_succ_eq_append_getElem (by omega), hE.out]; rw [hx1, hy1, HXY.out]), Lib.hid (hB.out.trans ((below_of_drewN _ _).mono hB.out.size))⟩
          case measure => simp [intOf]; omega
        · have hneq : ∀ V : World, (binOp BinOp.neq 27 (.agg #[.int .i64 x.1, .int .i64 x.2]) (.agg #[.int .i64 y.1, .int .i64 y.2])).run Try.prog V = .ok (.bool true) V := fun V => by rw [neq_item, decide_eq_false hxy]; rfl
          have HXY := Lib.hid hxy
          clear hxy
          go_wp2
          go_quiet (fail)
          go_wp2
          go_ret
          refine ⟨?_, hB.out.trans ((below_of_drewN _ _).mono hB.out.size)⟩
          have : l ≠ l' := fun e => HXY.out (by rw [← hx1, ← hy1]; simp [e])
          simp [this]
      · obtain rfl : k = len := by omega
        rw [List.take_of_length_le (by omega), List.take_of_length_le (by omega)] at hE
        go_wp2
        go_ret
        exact ⟨by simp [hE.out], hB.out⟩
  · have hneb : ((len : Int) != (len' : Int)) = true := by simp; omega
    have HN : Hid (l ≠ l') := Lib.hid (fun e => hll (by rw [← hrl, ← hrl', e]))
    clear hll
    go_enter Try.func17, Try.ntmps17
    go_wp2
    go_ret
    exact ⟨by simp [HN.out], Below.refl _ _⟩
end Go.Proofs.Ytilecfmaehkafaa
