/- Same, of a row that begins inside another. -/
import Derived.Test.YtdnnbdmdngiigaaTw
set_option linter.unusedVariables false
set_option linter.unusedSectionVars false
namespace Go.Proofs.Ytdnnbdmdngiigaa
open Go.RowKit Rk

attribute [local go_sem] Oper.semAt_some

/-- A slice of pairs below block B, from an offset on. -/
structure ItsOff (B : Nat) (w : World) (a : Option Addr) (b off len : Nat) (l : List (Int × Int)) : Prop where
  addr : len = 0 ∨ a = some ⟨b, off, none⟩
  length : l.length = len
  below : len = 0 ∨ b < B
  cell : ∀ i, i < len → w.cell? ⟨b, off + i * 2, none⟩ = some (.int .i64 (l.getD i default).1) ∧ w.cell? ⟨b, off + i * 2 + 1, none⟩ = some (.int .i64 (l.getD i default).2)
theorem ItsOff.kept {B B' : Nat} {w w' : World} {a : Option Addr} {b off len : Nat} {l : List (Int × Int)} (h : ItsOff B w a b off len l) (hb : Below B' w w') (hB : B ≤ B') : ItsOff B w' a b off len l :=
  ⟨h.addr, h.length, h.below, fun i hi => by
    have h1 := h.below.resolve_left (by omega)
    have h2 := h.cell i hi
    exact ⟨(hb.cell (p := ⟨b, off + i * 2, none⟩) (by show b < B'; omega)).trans h2.1, (hb.cell (p := ⟨b, off + i * 2 + 1, none⟩) (by show b < B'; omega)).trans h2.2⟩⟩
theorem ItsOff.mono {B B' : Nat} {w : World} {a : Option Addr} {b off len : Nat} {l : List (Int × Int)} (h : ItsOff B w a b off len l) (hB : B ≤ B') : ItsOff B' w a b off len l :=
  ⟨h.addr, h.length, h.below.imp id (fun g => Nat.lt_of_lt_of_le g hB), h.cell⟩
theorem ItsAt.part {B : Nat} {w : World} {a : Option Addr} {b len : Nat} {l : List (Int × Int)} (h : ItsAt B w a b len l) (r m : Nat) (hrm : r + m ≤ len) (ax : Option Addr) (hx : m = 0 ∨ ax = some ⟨b, r * 2, none⟩) : ItsOff B w ax b (r * 2) m ((l.drop r).take m) := by
  have hl := h.length
  refine ⟨hx, by rw [List.length_take, List.length_drop]; omega, h.below.imp (fun e => by omega) id, fun i hi => ?_⟩
  have e : ((l.drop r).take m).getD i default = l.getD (r + i) default := by simp [List.getD, hi]
  rw [e]
  obtain ⟨c1, c2⟩ := h.cell (r + i) (by omega)
  rw [show r * 2 + i * 2 = (r + i) * 2 by omega]
  exact ⟨c1, c2⟩
set_option maxHeartbeats 1000000 in
theorem same_off {B : Nat} {w : World} {a a' : Option Addr} {b len cap b' off' len' cap' : Nat} {l l' : List (Int × Int)} (h : ItsAt B w a b len l) (h' : ItsOff B w a' b' off' len' l') (hs : len ≤ 100000) (hs' : len' ≤ 100000) (hBs : B ≤ w.heap.size) :
    Calls Try.prog 15 #[.slice a len cap, .slice a' len' cap'] w fun e w' => e = .returned (.bool (decide (l = l'))) ∧ Below w.heap.size w w' := by
  have hrl := h.length
  have hrl' := h'.length
  by_cases hll : len = len'
  · subst hll
    go_enter Try.func15, Try.ntmps15
    go_wp2
    go_loopw [5] (fun i wr => ∃ k : Nat, k ≤ len ∧ i = .int .i64 k ∧ Hid (l.take k = l'.take k) ∧ Hid (Below w.heap.size w wr)) (fun i _ => len - (intOf i).toNat)
    case atStart => exact ⟨0, Nat.zero_le _, rfl, Lib.hid rfl, Lib.hid (Below.refl _ _)⟩
    case round =>
      obtain ⟨k, hk, rfl, hE, hB⟩ := hrel
      by_cases hlt : k < len
      · have ha : a = some ⟨b, 0, none⟩ := h.addr.resolve_left (by omega)
        have ha' : a' = some ⟨b', off', none⟩ := h'.addr.resolve_left (by omega)
        subst ha ha'
        obtain ⟨c0, c1⟩ := (h.kept hB.out hBs).cell k hlt
        obtain ⟨d0, d1⟩ := (h'.kept hB.out hBs).cell k hlt
        have hil : (k : Int) < (len : Int) := by omega
        have hx1 : l[k]'(by omega) = l.getD k default := by simp [List.getD, show k < l.length by omega]
        have hy1 : l'[k]'(by omega) = l'.getD k default := by simp [List.getD, show k < l'.length by omega]
        generalize l.getD k default = x at *
        generalize l'.getD k default = y at *
        have hg := Try.guardPair
        by_cases hxy : x = y
        · have hneq : ∀ V : World, (binOp BinOp.neq 42 (.agg #[.int .i64 x.1, .int .i64 x.2]) (.agg #[.int .i64 y.1, .int .i64 y.2])).run Try.prog V = .ok (.bool false) V := fun V => by rw [neq_pair, decide_eq_true hxy]; rfl
          have HXY := Lib.hid hxy
          clear hxy
          go_wp2
          go_quiet (fail)
          go_wp2
          go_roundw
          case rel => exact ⟨k + 1, by omega, by go_num, Lib.hid (by rw [List.take_succ_eq_append_getElem (by omega), List.take_succ_eq_append_getElem (by omega), hE.out]; rw [hx1, hy1, HXY.out]), Lib.hid (hB.out.trans ((below_of_drewN _ _).mono hB.out.size))⟩
          case measure => simp [intOf]; omega
        · have hneq : ∀ V : World, (binOp BinOp.neq 42 (.agg #[.int .i64 x.1, .int .i64 x.2]) (.agg #[.int .i64 y.1, .int .i64 y.2])).run Try.prog V = .ok (.bool true) V := fun V => by rw [neq_pair, decide_eq_false hxy]; rfl
          have HXY := Lib.hid hxy
          clear hxy
          go_wp2
          go_quiet (fail)
          go_wp2
          go_ret
          refine ⟨?_, hB.out.trans ((below_of_drewN _ _).mono hB.out.size)⟩
          have : l ≠ l' := fun e => HXY.out (by rw [← hx1, ← hy1]; simp [e])
          simp [this]
      · obtain rfl : k = len := by omega
        rw [List.take_of_length_le (by omega), List.take_of_length_le (by omega)] at hE
        go_wp2
        go_ret
        exact ⟨by simp [hE.out], hB.out⟩
  · have hneb : ((len : Int) != (len' : Int)) = true := by simp; omega
    have HN : Hid (l ≠ l') := Lib.hid (fun e => hll (by rw [← hrl, ← hrl', e]))
    clear hll
    go_enter Try.func15, Try.ntmps15
    go_wp2
    go_ret
    exact ⟨by simp [HN.out], Below.refl _ _⟩

end Go.Proofs.Ytdnnbdmdngiigaa
