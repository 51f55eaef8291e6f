/- Contract of the reference: two rows compared; append to what is gathered, and where it lies. -/
import Derived.Test.YtfghcjhfbbdanaaHo
import Derived.Laws.StructEq
set_option linter.unusedVariables false
namespace Go.Proofs.Ytfghcjhfbbdanaa
open Go.RowKit

theorem below_of_drewN (W : World) (n : Nat) : Below W.heap.size W (W.drewN n) := ⟨rfl, rfl, rfl, Nat.le_refl _, fun _ _ => rfl⟩
/-- The order by keys. -/
def kk (x : Int × Int) : Int := x.1
theorem Try.structItem : Try.prog.underlying 26 = some (.struct (Try.prog.fieldsOf 26)) := by kernel_rfl
theorem Try.stoodItem : Try.prog.stoodInHeld 26 = false := by kernel_rfl
theorem Try.guardItem : Try.prog.eqGuardType Try.prog.depth 26 = false := by kernel_rfl
theorem neq_item (x y : Int × Int) (V : World) : (binOp BinOp.neq 26 (.agg #[.int .i64 x.1, .int .i64 x.2]) (.agg #[.int .i64 y.1, .int .i64 y.2])).run Try.prog V = .ok (.bool (!decide (x = y))) V := by
  obtain ⟨a, s⟩ := x
  obtain ⟨b, t⟩ := y
  simp [go_sem, run_equalIn_agg _ _ _ _ _ Try.structItem Try.stoodItem]
  split <;> (try split) <;> simp_all
set_option maxHeartbeats 1000000 in
theorem same_any {B : Nat} {w : World} {a a' : Option Addr} {b len cap b' len' cap' : Nat} {l l' : List (Int × Int)} (h : ItsAt B w a b len l) (h' : ItsAt B w a' b' len' l') (hs : len ≤ 100000) (hs' : len' ≤ 100000) (hBs : B ≤ w.heap.size) :
    Calls Try.prog 9 #[.slice a len cap, .slice a' len' cap'] w fun e w' => e = .returned (.bool (decide (l = l'))) ∧ Below w.heap.size w w' := by
  have hrl := h.length
  have hrl' := h'.length
  by_cases hll : len = len'
  · subst hll
    go_enter Try.func9, Try.ntmps9
    go_wp2
    go_loopw [5] (fun i wr => ∃ k : Nat, k ≤ len ∧ i = .int .i64 k ∧ Hid (l.take k = l'.take k) ∧ Hid (Below w.heap.size w wr)) (fun i _ => len - (intOf i).toNat)
    case atStart => exact ⟨0, Nat.zero_le _, rfl, Lib.hid rfl, Lib.hid (Below.refl _ _)⟩
    case round =>
      obtain ⟨k, hk, rfl, hE, hB⟩ := hrel
      by_cases hlt : k < len
      · have ha : a = some ⟨b, 0, none⟩ := h.addr.resolve_left (by omega)
        have ha' : a' = some ⟨b', 0, none⟩ := h'.addr.resolve_left (by omega)
        subst ha ha'
        obtain ⟨c0, c1⟩ := (h.kept hB.out hBs).cell k hlt
        obtain ⟨d0, d1⟩ := (h'.kept hB.out hBs).cell k hlt
        have hil : (k : Int) < (len : Int) := by omega
        have hx1 : l[k]'(by omega) = l.getD k default := by simp [List.getD, show k < l.length by omega]
        have hy1 : l'[k]'(by omega) = l'.getD k default := by simp [List.getD, show k < l'.length by omega]
        generalize l.getD k default = x at *
        generalize l'.getD k default = y at *
        have hg := Try.guardItem
        by_cases hxy : x = y
        · have hneq : ∀ V : World, (binOp BinOp.neq 26 (.agg #[.int .i64 x.1, .int .i64 x.2]) (.agg #[.int .i64 y.1, .int .i64 y.2])).run Try.prog V = .ok (.bool false) V := fun V => by rw [neq_item, decide_eq_true hxy]; rfl
          have HXY := Lib.hid hxy
          clear hxy
          go_wp2
          go_quiet (fail)
          go_wp2
          go_roundw
          case rel => exact ⟨k + 1, by omega, by go_num, Lib.hid (by rw [List.take_succ_eq_append_getElem (by omega), List.take_succ_eq_append_getElem (by omega), hE.out]; rw [hx1, hy1, HXY.out]), Lib.hid (hB.out.trans ((below_of_drewN _ _).mono hB.out.size))⟩
          case measure => simp [intOf]; omega
        · have hneq : ∀ V : World, (binOp BinOp.neq 26 (.agg #[.int .i64 x.1, .int .i64 x.2]) (.agg #[.int .i64 y.1, .int .i64 y.2])).run Try.prog V = .ok (.bool true) V := fun V => by rw [neq_item, decide_eq_false hxy]; rfl
          have HXY := Lib.hid hxy
          clear hxy
          go_wp2
          go_quiet (fail)
          go_wp2
          go_ret
          refine ⟨?_, hB.out.trans ((below_of_drewN _ _).mono hB.out.size)⟩
          have : l ≠ l' := fun e => HXY.out (by rw [← hx1, ← hy1]; simp [e])
          simp [this]
      · obtain rfl : k = len := by omega
        rw [List.take_of_length_le (by omega), List.take_of_length_le (by omega)] at hE
        go_wp2
        go_ret
        exact ⟨by simp [hE.out], hB.out⟩
  · have hneb : ((len : Int) != (len' : Int)) = true := by simp; omega
    have HN : Hid (l ≠ l') := Lib.hid (fun e => hll (by rw [← hrl, ← hrl', e]))
    clear hll
    go_enter Try.func9, Try.ntmps9
    go_wp2
    go_ret
    exact ⟨by simp [HN.out], Below.refl _ _⟩
/-- append to what is gathered, and where the new row lies. -/
theorem wpList_append_gathW {P : Program} (w : World) {ops : Array Oper} {rest : List Oper} {o : Oper} {a : Act} {Q : Exit → Act → World → Prop} (hgd : o.guard = none) (s x : Operand) (t : TypeId)
    (hop : o.op = Op.call { callee := Callee.builtin Builtin.append, args := #[s, x], argTypes := #[t, t] })
    (base : Nat) (e : TypeId) (i : TypeInfo) (z : Value) (size bytes : Nat) (h1 : P.underlying t = some (.slice e)) (h2 : P.info? e = some i) (h3 : i.zero = some z) (h4 : i.size = size) (h5 : i.bytes = bytes) (h6 : z.cells.size = size) (h7 : 0 < size)
    (v : Value) (n : Nat) (xs : List Value) (hs : a.eval s = v) (hown : Gath w base e size v n xs)
    (ad : Addr) (m c : Nat) (news : List Value) (hx : a.eval x = .slice (some ad) m c) (hn : news.length = m * size) (hc : ∀ j u, news[j]? = some u → w.cell? (ad.add j) = some u) (h1c : ∀ u ∈ news, u.oneCell' = true)
    (hm : 0 < m) (b1 : n + m ≤ maxLen) (b2 : (n + m) * bytes ≤ 140737488355328) (hbase : base ≤ w.heap.size)
    (hK : ∀ g cap w' row, w'.ownsRow base e size (.slice (some ⟨g, 0, none⟩) (n + m) cap) (n + m) (xs ++ news) → w.grownBy w' row → (∀ r, row = some r → v.ownBlock = some r ∧ w.ownsRow base e size v n xs) → ((v.ownBlock = some g ∧ w.ownsRow base e size v n xs) ∨ w.heap.size ≤ g) → wpList P ops Q rest (a.put o.dst (.slice (some ⟨g, 0, none⟩) (n + m) cap)) w') :
    wpList P ops Q (o :: rest) a w := by
  rcases hown with ⟨rfl, rfl, ao, rfl⟩ | hown
  · refine wpList_append_grows w hgd s x t hop e i z size bytes h1 h2 h3 h4 h5 h6 h7 ao 0 0 [] hs (fun _ => ⟨rfl, rfl⟩) (by simp) (fun b _ j u hj => by simp at hj) ad m c news hx hn hc h1c (by omega) b1 b2 ?_
    intro v' w' r1 r2
    rcases r1.2 with ⟨_, h0⟩ | ⟨g, cap, cur, rfl, hb, _⟩
    · omega
    · exact hK g cap w' none (ownsRow_base r1 hbase) r2 (fun r e => by cases e) (.inr hb)
  · refine wpList_append_where w hgd s x t hop base e i z size bytes h1 h2 h3 h4 h5 h6 h7 v n xs hs hown ad m c news hx hn hc h1c hm b1 b2 hbase ?_
    intro g cap w' r1 r2 _ r4
    exact hK g cap w' _ r1 r2 (fun r e => ⟨e, hown⟩) (r4.imp (fun e => ⟨e, hown⟩) id)

end Go.Proofs.Ytfghcjhfbbdanaa
