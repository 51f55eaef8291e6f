/- Contracts of the reference: a row without one; a row in order. -/
import Derived.Test.YtilecfmaehkafaaJa
set_option linter.unusedVariables false
namespace Go.Proofs.Ytilecfmaehkafaa
open Go.RowKit

/-- append to what is gathered, and where the new row lies. -/
theorem wpList_append_gathW {P : Program} (w : World) {ops : Array Oper} {rest : List Oper} {o : Oper} {a : Act} {Q : Exit → Act → World → Prop} (hgd : o.guard = none) (s x : Operand) (t : TypeId)
    (hop : o.op = Op.call { callee := Callee.builtin Builtin.append, args := #[s, x], argTypes := #[t, t] })
    (base : Nat) (e : TypeId) (i : TypeInfo) (z : Value) (size bytes : Nat) (h1 : P.underlying t = some (.slice e)) (h2 : P.info? e = some i) (h3 : i.zero = some z) (h4 : i.size = size) (h5 : i.bytes = bytes) (h6 : z.cells.size = size) (h7 : 0 < size)
    (v : Value) (n : Nat) (xs : List Value) (hs : a.eval s = v) (hown : Gath w base e size v n xs)
    (ad : Addr) (m c : Nat) (news : List Value) (hx : a.eval x = .slice (some ad) m c) (hn : news.length = m * size) (hc : ∀ j u, news[j]? = some u → w.cell? (ad.add j) = some u) (h1c : ∀ u ∈ news, u.oneCell' = true)
    (hm : 0 < m) (b1 : n + m ≤ maxLen) (b2 : (n + m) * bytes ≤ 140737488355328) (hbase : base ≤ w.heap.size)
    (hK : ∀ g cap w' row, w'.ownsRow base e size (.slice (some ⟨g, 0, none⟩) (n + m) cap) (n + m) (xs ++ news) → w.grownBy w' row → (∀ r, row = some r → v.ownBlock = some r ∧ w.ownsRow base e size v n xs) → ((v.ownBlock = some g ∧ w.ownsRow base e size v n xs) ∨ w.heap.size ≤ g) → wpList P ops Q rest (a.put o.dst (.slice (some ⟨g, 0, none⟩) (n + m) cap)) w') :
    wpList P ops Q (o :: rest) a w := by
  rcases hown with ⟨rfl, rfl, ao, rfl⟩ | hown
  · refine wpList_append_grows w hgd s x t hop e i z size bytes h1 h2 h3 h4 h5 h6 h7 ao 0 0 [] hs (fun _ => ⟨rfl, rfl⟩) (by simp) (fun b _ j u hj => by simp at hj) ad m c news hx hn hc h1c (by omega) b1 b2 ?_
    intro v' w' r1 r2
    rcases r1.2 with ⟨_, h0⟩ | ⟨g, cap, cur, rfl, hb, _⟩
    · omega
    · exact hK g cap w' none (ownsRow_base r1 hbase) r2 (fun r e => by cases e) (.inr hb)
  · refine wpList_append_where w hgd s x t hop base e i z size bytes h1 h2 h3 h4 h5 h6 h7 v n xs hs hown ad m c news hx hn hc h1c hm b1 b2 hbase ?_
    intro g cap w' r1 r2 _ r4
    exact hK g cap w' _ r1 r2 (fun r e => ⟨e, hown⟩) (r4.imp (fun e => ⟨e, hown⟩) id)

/-- Of k of them, without one. -/
def wo (row : List (Int × Int)) (at0 : Int) : Nat → List (Int × Int)
  | 0 => []
  | k + 1 => if (k : Int) = at0 then wo row at0 k else wo row at0 k ++ [row.getD k default]
def withoutI (row : List (Int × Int)) (at0 : Int) : List (Int × Int) := wo row at0 row.length
theorem wo_length (row : List (Int × Int)) (at0 : Int) : ∀ k, (wo row at0 k).length ≤ k
  | 0 => Nat.le_refl _
  | k + 1 => by unfold wo; have := wo_length row at0 k; split <;> simp <;> omega
theorem wo_before (row : List (Int × Int)) (j : Nat) : ∀ k, k ≤ j → k ≤ row.length → wo row j k = row.take k
  | 0, _, _ => rfl
  | k + 1, h, hl => by
    unfold wo
    rw [if_neg (by omega), wo_before row j k (by omega) (by omega), List.take_succ_eq_append_getElem (by omega)]
    simp [List.getD, show k < row.length by omega]
theorem wo_behind (row : List (Int × Int)) (j : Nat) (hj : j < row.length) : ∀ k, j < k → k ≤ row.length → wo row j k = (row.take k).eraseIdx j
  | 0, h, _ => by omega
  | k + 1, h, hl => by
    unfold wo
    rw [List.take_succ_eq_append_getElem (by omega)]
    by_cases e : k = j
    · subst e
      rw [if_pos rfl, wo_before row k k (Nat.le_refl _) (by omega), List.eraseIdx_append, if_neg (by rw [List.length_take]; omega)]
      rw [List.length_take, Nat.min_eq_left (by omega), Nat.sub_self]
      simp
    · rw [if_neg (by omega), wo_behind row j hj k (by omega) (by omega), List.eraseIdx_append, if_pos (by rw [List.length_take]; omega)]
      simp [List.getD, show k < row.length by omega]
theorem withoutI_first (row : List (Int × Int)) (h : row.length ≠ 0) : withoutI row (firstI row) = Hm.rest kk row := by
  have hl := Hm.first_lt (kf := kk) h
  unfold withoutI firstI
  rw [if_neg h, wo_behind row _ hl _ hl (Nat.le_refl _), List.take_of_length_le (Nat.le_refl _)]
  rfl
theorem withoutI_none (row : List (Int × Int)) : withoutI row (-1) = row := by
  have key : ∀ k, k ≤ row.length → wo row (-1) k = row.take k := by
    intro k
    induction k with
    | zero => intro _; rfl
    | succ k ih =>
      intro h
      unfold wo
      rw [if_neg (by omega), ih (by omega), List.take_succ_eq_append_getElem (by omega)]
      simp [List.getD, show k < row.length by omega]
  unfold withoutI
  rw [key _ (Nat.le_refl _), List.take_of_length_le (Nat.le_refl _)]

def ItemsPost (l : List (Int × Int)) (w : World) (e : Ending) (w' : World) : Prop :=
  ∃ v, e = .returned v ∧ Gath w' w.heap.size 27 2 v l.length (its l) ∧ Below w.heap.size w w'

set_option maxHeartbeats 1000000 in
theorem without_any {B : Nat} {w : World} {a : Option Addr} {b len cap : Nat} {row : List (Int × Int)} (h : ItsAt B w a b len row) (hs : len ≤ 100000) (hBs : B ≤ w.heap.size) (at0 : Int) :
    Calls Try.prog 14 #[.slice a len cap, .int .i64 at0] w (ItemsPost (withoutI row at0) w) := by
  have hrl := h.length
  have HI := Lib.hid h
  clear h
  obtain ⟨i0, hi, hz0, hz1, hz2⟩ := info_parts Try.infoItem
  have HIi := Lib.hid hi
  have HZ0 := Lib.hid hz0
  have HZ1 := Lib.hid hz1
  have HZ2 := Lib.hid hz2
  clear hi hz0 hz1 hz2
  go_enter Try.func14, Try.ntmps14
  go_wp2
  go_loopw [5, 6] (fun v i wr => ∃ k : Nat, k ≤ len ∧ i = .int .i64 k ∧ Gath wr w.heap.size 27 2 v (wo row at0 k).length (its (wo row at0 k)) ∧ Hid (Below w.heap.size w wr)) (fun _ i _ => len - (intOf i).toNat)
  case atStart => exact ⟨0, Nat.zero_le _, rfl, .inl ⟨rfl, rfl, _, rfl⟩, Lib.hid ((Below.refl _ _).alloc (Nat.le_refl _) _)⟩
  case round =>
    obtain ⟨k, hk, rfl, hg, hB⟩ := hrel
    have HG := Lib.hid hg
    by_cases hlt : k < len
    · have hI := HI.out.kept hB.out hBs
      have ha : a = some ⟨b, 0, none⟩ := hI.addr.resolve_left (by omega)
      subst ha
      obtain ⟨c0, c1⟩ := hI.cell k hlt
      have hwl := wo_length row at0 k
      obtain ⟨x, hx⟩ : ∃ x, row.getD k default = x := ⟨_, rfl⟩
      rw [hx] at c0 c1
      have HX := Lib.hid hx
      have hbz := hB.out.size
      obtain ⟨a6, cap6, rfl⟩ := hg.slice
      clear hx hI hg HI
      by_cases hka : (k : Int) = at0
      · have hkb : ((k : Int) != at0) = false := by simp [hka]
        have HW : Hid (wo row at0 (k + 1) = wo row at0 k) := Lib.hid (by rw [wo, if_pos hka])
        clear hka
        go_wp2
        go_roundw
        case rel => exact ⟨k + 1, by omega, by go_num, by rw [HW.out]; exact HG.out, hB⟩
        case measure => simp [intOf]; omega
      · have hkb : ((k : Int) != at0) = true := by simp [hka]
        have HW : Hid (wo row at0 (k + 1) = wo row at0 k ++ [x]) := Lib.hid (by rw [wo, if_neg hka, HX.out])
        clear hka
        go_wp2_with (at_builtin; refine wpList_append_gath _ rfl _ _ 29 rfl w.heap.size 27 i0 (.agg #[.int .i64 0, .int .i64 0]) 2 16 Try.underlying29 HIi.out HZ0.out HZ1.out HZ2.out rfl (by decide) _ _ _ rfl (HG.out.alloc _) ⟨wr.heap.size, 0, none⟩ 1 1 (its [x]) rfl rfl (cell_two _ _ _) (its_one _) (by decide) (by unfold maxLen; omega) (by omega) (by simp; omega) ?_; intro v' w5 hown hb5; obtain ⟨g', cap', rfl⟩ := ownsRow_succ hown; have HO := Lib.hid (And.intro hown hb5); clear hown hb5)
        go_roundw
        case rel => exact ⟨k + 1, by omega, by go_num, by rw [HW.out, List.length_append, List.length_singleton, its_append]; exact .inr HO.out.1, Lib.hid ((hB.out.alloc hB.out.size _).trans HO.out.2)⟩
        case measure => simp [intOf]; omega
    · obtain rfl : k = len := by omega
      obtain ⟨a6, cap6, rfl⟩ := hg.slice
      clear hg
      go_wp2
      go_ret
      refine ⟨_, rfl, ?_, hB.out⟩
      unfold withoutI
      rw [hrl]
      exact HG.out
end Go.Proofs.Ytilecfmaehkafaa
