/- Contracts of the reference: what a key has; how many are less; a row without a key; a row with one. -/
import Derived.Test.YtdnnbdmdngiigaaTr
import Derived.Test.YtdnnbdmdngiigaaAw
import Derived.Deep.Upon
set_option linter.unusedVariables false
set_option linter.unusedSectionVars false
namespace Go.Proofs.Ytdnnbdmdngiigaa
open Go.RowKit Rk

theorem get_take {k : Int} (l : List (Int × Int)) (j : Nat) (hj : j < l.length) (h : get ltI k (l.take j) = none) : get ltI k (l.take (j + 1)) = if (l.getD j default).1 = k then some (l.getD j default).2 else none := by
  have e : l.take (j + 1) = l.take j ++ [l.getD j default] := by
    rw [List.take_succ_eq_append_getElem hj]
    simp [List.getD, hj]
  rw [e]
  have h0 : ∀ a ∈ l.take j, (!ltI a.1 k && !ltI k a.1) = false := by
    unfold Rk.get at h
    rw [Option.map_eq_none_iff, List.find?_eq_none] at h
    intro a ha
    simpa using h a ha
  rw [get_append k _ _ h0, get_cons' linI]
  rfl
theorem get_more {k : Int} (l : List (Int × Int)) (j : Nat) {v : Int} (h : get ltI k (l.take j) = some v) : get ltI k l = some v := by
  rw [← List.take_append_drop j l]
  unfold Rk.get at h ⊢
  rw [List.find?_append]
  cases hf : (l.take j).find? (fun p => !ltI p.1 k && !ltI k p.1) with
  | none => rw [hf] at h; cases h
  | some p => rw [hf] at h; simpa using h
set_option maxHeartbeats 1000000 in
theorem rget_any {B : Nat} {w : World} {a : Option Addr} {b len cap : Nat} {l : List (Int × Int)} (h : ItsAt B w a b len l) (hs : len ≤ 100000) (k : Int) :
    Calls Try.prog 6 #[.slice a len cap, .int .i64 k] w fun e w' => e = .returned (.tuple #[.int .i64 (getV k l), .bool (get ltI k l).isSome]) ∧ w = w' := by
  have hrl := h.length
  go_enter Try.func6, Try.ntmps6
  go_wp2
  go_loopw [6] (fun i wr => ∃ j : Nat, j ≤ len ∧ i = .int .i64 j ∧ Hid (get ltI k (l.take j) = none) ∧ w = wr) (fun i _ => len - (intOf i).toNat)
  case atStart => exact ⟨0, Nat.zero_le _, rfl, Lib.hid rfl, rfl⟩
  case round =>
    obtain ⟨j, hj, rfl, hN, rfl⟩ := hrel
    by_cases hlt : j < len
    · have ha : a = some ⟨b, 0, none⟩ := h.addr.resolve_left (by omega)
      subst ha
      obtain ⟨c0, c1⟩ := h.cell j hlt
      have hn := get_take l j (by omega) hN.out
      obtain ⟨x, hx⟩ : ∃ x, (l.getD j default).1 = x := ⟨_, rfl⟩
      obtain ⟨v, hv⟩ : ∃ v, (l.getD j default).2 = v := ⟨_, rfl⟩
      rw [hx] at c0 hn
      rw [hv] at c1 hn
      clear hx hv
      by_cases hxk : x = k
      · rw [if_pos hxk] at hn
        have hg := Lib.hid (get_more l _ hn)
        have he : (x == k) = true := by simp [hxk]
        clear hxk hn
        go_wp2
        go_ret2
        exact ⟨by simp [getV, hg.out], rfl⟩
      · rw [if_neg hxk] at hn
        have he : (x == k) = false := by simp [hxk]
        have HN := Lib.hid hn
        clear hxk hn
        go_wp2
        go_roundw
        case rel => exact ⟨j + 1, by omega, by go_num, HN, trivial⟩
        case measure => simp [intOf]; omega
    · obtain rfl : j = len := by omega
      have hn := hN.out
      rw [List.take_of_length_le (by omega)] at hn
      have HN := Lib.hid hn
      clear hn hN
      go_wp2
      go_ret2
      exact ⟨by simp [getV, HN.out], rfl⟩
theorem rk_take {k : Int} (l : List (Int × Int)) (j : Nat) (hj : j < l.length) : rk ltI k (l.take (j + 1)) = rk ltI k (l.take j) + if (l.getD j default).1 < k then 1 else 0 := by
  have e : l.take (j + 1) = l.take j ++ [l.getD j default] := by
    rw [List.take_succ_eq_append_getElem hj]
    simp [List.getD, hj]
  rw [e, rk_append]
  generalize l.getD j default = d
  congr 1
  by_cases h : d.1 < k
  · simp [rk, ltI, h]
  · simp [rk, ltI, h]
set_option maxHeartbeats 1000000 in
theorem rrank_any {B : Nat} {w : World} {a : Option Addr} {b len cap : Nat} {l : List (Int × Int)} (h : ItsAt B w a b len l) (hs : len ≤ 100000) (k : Int) :
    Calls Try.prog 7 #[.slice a len cap, .int .i64 k] w fun e w' => e = .returned (.int .i64 (rk ltI k l : Int)) ∧ w = w' := by
  have hrl := h.length
  go_enter Try.func7, Try.ntmps7
  go_wp2
  go_loopw [5, 6] (fun n i wr => ∃ j : Nat, j ≤ len ∧ i = .int .i64 j ∧ n = .int .i64 (rk ltI k (l.take j) : Int) ∧ w = wr) (fun _ i _ => len - (intOf i).toNat)
  case atStart => exact ⟨0, Nat.zero_le _, rfl, rfl, rfl⟩
  case round =>
    obtain ⟨j, hj, rfl, rfl, rfl⟩ := hrel
    by_cases hlt : j < len
    · have ha : a = some ⟨b, 0, none⟩ := h.addr.resolve_left (by omega)
      subst ha
      obtain ⟨c0, c1⟩ := h.cell j hlt
      have hn := rk_take (k := k) l j (by omega)
      have hle := rk_le (lt := ltI) k (l.take j)
      rw [List.length_take] at hle
      obtain ⟨x, hx⟩ : ∃ x, (l.getD j default).1 = x := ⟨_, rfl⟩
      rw [hx] at c0 hn
      generalize rk ltI k (l.take j) = r at *
      by_cases hxk : x < k
      · rw [if_pos hxk] at hn
        have HN := Lib.hid hn
        have he : decide (x < k) = true := by simp [hxk]
        clear hxk hn hx c1
        go_wp2
        go_roundw
        case rel => exact ⟨j + 1, by omega, by go_num, by rw [HN.out]; go_num, trivial⟩
        case measure => simp [intOf]; omega
      · rw [if_neg hxk] at hn
        have HN := Lib.hid hn
        have he : decide (x < k) = false := by simp [hxk]
        clear hxk hn hx c1
        go_wp2
        go_roundw
        case rel => exact ⟨j + 1, by omega, by go_num, by rw [HN.out]; rfl, trivial⟩
        case measure => simp [intOf]; omega
    · obtain rfl : j = len := by omega
      rw [List.take_of_length_le (by omega)]
      go_wp2
      go_ret
      exact ⟨rfl, rfl⟩
theorem del_take {k : Int} (l : List (Int × Int)) (j : Nat) (hj : j < l.length) : del ltI k (l.take (j + 1)) = if (l.getD j default).1 = k then del ltI k (l.take j) else del ltI k (l.take j) ++ [l.getD j default] := by
  have e : l.take (j + 1) = l.take j ++ [l.getD j default] := by
    rw [List.take_succ_eq_append_getElem hj]
    simp [List.getD, hj]
  rw [e, del_append]
  generalize l.getD j default = d
  by_cases h : d.1 = k
  · rw [if_pos h]
    have : del ltI k [d] = [] := by simp [del, ltI, h]
    rw [this, List.append_nil]
  · rw [if_neg h]
    have : del ltI k [d] = [d] := del_all (fun a ha => by rw [List.mem_singleton] at ha; subst ha; simp [ltI]; omega)
    rw [this]
set_option maxHeartbeats 1000000 in
theorem rdrop_any {B : Nat} {w : World} {a : Option Addr} {b len cap : Nat} {l : List (Int × Int)} (h : ItsAt B w a b len l) (hs : len ≤ 100000) (hBs : B ≤ w.heap.size) (k : Int) :
    Calls Try.prog 12 #[.slice a len cap, .int .i64 k] w (PairsPost (del ltI k l) w) := by
  have hrl := h.length
  have HI := Lib.hid h
  clear h
  obtain ⟨i0, hi, hz0, hz1, hz2⟩ := info_parts Try.infoPair
  have HIi := Lib.hid hi
  have HZ0 := Lib.hid hz0
  have HZ1 := Lib.hid hz1
  have HZ2 := Lib.hid hz2
  clear hi hz0 hz1 hz2
  go_enter Try.func12, Try.ntmps12
  go_wp2
  go_loopw [5, 6] (fun v i wr => ∃ j : Nat, j ≤ len ∧ i = .int .i64 j ∧ Gath wr w.heap.size 42 2 v (del ltI k (l.take j)).length (its (del ltI k (l.take j))) ∧ Hid (Below w.heap.size w wr)) (fun _ i _ => len - (intOf i).toNat)
  case atStart => exact ⟨0, Nat.zero_le _, rfl, .inl ⟨rfl, rfl, _, rfl⟩, Lib.hid ((Below.refl _ _).alloc (Nat.le_refl _) _)⟩
  case round =>
    obtain ⟨j, hj, rfl, hg, hB⟩ := hrel
    have HG := Lib.hid hg
    by_cases hlt : j < len
    · have hI := HI.out.kept hB.out hBs
      have ha : a = some ⟨b, 0, none⟩ := hI.addr.resolve_left (by omega)
      subst ha
      obtain ⟨c0, c1⟩ := hI.cell j hlt
      have hdl := del_length_le (lt := ltI) k (l.take j)
      rw [List.length_take] at hdl
      have hd := del_take (k := k) l j (by omega)
      obtain ⟨x, hx⟩ : ∃ x, l.getD j default = x := ⟨_, rfl⟩
      rw [hx] at c0 c1 hd
      have hbz := hB.out.size
      obtain ⟨a6, cap6, rfl⟩ := hg.slice
      clear hx hI hg HI
      by_cases hxk : x.1 = k
      · have hkb : (x.1 != k) = false := by simp [hxk]
        rw [if_pos hxk] at hd
        have HD := Lib.hid hd
        clear hxk hd
        go_wp2
        go_roundw
        case rel => exact ⟨j + 1, by omega, by go_num, by rw [HD.out]; exact HG.out, hB⟩
        case measure => simp [intOf]; omega
      · have hkb : (x.1 != k) = true := by simp [hxk]
        rw [if_neg hxk] at hd
        have HD := Lib.hid hd
        clear hxk hd
        go_wp2_with (at_builtin; refine wpList_append_gath _ rfl _ _ 27 rfl w.heap.size 42 i0 (.agg #[.int .i64 0, .int .i64 0]) 2 16 Try.underlying27 HIi.out HZ0.out HZ1.out HZ2.out rfl (by decide) _ _ _ rfl (HG.out.alloc _) ⟨wr.heap.size, 0, none⟩ 1 1 (its [x]) rfl rfl (cell_two _ _ _) (its_one _) (by decide) (by unfold maxLen; omega) (by omega) (by simp; omega) ?_; intro v' w5 hown hb5; obtain ⟨g', cap', rfl⟩ := ownsRow_succ hown; have HO := Lib.hid (And.intro hown hb5); clear hown hb5)
        go_roundw
        case rel => exact ⟨j + 1, by omega, by go_num, by rw [HD.out, List.length_append, List.length_singleton, its_append]; exact .inr HO.out.1, Lib.hid ((hB.out.alloc hB.out.size _).trans HO.out.2)⟩
        case measure => simp [intOf]; omega
    · obtain rfl : j = len := by omega
      obtain ⟨a6, cap6, rfl⟩ := hg.slice
      clear hg
      rw [List.take_of_length_le (by omega)] at HG
      rw [List.take_of_length_le (by omega)]
      go_wp2
      go_ret
      exact ⟨_, rfl, HG.out, hB.out⟩
/-- What 'a row with a key' is, by parts. -/
theorem ins_parts (k : Int) (v : Int) : ∀ l : List (Int × Int), Srt ltI l → ins ltI k v l = (del ltI k l).take (rk ltI k (del ltI k l)) ++ [(k, v)] ++ (del ltI k l).drop (rk ltI k (del ltI k l))
  | [], _ => rfl
  | p :: r, h => by
    obtain ⟨h1, h2⟩ := List.pairwise_cons.1 h
    by_cases c1 : k < p.1
    · have ha : ∀ a ∈ p :: r, k < a.1 := by
        intro a ha
        rcases List.mem_cons.1 ha with rfl | ha
        · exact c1
        · have := h1 a ha; simp [ltI] at this; omega
      have hd : del ltI k (p :: r) = p :: r := del_all (fun a hm => by have := ha a hm; simp [ltI]; omega)
      have hr : rk ltI k (p :: r) = 0 := rk_none (fun a hm => by have := ha a hm; simp [ltI]; omega)
      rw [hd, hr]
      simp [ins, ltI, c1]
    · by_cases c2 : p.1 < k
      · have hd : del ltI k (p :: r) = p :: del ltI k r := by simp [del, ltI, c2]
        have hr : rk ltI k (p :: del ltI k r) = rk ltI k (del ltI k r) + 1 := by simp [rk, ltI, c2]
        rw [hd, hr]
        have ih := ins_parts k v r h2
        have e1 : ltI k p.1 = false := by simp [ltI, c1]
        have e2 : ltI p.1 k = true := by simp [ltI, c2]
        simp only [ins, e1, e2, if_true, List.take_succ_cons, List.drop_succ_cons, List.cons_append]
        rw [if_neg (by simp), ih]
      · have e : p.1 = k := by omega
        have hd : del ltI k (p :: r) = r := by
          have h3 : del ltI k r = r := del_all (fun a hm => by have := h1 a hm; simp [ltI] at this ⊢; omega)
          unfold del at h3 ⊢
          rw [List.filter_cons, if_neg (by simp [ltI, e]), h3]
        have hr : rk ltI k r = 0 := rk_none (fun a hm => by have := h1 a hm; simp [ltI] at this ⊢; omega)
        rw [hd, hr]
        simp [ins, ltI, e]
/-- append of what lies at an address, nothing too. -/
theorem wpList_append_src {P : Program} (w : World) {ops : Array Oper} {rest : List Oper} {o : Oper} {a : Act} {Q : Exit → Act → World → Prop} (hw : Region.wanted o (yielded ops a.tmps) = true) (s x : Operand) (t : TypeId)
    (hop : o.op = Op.call { callee := Callee.builtin Builtin.append, args := #[s, x], argTypes := #[t, t] })
    (base : Nat) (e : TypeId) (i : TypeInfo) (z : Value) (size bytes : Nat) (h1 : P.underlying t = some (.slice e)) (h2 : P.info? e = some i) (h3 : i.zero = some z) (h4 : i.size = size) (h5 : i.bytes = bytes) (h6 : z.cells.size = size) (h7 : 0 < size)
    (av : Option Addr) (cv n : Nat) (xs : List Value) (hs : a.eval s = .slice av n cv) (hown : Gath w base e size (.slice av n cv) n xs) (hcv : n ≤ cv)
    (ax : Option Addr) (m cx : Nat) (ys : List Value) (hx : a.eval x = .slice ax m cx) (hyl : ys.length = m * size) (hsrc : m = 0 ∨ ∃ ad, ax = some ad ∧ ∀ j u, ys[j]? = some u → w.cell? (ad.add j) = some u) (h1c : ∀ u ∈ ys, u.oneCell' = true)
    (b1 : n + m ≤ maxLen) (b2 : (n + m) * bytes ≤ 140737488355328) (hbase : base ≤ w.heap.size)
    (hK : ∀ v' w', Gath w' base e size v' (n + m) (xs ++ ys) → Below base w w' → wpList P ops Q rest (a.put o.dst v') w') :
    wpList P ops Q (o :: rest) a w := by
  refine wpList_step fun K hK' => ?_
  rw [if_pos hw]
  by_cases hm : m = 0
  · subst hm
    have hy : ys = [] := List.eq_nil_of_length_eq_zero (by rw [hyl]; simp)
    subst hy
    have hld : ∀ (x : Addr) (W : World), (loadCells x 0).run P W = .ok #[] W := fun x W => by simpa using run_loadCells_list (P := P) W x [] (by simp)
    have hrun := run_append_nothing (P := P) w t t o.type e i h1 h2 av n cv hcv (.slice ax 0 cx) ⟨.inl ⟨e, h1⟩, fun w' => by simp [Builtin.lenOf], by cases ax <;> simp [Builtin.firstCells, hld], by cases ax <;> simp [Builtin.firstCells, hld], by simp, by simp⟩
    unfold Oper.wp
    simp [execOp, hop, resolve, invoke, builtin, hs, hx, hrun, Result.andThen]
    refine hK' _ _ (hK _ _ ?_ (Below.refl _ _))
    simpa using hown
  · obtain ⟨ad, rfl, hc⟩ := hsrc.resolve_left hm
    rcases hown with ⟨rfl, rfl, ao, hv⟩ | hown
    · cases hv
      cases av with
      | none =>
        obtain ⟨v', w', hrun, r1, r2, _⟩ := run_append_own (P := P) w w.heap.size t o.type e i z size bytes h1 h2 h3 h4 h5 h6 h7 (.slice none 0 0) 0 [] (World.ownsRow_nil w _ e size) ad m cx ys hyl hc h1c b1 b2 (Nat.le_refl _)
        unfold Oper.wp
        simp [execOp, hop, resolve, invoke, builtin, hs, hx, hrun, Result.andThen]
        exact hK' _ _ (hK _ _ (.inr (ownsRow_base r1 hbase)) ((Below.refl _ _).grown r2 hbase (fun r e => by simp [Value.ownBlock] at e)))
      | some b =>
        obtain ⟨v', w', hrun, r1, r2⟩ := run_append_arg_grows (P := P) w t o.type e i z size bytes h1 h2 h3 h4 h5 h6 h7 b 0 0 [] (by simp) (fun j u hj => by simp at hj) ad m cx ys hyl hc (by omega) b1 b2
        unfold Oper.wp
        simp [execOp, hop, resolve, invoke, builtin, hs, hx, hrun, Result.andThen]
        exact hK' _ _ (hK _ _ (.inr (ownsRow_base r1 hbase)) ((Below.refl _ _).grown r2 hbase (fun r e => by cases e)))
    · obtain ⟨v', w', hrun, r1, r2, g', cap', rfl, r4, r5⟩ := run_append_where (P := P) w base t o.type e i z size bytes h1 h2 h3 h4 h5 h6 h7 (.slice av n cv) n xs hown ad m cx ys hyl hc h1c (by omega) b1 b2 hbase
      unfold Oper.wp
      simp [execOp, hop, resolve, invoke, builtin, hs, hx, hrun, Result.andThen]
      exact hK' _ _ (hK _ _ (.inr r1) ((Below.refl _ _).grown r2 hbase (fun r e => (owns_block hown e).1)))
end Go.Proofs.Ytdnnbdmdngiigaa
