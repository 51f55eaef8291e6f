/- The walk of RankedPlays: every answer of a row of steps. -/
import Derived.Test.YtdnnbdmdngiigaaTy
import Derived.IntWalk
import Derived.Deep.DeepCutAuto
import Derived.Deep.CutBlock
import Derived.Deep.RegionWith
set_option linter.unusedVariables false
set_option linter.unusedSectionVars false
namespace Go.Proofs.Ytdnnbdmdngiigaa
open Go.RowKit Rk

theorem gath_put {W W' : World} {base mb : Nat} {v : Value} {n : Nat} {xs : List Value} (h : Gath W base 42 2 v n xs) (hM : ∃ cs, W.heap[mb]? = some (.cells cs 26 (0, 0))) (ht : Turned (fun c => c = mb) W W') : Gath W' base 42 2 v n xs := by
  obtain ⟨cs, hcs⟩ := hM
  refine h.imp id fun ho => ⟨ho.1, ?_⟩
  rcases ho.2 with h3 | ⟨g, cap, cur, rfl, hb, hg', r⟩
  · exact .inl h3
  · exact .inr ⟨g, cap, cur, rfl, hb, ht.old hg' (fun e => by subst e; rw [hcs] at hg'; cases hg'), r⟩
theorem gath_low {W : World} {base base' : Nat} {v : Value} {n : Nat} {xs : List Value} (h : Gath W base 42 2 v n xs) (hb : base' ≤ base) : Gath W base' 42 2 v n xs := h.imp id (fun g => ownsRow_base g hb)
theorem gath_stays {W W' : World} {base : Nat} {e : TypeId} {size : Nat} {v : Value} {n : Nat} {xs : List Value} (h : Gath W base e size v n xs) (hb : Below W.heap.size W W') : Gath W' base e size v n xs :=
  h.imp id (fun g => g.kept (row := none) ⟨hb.os, hb.tape, hb.output, hb.size, fun k hk _ => hb.block k hk⟩ (by cases v.ownBlock <;> simp))
/-- What is true between two steps. -/
structure PlR (w : World) (mb i : Nat) (v : Value) (L : List (Int × Int)) (W : World) : Prop where
  len : L.length ≤ i
  map : IsM W mb 0 L
  row : Gath W w.heap.size 42 2 v L.length (its L)
  below : Below w.heap.size w W
theorem PlR.on {w : World} {mb i : Nat} {v : Value} {L : List (Int × Int)} {W W' : World} (h : PlR w mb i v L W) (hB : Below W.heap.size W W') : PlR w mb i v L W' :=
  ⟨h.len, h.map.below hB, gath_stays h.row hB, h.below.trans (hB.mono h.below.size)⟩
theorem PlR.more {w : World} {mb i i' : Nat} {v : Value} {L : List (Int × Int)} {W : World} (h : PlR w mb i v L W) (hi : i ≤ i') : PlR w mb i' v L W := ⟨Nat.le_trans h.len hi, h.map, h.row, h.below⟩
/-- The map turned: the row as it was. -/
theorem PlR.put {w : World} {mb i : Nat} {v : Value} {L L' : List (Int × Int)} {W W' : World} (h : PlR w mb i v L W) (hmb : w.heap.size ≤ mb) (hP : PutW mb 0 L' W W') : Gath W' w.heap.size 42 2 v L.length (its L) ∧ Below w.heap.size w W' ∧ W.heap.size ≤ W'.heap.size :=
  ⟨gath_put h.row h.map.box hP.turned, below_turned h.below hP.turned (fun i _ e => by omega) h.below.size, hP.turned.size⟩
theorem and_7 (n : Int) : bits .and .i64 n 7 = n % 8 := by
  have h511 : (BitVec.ofInt 64 7).toNat = 2 ^ 3 - 1 := by decide
  have key : (BitVec.ofInt 64 n &&& BitVec.ofInt 64 7).toNat = (n % ((2 ^ 64 : Nat) : Int)).toNat % 2 ^ 3 := by
    rw [BitVec.toNat_and, BitVec.toNat_ofInt, h511, Nat.and_two_pow_sub_one_eq_mod]
  show IntKind.i64.wrap ((BitVec.ofInt 64 n &&& BitVec.ofInt 64 7).toNat : Nat) = n % 8
  rw [key, IntKind.wrap_i64]
  omega
/-- What 'from' answers, and what 'Same' says of it. -/
theorem from_same {w5 : World} {mb : Nat} {L : List (Int × Int)} {a4 : Option Addr} {b4 : Nat} (key : Int) (c m r : Nat) (hM : IsM w5 mb 0 L) (hs : L.length ≤ 1000) (hI : ItsAt w5.heap.size w5 a4 b4 L.length L) (hr : rk ltI key L = r) (hc : c ≤ 7) (hm : min c (L.length - r) = m) (hrL : r ≤ L.length) :
    ∀ W, Below w5.heap.size w5 W → Calls Try.prog 16 #[.pointer (some ⟨mb, 0, none⟩), .int .i64 key, .int .i64 c] W (fun e w7 => ∃ a7 cap7, e = .returned (.slice a7 m cap7) ∧ Hid (Below w5.heap.size w5 w7) ∧
      Hid (∀ W8, Below w7.heap.size w7 W8 → ∀ ax cx, (m = 0 ∨ ax = some ⟨b4, r * 2, none⟩) → Calls Try.prog 15 #[.slice a7 m cap7, .slice ax m cx] W8 (fun e w9 => e = .returned (.bool true) ∧ Below W8.heap.size W8 w9))) := by
  intro W hW
  have hD : ((L.drop r).take c) = (L.drop r).take m := by
    by_cases h : c ≤ L.length - r
    · rw [← hm, Nat.min_eq_left h]
    · rw [← hm, Nat.min_eq_right (by omega), List.take_of_length_le (by rw [List.length_drop]; omega), List.take_of_length_le (by rw [List.length_drop]; exact Nat.le_refl _)]
  have hDl : ((L.drop r).take m).length = m := by rw [List.length_take, List.length_drop]; omega
  have hFr : Calls Try.prog 16 #[.pointer (some ⟨mb, 0, none⟩), .int .i64 key, .int .i64 c] W (PairsPost ((L.drop r).take m) W) := by
    by_cases h0 : c = 0
    · have hm0 : m = 0 := by omega
      rw [hm0, h0]
      exact from0_any _ _ _ (by decide)
    · have h := from_any key c (hM.below hW) (by omega) (by omega) (by omega)
      rw [hr, hD] at h
      exact h
  refine hFr.mono ?_
  rintro e w7 ⟨v7, rfl, g7, b7⟩
  rw [hDl] at g7
  obtain ⟨a7, cap7, rfl⟩ := g7.slice
  refine ⟨a7, cap7, rfl, Lib.hid (hW.trans (b7.mono hW.size)), Lib.hid fun W8 hW8 ax cx hx => ?_⟩
  obtain ⟨c7, hI7, hc7, _⟩ := Gath.sits g7 hDl
  have hB8 : Below w5.heap.size w5 W8 := (hW.trans (b7.mono hW.size)).trans (hW8.mono (by have := hW.size; have := b7.size; omega))
  have hP := ((hI.part r m (by omega) ax hx).kept hB8 (Nat.le_refl _)).mono hB8.size
  have h := same_off (cap := cap7) (cap' := cx) ((hI7.kept hW8 (Nat.le_refl _)).mono hW8.size) hP (by omega) (by omega) (Nat.le_refl _)
  simp only [decide_true] at h
  exact h
theorem eq_pair (x y : Int) (V : World) : (binOp BinOp.eql 42 (.agg #[.int .i64 x, .int .i64 y]) (.agg #[.int .i64 x, .int .i64 y])).run Try.prog V = .ok (.bool true) V := by
  simp [go_sem, run_equalIn_agg _ _ _ _ _ Try.structPair Try.stoodPair]
theorem nthP_in (L : List (Int × Int)) (i : Int) (h0 : 0 ≤ i) (h1 : i < (L.length : Int)) : nthI L i = some (L.getD i.toNat default) := by
  have h2 : i.toNat < L.length := by omega
  unfold nthI
  rw [if_neg (by omega)]
  simp [List.getD, h2]
theorem nthP_out (L : List (Int × Int)) (i : Int) (h : i < 0 ∨ (L.length : Int) ≤ i) : nthI L i = none := by
  unfold nthI
  split
  · rfl
  · rw [List.getElem?_eq_none (by omega)]

set_option maxRecDepth 100000 in
set_option maxHeartbeats 8000000 in
theorem walk_RankedPlays (a0 : Option Addr) (len0 cap0 : Nat) (z0 : List RopV) (w : World) (w0 : IsRops w a0 len0 cap0 z0) :
    Calls Try.prog 3 #[.slice a0 len0 cap0] w fun e w' => e = .returned (.bool true) ∧ Below w.heap.size w w' := by
  obtain ⟨_, b, off, hi⟩ := w0
  have hm := hi.small
  unfold maxLen at hm
  have H1 := Lib.hid hi
  clear hi
  by_cases h100 : 100 < len0
  · go_enter Try.func3, Try.ntmps3
    go_wp2_with fail
    refine (alive_any _).mono ?_
    rintro e w2 ⟨rfl, hB2⟩
    have HB2 := Lib.hid hB2
    clear hB2
    go_wp2
    go_ret
    exact ⟨rfl, HB2.out⟩
  go_enter Try.func3, Try.ntmps3
  go_wp2_with fail
  refine (alive_any _).mono ?_
  rintro e w2 ⟨rfl, hB2⟩
  have HB2 := Lib.hid hB2
  have hz2 := hB2.size
  clear hB2
  go_wp2
  go_loopw [4, 26] (fun v i wr => ∃ (k : Nat) (L : List (Int × Int)), i = .int .i64 k ∧ k ≤ len0 ∧ Hid (PlR w w2.heap.size k v L wr))
    (fun _ i _ => len0 - (intOf i).toNat)
  case atStart =>
    exact ⟨0, [], rfl, Nat.zero_le _, Lib.hid ⟨Nat.le_refl _, (IsM.new w2).below ((Below.refl _ _).alloc (Nat.le_refl _) _), .inl ⟨rfl, rfl, _, rfl⟩, (HB2.out.alloc hz2 _).alloc (by simp; omega) _⟩⟩
  case round =>
    obtain ⟨k, L, rfl, hk, hP⟩ := hrel
    have hbz := hP.out.below.size
    have hrl := hP.out.len
    obtain ⟨a4, cap4, b4, rfl, hc4, _, hI4⟩ := Gath.itsAt hP.out.row rfl
    by_cases hlt : k < len0
    · have hI := H1.out.kept hP.out.below (Nat.le_refl _)
      have ha : a0 = some ⟨b, off, none⟩ := hI.addr.resolve_left (by omega)
      subst ha
      obtain ⟨o, ho⟩ : ∃ o, z0[k]? = some o := ⟨z0[k]'(by rw [hI.length]; exact hlt), List.getElem?_eq_getElem _⟩
      obtain ⟨c0, c1, c2⟩ := hI.cell k o ho
      obtain ⟨⟨k1, k2⟩, ⟨k3, k4⟩, k5, k6⟩ := hI.ok o (List.mem_of_getElem? ho)
      obtain ⟨kd, key, n⟩ := o
      simp only at c0 c1 c2 k1 k2 k3 k4 k5 k6
      have hmb := hP.out.map.lt
      have hal := (Below.refl wr.heap.size wr).alloc (Nat.le_refl _) (.cells #[.int .i64 kd, .int .i64 key, .int .i64 n] 29)
      have hP5 := hP.out.on hal
      have hop : (wr.alloc (.cells #[.int .i64 kd, .int .i64 key, .int .i64 n] 29)).heap[wr.heap.size]? = some (.cells #[.int .i64 kd, .int .i64 key, .int .i64 n] 29 (0, 0)) := heap_new (w := wr) _ rfl
      obtain ⟨th, hth⟩ : ∃ th, (Rk.get ltI key L).isSome = th := ⟨_, rfl⟩
      obtain ⟨gv, hgv⟩ : ∃ gv, getV key L = gv := ⟨_, rfl⟩
      obtain ⟨r, hr⟩ : ∃ r, rk ltI key L = r := ⟨_, rfl⟩
      have hrL := rk_le (lt := ltI) key L
      rw [hr] at hrL
      have HI5 := Lib.hid ((hI4.kept hal (Nat.le_refl _)).mono hal.size)
      have HGt := Lib.hid (rget_any (cap := cap4) HI5.out (by omega) key)
      have HRk := Lib.hid (rrank_any (cap := cap4) HI5.out (by omega) key)
      have HMr := Lib.hid (mrank_any key hP5.map (by omega))
      rw [hth, hgv] at HGt
      rw [hr] at HRk HMr
      have HP5 := Lib.hid hP5
      have HOP := Lib.hid hop
      have HTH := Lib.hid hth
      have HGV := Lib.hid hgv
      have HR := Lib.hid hr
      clear hI ho hI4 hal hP5 hP hth hgv hr
      go_wp2_with fail
      clear c0 c1 c2 hop
      generalize wr.alloc (.cells #[.int .i64 kd, .int .i64 key, .int .i64 n] 29) = w5 at *
      generalize hob : wr.heap.size = ob at *
      refine HGt.out.mono ?_
      rintro e _ ⟨rfl, rfl⟩
      have d0 : w5.cell? ⟨ob, 0, none⟩ = some (.int .i64 kd) := heap_cell HOP.out rfl
      have d1 : w5.cell? ⟨ob, 1, none⟩ = some (.int .i64 key) := heap_cell HOP.out rfl
      have d2 : w5.cell? ⟨ob, 2, none⟩ = some (.int .i64 n) := heap_cell HOP.out rfl
      have hz5 := HP5.out.below.size
      have hob5 := heap_lt HOP.out
      go_wp2_with fail
      refine HRk.out.mono ?_
      rintro e _ ⟨rfl, rfl⟩
      go_wp2_with fail
      refine HMr.out.mono ?_
      rintro e _ ⟨rfl, rfl⟩
      clear HGt HRk HMr
      by_cases hk01 : kd = 0 ∨ kd = 1
      · rcases hk01 with rfl | rfl
        all_goals
          as_aux_lemma =>
            have hPw := mput_any key n HP5.out.map (by omega)
            rw [← Option.not_isSome, HTH.out] at hPw
            have HPW := Lib.hid hPw
            have hbb : ((!th) == (!th)) = true := by simp
            clear hPw
            go_wp2_with fail
            refine HPW.out.mono ?_
            rintro e w6 ⟨rfl, hp6⟩
            obtain ⟨hg6, hb6, hz6⟩ := HP5.out.put hz2 hp6
            have hop6 := hp6.turned.old HOP.out (by omega)
            have e1 : w6.cell? ⟨ob, 1, none⟩ = some (.int .i64 key) := heap_cell hop6 rfl
            have e2 : w6.cell? ⟨ob, 2, none⟩ = some (.int .i64 n) := heap_cell hop6 rfl
            obtain ⟨b6, hI6, hc6, hx6⟩ := Gath.sits hg6 rfl
            have HPt := Lib.hid (rput_any (cap := cap4) hI6 (by omega) (Nat.le_refl _) HP5.out.map.srt key n)
            have HM6 := Lib.hid hp6.map
            have HB6 := Lib.hid hb6
            have hil := ins_length_le (lt := ltI) key n L
            clear hx6 hp6 hg6 hb6 hop6 hI6 HPW
            go_wp2_with fail
            refine HPt.out.mono ?_
            rintro e w7 ⟨v7, rfl, g7, b7⟩
            generalize ins ltI key n L = L7 at *
            obtain ⟨a7, cap7, rfl⟩ := g7.slice
            have HP7 : Hid (PlR w w2.heap.size (k + 1) (.slice a7 L7.length cap7) L7 w7) := Lib.hid ⟨by omega, HM6.out.below b7, gath_low g7 (by omega), HB6.out.trans (b7.mono (by omega))⟩
            clear g7 b7 HPt HM6 HB6 HOP d0 d1 d2 e1 e2
            go_wp2_with fail
            refine (mlen_any HP7.out.map).mono ?_
            rintro e _ ⟨rfl, rfl⟩
            have hL7 := HP7.out.len
            go_wp2_with fail
            refine (all_any HP7.out.map (by omega)).mono ?_
            rintro e w8 ⟨v8, rfl, g8, b8⟩
            obtain ⟨a8, cap8, rfl⟩ := g8.slice
            obtain ⟨c8, hI8, hc8, hx8⟩ := Gath.sits g8 rfl
            obtain ⟨c7, hI7, hc7, hx7⟩ := Gath.sits (gath_stays HP7.out.row b8) rfl
            have HSm := same_any (cap := cap8) (cap' := cap7) hI8 hI7 (by omega) (by omega) (Nat.le_refl _)
            simp only [decide_true] at HSm
            have HSM := Lib.hid HSm
            have HB8 := Lib.hid b8
            clear HSm hx8 hx7 hI8 hI7 g8 b8
            go_wp2_with fail
            refine HSM.out.mono ?_
            rintro e w9 ⟨rfl, b9⟩
            have HP9 := Lib.hid (HP7.out.on (HB8.out.trans (b9.mono HB8.out.size)))
            clear b9 HSM HB8
            go_wp2
            go_roundw
            case rel => exact ⟨k + 1, _, by go_num, by omega, HP9⟩
            case measure => simp [intOf]; omega
      by_cases hk2 : kd = 2
      · subst hk2
        as_aux_lemma =>
          have hPw := mdrop_any key HP5.out.map (by omega)
          unfold DropPost at hPw
          rw [HTH.out] at hPw
          have HPW := Lib.hid hPw
          have hbb : (th == th) = true := by simp
          clear hPw
          go_wp2_with fail
          refine HPW.out.mono ?_
          rintro e w6 ⟨rfl, hp6⟩
          obtain ⟨hg6, hb6, hz6⟩ := HP5.out.put hz2 hp6
          have hop6 := hp6.turned.old HOP.out (by omega)
          have e1 : w6.cell? ⟨ob, 1, none⟩ = some (.int .i64 key) := heap_cell hop6 rfl
          obtain ⟨b6, hI6, hc6, hx6⟩ := Gath.sits hg6 rfl
          have HPt := Lib.hid (rdrop_any (cap := cap4) hI6 (by omega) (Nat.le_refl _) key)
          have HM6 := Lib.hid hp6.map
          have HB6 := Lib.hid hb6
          have hil := del_length_le (lt := ltI) key L
          clear hx6 hp6 hg6 hb6 hop6 hI6 HPW
          go_wp2_with fail
          refine HPt.out.mono ?_
          rintro e w7 ⟨v7, rfl, g7, b7⟩
          generalize del ltI key L = L7 at *
          obtain ⟨a7, cap7, rfl⟩ := g7.slice
          have HP7 : Hid (PlR w w2.heap.size (k + 1) (.slice a7 L7.length cap7) L7 w7) := Lib.hid ⟨by omega, HM6.out.below b7, gath_low g7 (by omega), HB6.out.trans (b7.mono (by omega))⟩
          clear g7 b7 HPt HM6 HB6 HOP d0 d1 d2 e1
          go_wp2_with fail
          refine (mlen_any HP7.out.map).mono ?_
          rintro e _ ⟨rfl, rfl⟩
          have hL7 := HP7.out.len
          go_wp2_with fail
          refine (all_any HP7.out.map (by omega)).mono ?_
          rintro e w8 ⟨v8, rfl, g8, b8⟩
          obtain ⟨a8, cap8, rfl⟩ := g8.slice
          obtain ⟨c8, hI8, hc8, hx8⟩ := Gath.sits g8 rfl
          obtain ⟨c7, hI7, hc7, hx7⟩ := Gath.sits (gath_stays HP7.out.row b8) rfl
          have HSm := same_any (cap := cap8) (cap' := cap7) hI8 hI7 (by omega) (by omega) (Nat.le_refl _)
          simp only [decide_true] at HSm
          have HSM := Lib.hid HSm
          have HB8 := Lib.hid b8
          clear HSm hx8 hx7 hI8 hI7 g8 b8
          go_wp2_with fail
          refine HSM.out.mono ?_
          rintro e w9 ⟨rfl, b9⟩
          have HP9 := Lib.hid (HP7.out.on (HB8.out.trans (b9.mono HB8.out.size)))
          clear b9 HSM HB8
          go_wp2
          go_roundw
          case rel => exact ⟨k + 1, _, by go_num, by omega, HP9⟩
          case measure => simp [intOf]; omega
      by_cases hk3 : kd = 3
      · subst hk3
        as_aux_lemma =>
          have hPw := mget_any key HP5.out.map
          rw [HTH.out, HGV.out] at hPw
          have HPW := Lib.hid hPw
          have hbb : (th == th) = true := by simp
          have hvv : (gv == gv) = true := by simp
          clear hPw
          go_wp2_with fail
          refine HPW.out.mono ?_
          rintro e w7 ⟨rfl, t7⟩
          have HP7 := Lib.hid ((HP5.out.on (below_of_turned t7)).more (Nat.le_succ k))
          clear t7 HPW HOP d0 d1 d2
          go_wp2_with fail
          refine (mlen_any HP7.out.map).mono ?_
          rintro e _ ⟨rfl, rfl⟩
          have hL7 := HP7.out.len
          go_wp2_with fail
          refine (all_any HP7.out.map (by omega)).mono ?_
          rintro e w8 ⟨v8, rfl, g8, b8⟩
          obtain ⟨a8, cap8, rfl⟩ := g8.slice
          obtain ⟨c8, hI8, hc8, hx8⟩ := Gath.sits g8 rfl
          obtain ⟨c7, hI7, hc7, hx7⟩ := Gath.sits (gath_stays HP7.out.row b8) rfl
          have HSm := same_any (cap := cap8) (cap' := cap4) hI8 hI7 (by omega) (by omega) (Nat.le_refl _)
          simp only [decide_true] at HSm
          have HSM := Lib.hid HSm
          have HB8 := Lib.hid b8
          clear HSm hx8 hx7 hI8 hI7 g8 b8
          go_wp2_with fail
          refine HSM.out.mono ?_
          rintro e w9 ⟨rfl, b9⟩
          have HP9 := Lib.hid (HP7.out.on (HB8.out.trans (b9.mono HB8.out.size)))
          clear b9 HSM HB8
          go_wp2
          go_roundw
          case rel => exact ⟨k + 1, _, by go_num, by omega, HP9⟩
          case measure => simp [intOf]; omega
      by_cases hk4 : kd = 4
      · subst hk4
        by_cases h0 : 0 ≤ n
        · by_cases h1 : n < (L.length : Int)
          · skip
            as_aux_lemma =>
              have hni := nthP_in L n h0 h1
              obtain ⟨x, hx⟩ : ∃ x, L.getD n.toNat default = x := ⟨_, rfl⟩
              rw [hx] at hni
              have hPw := mat_any n HP5.out.map (by omega) (by omega)
              rw [show atK n L = x.1 by simp [atK, hni], show atV n L = x.2 by simp [atV, hni], show (nthI L n).isSome = true by simp [hni]] at hPw
              have HPW := Lib.hid hPw
              have HX := Lib.hid hx
              have hn1 : n.toNat < L.length := by omega
              have hnn : ((n.toNat : Nat) : Int) = n := by omega
              have q0 : decide (0 ≤ n) = true := by simp; omega
              have q1 : decide (n < (L.length : Int)) = true := by simp; omega
              have hg := Try.guardPair
              have heq := eq_pair x.1 x.2
              clear hPw hni hx
              go_wp2_with fail
              refine HPW.out.mono ?_
              rintro e w7 ⟨rfl, t7⟩
              have b7 := below_of_turned t7
              have HP7 := Lib.hid ((HP5.out.on b7).more (Nat.le_succ k))
              have hop7 := heap_below HOP.out b7 hob5
              have e2 : w7.cell? ⟨ob, 2, none⟩ = some (.int .i64 n) := heap_cell hop7 rfl
              obtain ⟨b7', hI7, hc7', hx7'⟩ := Gath.sits HP7.out.row rfl
              obtain rfl : a4 = some ⟨b7', 0, none⟩ := hI7.addr.resolve_left (by omega)
              obtain ⟨r1, r2⟩ := hI7.cell n.toNat hn1
              rw [HX.out] at r1 r2
              clear hx7' t7 b7 hop7 hI7 HPW HOP d0 d1 d2
              go_wp2_with fail
              refine (mlen_any HP7.out.map).mono ?_
              rintro e _ ⟨rfl, rfl⟩
              have hL7 := HP7.out.len
              go_wp2_with fail
              refine (all_any HP7.out.map (by omega)).mono ?_
              rintro e w8 ⟨v8, rfl, g8, b8⟩
              obtain ⟨a8, cap8, rfl⟩ := g8.slice
              obtain ⟨c8, hI8, hc8, hx8⟩ := Gath.sits g8 rfl
              obtain ⟨c7, hI7, hc7, hx7⟩ := Gath.sits (gath_stays HP7.out.row b8) rfl
              have HSm := same_any (cap := cap8) (cap' := cap4) hI8 hI7 (by omega) (by omega) (Nat.le_refl _)
              simp only [decide_true] at HSm
              have HSM := Lib.hid HSm
              have HB8 := Lib.hid b8
              clear HSm hx8 hx7 hI8 hI7 g8 b8
              go_wp2_with fail
              refine HSM.out.mono ?_
              rintro e w9 ⟨rfl, b9⟩
              have HP9 := Lib.hid (HP7.out.on (HB8.out.trans (b9.mono HB8.out.size)))
              clear b9 HSM HB8
              go_wp2
              go_roundw
              case rel => exact ⟨k + 1, _, by go_num, by omega, HP9⟩
              case measure => simp [intOf]; omega
          · skip
            as_aux_lemma =>
              have hni := nthP_out L n (by omega)
              have hPw := mat_any n HP5.out.map (by omega) (by omega)
              rw [show atK n L = 0 by simp [atK, hni], show atV n L = 0 by simp [atV, hni], show (nthI L n).isSome = false by simp [hni]] at hPw
              have HPW := Lib.hid hPw
              have q0 : decide (0 ≤ n) = true := by simp; omega
              have q1 : decide (n < (L.length : Int)) = false := by simp; omega
              clear hPw hni
              go_wp2_with fail
              refine HPW.out.mono ?_
              rintro e w7 ⟨rfl, t7⟩
              have b7 := below_of_turned t7
              have HP7 := Lib.hid ((HP5.out.on b7).more (Nat.le_succ k))
              have hop7 := heap_below HOP.out b7 hob5
              have e2 : w7.cell? ⟨ob, 2, none⟩ = some (.int .i64 n) := heap_cell hop7 rfl
              clear t7 b7 hop7 HPW HOP d0 d1 d2
              go_wp2_with fail
              refine (mlen_any HP7.out.map).mono ?_
              rintro e _ ⟨rfl, rfl⟩
              have hL7 := HP7.out.len
              go_wp2_with fail
              refine (all_any HP7.out.map (by omega)).mono ?_
              rintro e w8 ⟨v8, rfl, g8, b8⟩
              obtain ⟨a8, cap8, rfl⟩ := g8.slice
              obtain ⟨c8, hI8, hc8, hx8⟩ := Gath.sits g8 rfl
              obtain ⟨c7, hI7, hc7, hx7⟩ := Gath.sits (gath_stays HP7.out.row b8) rfl
              have HSm := same_any (cap := cap8) (cap' := cap4) hI8 hI7 (by omega) (by omega) (Nat.le_refl _)
              simp only [decide_true] at HSm
              have HSM := Lib.hid HSm
              have HB8 := Lib.hid b8
              clear HSm hx8 hx7 hI8 hI7 g8 b8
              go_wp2_with fail
              refine HSM.out.mono ?_
              rintro e w9 ⟨rfl, b9⟩
              have HP9 := Lib.hid (HP7.out.on (HB8.out.trans (b9.mono HB8.out.size)))
              clear b9 HSM HB8
              go_wp2
              go_roundw
              case rel => exact ⟨k + 1, _, by go_num, by omega, HP9⟩
              case measure => simp [intOf]; omega
        · skip
          as_aux_lemma =>
            have hni := nthP_out L n (by omega)
            have hPw := mat_any n HP5.out.map (by omega) (by omega)
            rw [show atK n L = 0 by simp [atK, hni], show atV n L = 0 by simp [atV, hni], show (nthI L n).isSome = false by simp [hni]] at hPw
            have HPW := Lib.hid hPw
            have q0 : decide (0 ≤ n) = false := by simp; omega
            clear hPw hni
            go_wp2_with fail
            refine HPW.out.mono ?_
            rintro e w7 ⟨rfl, t7⟩
            have b7 := below_of_turned t7
            have HP7 := Lib.hid ((HP5.out.on b7).more (Nat.le_succ k))
            have hop7 := heap_below HOP.out b7 hob5
            have e2 : w7.cell? ⟨ob, 2, none⟩ = some (.int .i64 n) := heap_cell hop7 rfl
            clear t7 b7 hop7 HPW HOP d0 d1 d2
            go_wp2_with fail
            refine (mlen_any HP7.out.map).mono ?_
            rintro e _ ⟨rfl, rfl⟩
            have hL7 := HP7.out.len
            go_wp2_with fail
            refine (all_any HP7.out.map (by omega)).mono ?_
            rintro e w8 ⟨v8, rfl, g8, b8⟩
            obtain ⟨a8, cap8, rfl⟩ := g8.slice
            obtain ⟨c8, hI8, hc8, hx8⟩ := Gath.sits g8 rfl
            obtain ⟨c7, hI7, hc7, hx7⟩ := Gath.sits (gath_stays HP7.out.row b8) rfl
            have HSm := same_any (cap := cap8) (cap' := cap4) hI8 hI7 (by omega) (by omega) (Nat.le_refl _)
            simp only [decide_true] at HSm
            have HSM := Lib.hid HSm
            have HB8 := Lib.hid b8
            clear HSm hx8 hx7 hI8 hI7 g8 b8
            go_wp2_with fail
            refine HSM.out.mono ?_
            rintro e w9 ⟨rfl, b9⟩
            have HP9 := Lib.hid (HP7.out.on (HB8.out.trans (b9.mono HB8.out.size)))
            clear b9 HSM HB8
            go_wp2
            go_roundw
            case rel => exact ⟨k + 1, _, by go_num, by omega, HP9⟩
            case measure => simp [intOf]; omega
      by_cases hk5 : kd = 5
      · subst hk5
        as_aux_lemma =>
          obtain ⟨c, hc⟩ : ∃ c : Nat, bits .and .i64 n 7 = (c : Int) := ⟨(n % 8).toNat, by rw [and_7]; omega⟩
          have hc7 : c ≤ 7 := by have := and_7 n; omega
          obtain ⟨m, hmm⟩ : ∃ m : Nat, min c (L.length - r) = m := ⟨_, rfl⟩
          have hmi : min (c : Int) ((L.length : Int) - (r : Int)) = (m : Int) := by omega
          have hwr : IntKind.i64.wrap ((L.length : Int) - (r : Int)) = (L.length : Int) - (r : Int) := IntWalk.i64_in _ (by omega)
          have HFS := Lib.hid (from_same key c m r HP5.out.map (by omega) HI5.out HR.out hc7 hmm hrL)
          go_upto_block 2 with fail
          go_cut [4, 26, 10, 17] from 26 to 192 (fun s4 s26 s10 s17 wx => s4 = .slice a4 L.length cap4 ∧ s26 = .int .i64 k ∧ s10 = .bool true ∧ Hid (Below w5.heap.size w5 wx))
          case first =>
            go_upto_region 29 with fail
            go_cut [26, 17] from 26 to 192 (fun s26 s17 wx => s26 = .int .i64 k ∧ s17 = .int .i64 m ∧ wx = w5)
            case first =>
              go_wp2_with fail
              all_goals
                go_meet
                exact ⟨rfl, by congr 1; omega, rfl⟩
            case rest =>
            obtain ⟨rfl, rfl, rfl⟩ := hcut
            have hw1 : IntKind.i64.wrap ((r : Int) + (m : Int)) = (r : Int) + (m : Int) := IntWalk.i64_in _ (by omega)
            have hm1 : r + m ≤ cap4 := by omega
            have hm2 : (r : Int) + (m : Int) ≤ (cap4 : Int) := by omega
            have hm3 : (0 : Int) ≤ (r : Int) := by omega
            have hm4 : (r : Int) ≤ (r : Int) + (m : Int) := by omega
            have hm5 : ((r : Int) + (m : Int)).toNat = r + m := by omega
            have hm6 : ((r : Int)).toNat = r := by omega
            have hm7 : r + m - r = m := by omega
            go_upto_region 30 with fail
            by_cases hL0 : L.length = 0
            · obtain rfl : L = [] := List.eq_nil_of_length_eq_zero hL0
              obtain rfl : r = 0 := by simpa using hrL
              obtain rfl : m = 0 := by rw [← hmm]; simp
              have hS1 : ∀ W, Below wc.heap.size wc W → W.cell? ⟨ob, 1, none⟩ = some (.int .i64 key) := fun W hW => (hW.cell (p := ⟨ob, 1, none⟩) hob5).trans d1
              have hS2 : ∀ W, Below wc.heap.size wc W → W.cell? ⟨ob, 2, none⟩ = some (.int .i64 n) := fun W hW => (hW.cell (p := ⟨ob, 2, none⟩) hob5).trans d2
              simp only [List.length_nil] at *
              clear hw1 hm1 hm2 hm3 hm4 hm5 hm6 hm7 hmm hmi hwr
              have hz0 : IntKind.i64.wrap 0 = 0 := by decide
              cases a4 with
              | none =>
                as_aux_lemma =>
                  go_region_held3 (fun W => Below wc.heap.size wc W) (first | exact Below.refl _ _ | exact (Below.refl _ _).drew | exact hB10.out | exact hB10.out.drew | exact hB7.out | exact hB7.out.drew) (first
                    | (go_at_call 16; refine (HFS.out _ (by first | exact Below.refl _ _ | exact (Below.refl _ _).drew)).mono ?_; rintro e w7 ⟨a7, cap7, rfl, hB7, hSM⟩)
                    | (go_at_call 15; refine (hSM.out _ (by first | exact Below.refl _ _ | exact (Below.refl _ _).drew) _ _ (by first | exact .inl rfl | exact .inl trivial | trivial)).mono ?_; rintro e w9 ⟨rfl, hB9⟩; have hB10 := Lib.hid (hB7.out.trans ((show Below w7.heap.size w7 w9 by first | exact hB9 | exact ((Below.refl w7.heap.size w7).drew).trans hB9).mono hB7.out.size)); clear hB9))
                  go_wp2_with fail
                  go_meet
                  first | exact ⟨rfl, rfl, rfl, hB10⟩ | exact ⟨rfl, rfl, rfl, Lib.hid hB10.out.drew⟩
              | some x4 =>
                by_cases hc0 : cap4 = 0
                · subst hc0
                  as_aux_lemma =>
                    go_region_held3 (fun W => Below wc.heap.size wc W) (first | exact Below.refl _ _ | exact (Below.refl _ _).drew | exact hB10.out | exact hB10.out.drew | exact hB7.out | exact hB7.out.drew) (first
                      | (go_at_call 16; refine (HFS.out _ (by first | exact Below.refl _ _ | exact (Below.refl _ _).drew)).mono ?_; rintro e w7 ⟨a7, cap7, rfl, hB7, hSM⟩)
                      | (go_at_call 15; refine (hSM.out _ (by first | exact Below.refl _ _ | exact (Below.refl _ _).drew) _ _ (by first | exact .inl rfl | exact .inl trivial | trivial)).mono ?_; rintro e w9 ⟨rfl, hB9⟩; have hB10 := Lib.hid (hB7.out.trans ((show Below w7.heap.size w7 w9 by first | exact hB9 | exact ((Below.refl w7.heap.size w7).drew).trans hB9).mono hB7.out.size)); clear hB9))
                    go_wp2_with fail
                    go_meet
                    first | exact ⟨rfl, rfl, rfl, hB10⟩ | exact ⟨rfl, rfl, rfl, Lib.hid hB10.out.drew⟩
                · skip
                  as_aux_lemma =>
                    go_region_held3 (fun W => Below wc.heap.size wc W) (first | exact Below.refl _ _ | exact (Below.refl _ _).drew | exact hB10.out | exact hB10.out.drew | exact hB7.out | exact hB7.out.drew) (first
                      | (go_at_call 16; refine (HFS.out _ (by first | exact Below.refl _ _ | exact (Below.refl _ _).drew)).mono ?_; rintro e w7 ⟨a7, cap7, rfl, hB7, hSM⟩)
                      | (go_at_call 15; refine (hSM.out _ (by first | exact Below.refl _ _ | exact (Below.refl _ _).drew) _ _ (by first | exact .inl rfl | exact .inl trivial | trivial)).mono ?_; rintro e w9 ⟨rfl, hB9⟩; have hB10 := Lib.hid (hB7.out.trans ((show Below w7.heap.size w7 w9 by first | exact hB9 | exact ((Below.refl w7.heap.size w7).drew).trans hB9).mono hB7.out.size)); clear hB9))
                    go_wp2_with fail
                    go_meet
                    first | exact ⟨rfl, rfl, rfl, hB10⟩ | exact ⟨rfl, rfl, rfl, Lib.hid hB10.out.drew⟩
            · obtain rfl : a4 = some ⟨b4, 0, none⟩ := HI5.out.addr.resolve_left hL0
              by_cases hcr : cap4 = r
              · obtain rfl : m = 0 := by omega
                subst hcr
                have hS1 : ∀ W, Below wc.heap.size wc W → W.cell? ⟨ob, 1, none⟩ = some (.int .i64 key) := fun W hW => (hW.cell (p := ⟨ob, 1, none⟩) hob5).trans d1
                have hS2 : ∀ W, Below wc.heap.size wc W → W.cell? ⟨ob, 2, none⟩ = some (.int .i64 n) := fun W hW => (hW.cell (p := ⟨ob, 2, none⟩) hob5).trans d2
                simp only [Int.natCast_zero, Int.add_zero, Nat.add_zero] at hw1 hm1 hm2 hm4 hm5 hm7
                have hz0 : IntKind.i64.wrap 0 = 0 := by decide
                have hmr : cap4 - cap4 = 0 := by omega
                as_aux_lemma =>
                  go_region_held3 (fun W => Below wc.heap.size wc W) (first | exact Below.refl _ _ | exact (Below.refl _ _).drew | exact hB10.out | exact hB10.out.drew | exact hB7.out | exact hB7.out.drew) (first
                    | (go_at_call 16; refine (HFS.out _ (by first | exact Below.refl _ _ | exact (Below.refl _ _).drew)).mono ?_; rintro e w7 ⟨a7, cap7, rfl, hB7, hSM⟩)
                    | (go_at_call 15; refine (hSM.out _ (by first | exact Below.refl _ _ | exact (Below.refl _ _).drew) _ _ (by first | exact .inl rfl | exact .inl trivial | trivial)).mono ?_; rintro e w9 ⟨rfl, hB9⟩; have hB10 := Lib.hid (hB7.out.trans ((show Below w7.heap.size w7 w9 by first | exact hB9 | exact ((Below.refl w7.heap.size w7).drew).trans hB9).mono hB7.out.size)); clear hB9))
                  go_wp2_with fail
                  go_meet
                  first | exact ⟨rfl, rfl, rfl, hB10⟩ | exact ⟨rfl, rfl, rfl, Lib.hid hB10.out.drew⟩
              · skip
                have hS1 : ∀ W, Below wc.heap.size wc W → W.cell? ⟨ob, 1, none⟩ = some (.int .i64 key) := fun W hW => (hW.cell (p := ⟨ob, 1, none⟩) hob5).trans d1
                have hS2 : ∀ W, Below wc.heap.size wc W → W.cell? ⟨ob, 2, none⟩ = some (.int .i64 n) := fun W hW => (hW.cell (p := ⟨ob, 2, none⟩) hob5).trans d2
                as_aux_lemma =>
                  go_region_held3 (fun W => Below wc.heap.size wc W) (first | exact Below.refl _ _ | exact (Below.refl _ _).drew | exact hB10.out | exact hB10.out.drew | exact hB7.out | exact hB7.out.drew) (first
                    | (go_at_call 16; refine (HFS.out _ (by first | exact Below.refl _ _ | exact (Below.refl _ _).drew)).mono ?_; rintro e w7 ⟨a7, cap7, rfl, hB7, hSM⟩)
                    | (go_at_call 15; refine (hSM.out _ (by first | exact Below.refl _ _ | exact (Below.refl _ _).drew) _ _ (by first | exact .inr rfl | exact .inr (if_neg hcr) | exact .inl (by omega))).mono ?_; rintro e w9 ⟨rfl, hB9⟩; have hB10 := Lib.hid (hB7.out.trans ((show Below w7.heap.size w7 w9 by first | exact hB9 | exact ((Below.refl w7.heap.size w7).drew).trans hB9).mono hB7.out.size)); clear hB9))
                  go_wp2_with fail
                  go_meet
                  first | exact ⟨rfl, rfl, rfl, hB10⟩ | exact ⟨rfl, rfl, rfl, Lib.hid hB10.out.drew⟩
          case rest =>
            obtain ⟨rfl, rfl, rfl, hB7⟩ := hcut
            have HP7 := Lib.hid ((HP5.out.on hB7.out).more (Nat.le_succ k))
            clear hB7 HFS HOP d0 d1 d2 HI5
            go_wp2_with fail
            refine (mlen_any HP7.out.map).mono ?_
            rintro e _ ⟨rfl, rfl⟩
            have hL7 := HP7.out.len
            go_wp2_with fail
            refine (all_any HP7.out.map (by omega)).mono ?_
            rintro e w8 ⟨v8, rfl, g8, b8⟩
            obtain ⟨a8, cap8, rfl⟩ := g8.slice
            obtain ⟨c8, hI8, hc8, hx8⟩ := Gath.sits g8 rfl
            obtain ⟨c7, hI7, hc7, hx7⟩ := Gath.sits (gath_stays HP7.out.row b8) rfl
            have HSm := same_any (cap := cap8) (cap' := cap4) hI8 hI7 (by omega) (by omega) (Nat.le_refl _)
            simp only [decide_true] at HSm
            have HSM := Lib.hid HSm
            have HB8 := Lib.hid b8
            clear HSm hx8 hx7 hI8 hI7 g8 b8
            go_wp2_with fail
            refine HSM.out.mono ?_
            rintro e w9 ⟨rfl, b9⟩
            have HP9 := Lib.hid (HP7.out.on (HB8.out.trans (b9.mono HB8.out.size)))
            clear b9 HSM HB8
            go_wp2
            go_roundw
            case rel => exact ⟨k + 1, _, by go_num, by omega, HP9⟩
            case measure => simp [intOf]; omega
      as_aux_lemma =>
        have e0 : (kd == 0) = false := by simp; omega
        have e1 : (kd == 1) = false := by simp; omega
        have e2 : (kd == 2) = false := by simp; omega
        have e3 : (kd == 3) = false := by simp; omega
        have e4 : (kd == 4) = false := by simp; omega
        have e5 : (kd == 5) = false := by simp; omega
        have HP7 := Lib.hid (HP5.out.more (Nat.le_succ k))
        clear HOP d1 d2
        go_wp2_with fail
        refine (mlen_any HP7.out.map).mono ?_
        rintro e _ ⟨rfl, rfl⟩
        have hL7 := HP7.out.len
        go_wp2_with fail
        refine (all_any HP7.out.map (by omega)).mono ?_
        rintro e w8 ⟨v8, rfl, g8, b8⟩
        obtain ⟨a8, cap8, rfl⟩ := g8.slice
        obtain ⟨c8, hI8, hc8, hx8⟩ := Gath.sits g8 rfl
        obtain ⟨c7, hI7, hc7, hx7⟩ := Gath.sits (gath_stays HP7.out.row b8) rfl
        have HSm := same_any (cap := cap8) (cap' := cap4) hI8 hI7 (by omega) (by omega) (Nat.le_refl _)
        simp only [decide_true] at HSm
        have HSM := Lib.hid HSm
        have HB8 := Lib.hid b8
        clear HSm hx8 hx7 hI8 hI7 g8 b8
        go_wp2_with fail
        refine HSM.out.mono ?_
        rintro e w9 ⟨rfl, b9⟩
        have HP9 := Lib.hid (HP7.out.on (HB8.out.trans (b9.mono HB8.out.size)))
        clear b9 HSM HB8
        go_wp2
        go_roundw
        case rel => exact ⟨k + 1, _, by go_num, by omega, HP9⟩
        case measure => simp [intOf]; omega
    · obtain rfl : k = len0 := by omega
      have HB := Lib.hid hP.out.below
      clear hI4 hP
      go_wp2
      go_ret
      exact ⟨rfl, HB.out⟩
end Go.Proofs.Ytdnnbdmdngiigaa
