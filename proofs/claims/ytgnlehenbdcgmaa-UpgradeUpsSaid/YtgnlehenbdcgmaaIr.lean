/- Contracts: the reference's check of a name, its sameness of texts, a number held. -/
import Derived.Test.YtgnlehenbdcgmaaIc
import Derived.Test.YtgnlehenbdcgmaaHp
set_option linter.unusedVariables false
set_option linter.unusedSectionVars false
namespace Go.Proofs.Ytgnlehenbdcgmaa.Ic
open Go.RowKit Go.Shelf

theorem nret {k : IntKind} {a b : Int} (h : a = b) : Ending.returned (.int k a) = .returned (.int k b) := by rw [h]
theorem nretb {b c : Bool} (h : b = c) : Ending.returned (.bool b) = .returned (.bool c) := by rw [h]
theorem eqS_true {a b : ByteArray} (h : a = b) : (a.toList == b.toList) = true := by rw [h]; exact beq_self_eq_true _
theorem toList_inj {a b : ByteArray} (h : a.toList = b.toList) : a = b := by
  rw [ByteArray.toList_eq, ByteArray.toList_eq] at h; exact WideShapes.bytes_inj h

theorem eqS_false {a b : ByteArray} (h : a ≠ b) : (a.toList == b.toList) = false := by
  rw [beq_eq_false_iff_ne]; exact fun e => h (toList_inj e)
/-- The bytes that the reference takes for letters, and for others. -/
theorem oldB (c : Int) : okB c = (decide (97 ≤ c ∧ c ≤ 122) || (decide (48 ≤ c ∧ c ≤ 57) || decide (c = 95))) := by unfold okB letB digB; rw [Bool.or_assoc]
set_option maxHeartbeats 2000000 in
theorem xcheck_any (s : ByteArray) (hs : s.size ≤ maxLen) (w : World) : Calls Try.prog 69 #[.string s] w fun e w' => e = .returned (.int .i64 (chkE s)) ∧ w = w' := by
  unfold maxLen at hs
  by_cases h1 : s.size < 1
  · have HE := Lib.hid (chk_no (s := s) (by unfold nameB; rw [decide_eq_false (fun h => by omega)]; rfl))
    have h0 : s.size = 0 := by omega
    generalize chkE s = c at *
    go_enter Try.func69, Try.ntmps69
    go_wp2
    go_ret
    exact ⟨by rw [HE.out]; rfl, rfl⟩
  · have h1' : 1 ≤ s.size := by omega
    have g0 : decide ((s.size : Int) < 1) = false := by simp; omega
    by_cases h2 : 64 < s.size
    · have HE := Lib.hid (chk_no (s := s) (by unfold nameB; rw [decide_eq_false (fun h => by omega)]; rfl))
      have g1 : decide (64 < (s.size : Int)) = true := by simp; omega
      go_enter Try.func69, Try.ntmps69
      go_wp2
      go_ret
      exact ⟨by rw [HE.out]; rfl, rfl⟩
    · have g1 : decide (64 < (s.size : Int)) = false := by simp; omega
      have HGood : Hid (letB (byS s 0) = true → okTo s s.size = true → chkE s = 0) := Lib.hid (fun h3 h => chk_yes (chk_good h1' (by omega) h3 h))
      have HBad : Hid (∀ k, k < s.size → okB (byS s k) = false → chkE s = 40) := Lib.hid (fun k hk h => chk_no (chk_bad hk h))
      have HBad0 : Hid (letB (byS s 0) = false → chkE s = 40) := Lib.hid (fun h => chk_no (chk_letter h))
      generalize chkE s = ce at *
      go_enter Try.func69, Try.ntmps69
      go_wp2
      go_loop [3] (fun i => ∃ k : Nat, i = .int .i64 k ∧ k ≤ s.size ∧ Hid (okTo s k = true) ∧ Hid (k = 0 ∨ letB (byS s 0) = true)) (fun i => s.size - (intOf i).toNat)
      case atStart => exact ⟨0, rfl, Nat.zero_le _, Lib.hid rfl, Lib.hid (.inl rfl)⟩
      case round =>
        obtain ⟨k, rfl, hk, HK, HL0⟩ := hrel
        by_cases hlt : k < s.size
        · have hki : (k : Int) < (s.size : Int) := by omega
          have hb := byS_bd s k
          have hg := byS_get s hlt
          have HBk := Lib.hid (HBad.out k hlt)
          have HS := Lib.hid (okTo_succ s k)
          have HO : Hid (okB (byS s k) = (letB (byS s k) || digB (byS s k) || decide (byS s k = 95))) := Lib.hid rfl
          have HZ : Hid (k = 0 → byS s 0 = byS s k) := Lib.hid (fun h => by rw [h])
          obtain ⟨l0, hl0⟩ : ∃ x, byS s 0 = x := ⟨_, rfl⟩
          rw [hl0] at HL0 HZ HBad0
          have HLL := Lib.hid hl0
          clear hl0
          generalize byS s k = c at *
          obtain ⟨d1, e1⟩ : ∃ d, decide (97 ≤ c) = d := ⟨_, rfl⟩
          obtain ⟨d2, e2⟩ : ∃ d, decide (c ≤ 122) = d := ⟨_, rfl⟩
          obtain ⟨d3, e3⟩ : ∃ d, decide (48 ≤ c) = d := ⟨_, rfl⟩
          obtain ⟨d4, e4⟩ : ∃ d, decide (c ≤ 57) = d := ⟨_, rfl⟩
          obtain ⟨d5, e5⟩ : ∃ d, (c == 95) = d := ⟨_, rfl⟩
          have hlet : letB c = (d1 && d2) := by rw [← e1, ← e2]; unfold letB; simp
          have hdig : digB c = (d3 && d4) := by rw [← e3, ← e4]; unfold digB; simp
          have hun : decide (c = 95) = d5 := by rw [← e5]; rfl
          have HOK : Hid (okB c = ((d1 && d2) || (d3 && d4) || d5)) := Lib.hid (by rw [HO.out, hlet, hdig, hun])
          have HLT := Lib.hid hlet
          clear hlet hdig hun HO
          by_cases h0 : k = 0
          · have HZ2 := Lib.hid (HZ.out h0)
            have g3 : ((k : Int) == 0) = true := by simp; omega
            have HK0 := Lib.hid h0
            clear h0
            cases d1 <;> cases d2 <;> cases d3 <;> cases d4 <;> cases d5
            all_goals first
              | (have HS2 : Hid (okTo s (k + 1) = true) := Lib.hid (by rw [HS.out, HK.out, HOK.out]; rfl)
                 have HL2 : Hid (k + 1 = 0 ∨ letB (byS s 0) = true) := Lib.hid (.inr (by rw [HLL.out, HZ2.out, HLT.out]; rfl))
                 go_wp2
                 go_round
                 case rel => exact ⟨k + 1, by go_num, by omega, HS2, HL2⟩
                 case measure => simp [intOf]; omega)
              | (have HE : Hid (ce = 40) := Lib.hid (HBad0.out (by rw [HZ2.out, HLT.out]; rfl))
                 go_wp2
                 go_ret
                 exact ⟨nret HE.out.symm, rfl⟩)
          · have g3 : ((k : Int) == 0) = false := by simp; omega
            have HL2 : Hid (k + 1 = 0 ∨ letB (byS s 0) = true) := Lib.hid (.inr (by rw [HLL.out]; exact HL0.out.resolve_left h0))
            clear h0
            cases d1 <;> cases d2 <;> cases d3 <;> cases d4 <;> cases d5
            all_goals first
              | (have HS2 : Hid (okTo s (k + 1) = true) := Lib.hid (by rw [HS.out, HK.out, HOK.out]; rfl)
                 go_wp2
                 go_round
                 case rel => exact ⟨k + 1, by go_num, by omega, HS2, HL2⟩
                 case measure => simp [intOf]; omega)
              | (have HE : Hid (ce = 40) := Lib.hid (HBk.out (by rw [HOK.out]; rfl))
                 go_wp2
                 go_ret
                 exact ⟨nret HE.out.symm, rfl⟩)
        · have hke : s.size = k := by omega
          have HE := Lib.hid (HGood.out (HL0.out.resolve_left (by omega)) (by rw [hke]; exact HK.out))
          have hki : ¬ k < s.size := hlt
          clear hke
          go_wp2
          go_ret
          exact ⟨nret HE.out.symm, rfl⟩

theorem neqS_true {a b : ByteArray} (h : a = b) : (a.toList != b.toList) = false := by simp only [bne, eqS_true h]; rfl
theorem neqS_false {a b : ByteArray} (h : a ≠ b) : (a.toList != b.toList) = true := by simp only [bne, eqS_false h]; rfl
/-- A row of texts from a block's first cell on. -/
structure TxtAt (w : World) (a : Option Addr) (g off : Nat) (xs : List ByteArray) : Prop where
  addr : xs.length = 0 ∨ a = some ⟨g, off, none⟩
  small : xs.length ≤ maxLen
  cell : ∀ (i : Nat) y, xs[i]? = some y → w.cell? ⟨g, off + i, none⟩ = some (.string y)
theorem TxtAt.on {w w' : World} {a : Option Addr} {g off B : Nat} {xs : List ByteArray} (h : TxtAt w a g off xs) (hb : Below B w w') (hg : xs.length = 0 ∨ g < B) : TxtAt w' a g off xs :=
  ⟨h.addr, h.small, fun i y hi => by
    have h0 := (List.getElem?_eq_some_iff.1 hi).1
    rw [hb.cell (p := ⟨g, off + i, none⟩) (by show g < B; omega)]
    exact h.cell i y hi⟩
theorem TxtAt.drewN {w : World} {a : Option Addr} {g off : Nat} {xs : List ByteArray} (h : TxtAt w a g off xs) (n : Nat) : TxtAt (w.drewN n) a g off xs := ⟨h.addr, h.small, h.cell⟩
theorem TxtAt.take {w : World} {a : Option Addr} {g off : Nat} {xs : List ByteArray} (h : TxtAt w a g off xs) (n : Nat) : TxtAt w a g off (xs.take n) :=
  ⟨h.addr.imp (fun h0 => by rw [List.length_take]; omega) id, by rw [List.length_take]; have := h.small; omega, fun i y hi => h.cell i y (by
    rw [List.getElem?_take] at hi
    split at hi
    · exact hi
    · cases hi)⟩
theorem drewN_two (w : World) (a b : Nat) : (w.drewN a).drewN b = w.drewN (a + b) := by
  unfold World.drewN
  simp [Nat.add_assoc]
set_option maxHeartbeats 1000000 in
theorem xsame_txt {w : World} {a a' : Option Addr} {g g' off off' len len' cap cap' : Nat} {xs ys : List ByteArray} (hx : TxtAt w a g off xs) (hy : TxtAt w a' g' off' ys) (hlx : xs.length = len) (hly : ys.length = len') :
    Calls Try.prog 21 #[.slice a len cap, .slice a' len' cap'] w fun e w' => e = .returned (.bool (decide (xs = ys))) ∧ ∃ n, w' = w.drewN n := by
  have hsm := hx.small
  unfold maxLen at hsm
  have HX := Lib.hid hx
  have HY := Lib.hid hy
  have HLx := Lib.hid hlx
  have HLy := Lib.hid hly
  have hsm' : len ≤ 9223372036854775807 := by omega
  clear hsm
  by_cases hll : len = len'
  · subst hll
    have HT : Hid ((∀ i, i < len → xs[i]? = ys[i]?) → decide (xs = ys) = true) := Lib.hid (fun h => decide_eq_true (by
      apply List.ext_getElem? 
      intro i
      by_cases hi : i < len
      · exact h i hi
      · rw [List.getElem?_eq_none (by omega), List.getElem?_eq_none (by omega)]))
    have HF : Hid (∀ i, i < len → xs[i]? ≠ ys[i]? → decide (xs = ys) = false) := Lib.hid (fun i hi h => decide_eq_false (fun e => h (by rw [e])))
    clear hx hy hlx hly
    generalize decide (xs = ys) = r at *
    go_enter Try.func21, Try.ntmps21
    go_wp2
    go_loopw [5] (fun i wr => ∃ j : Nat, j ≤ len ∧ i = .int .i64 j ∧ Hid (∀ i, i < j → xs[i]? = ys[i]?) ∧ Hid (∃ n, wr = w.drewN n)) (fun i _ => len - (intOf i).toNat)
    case atStart => exact ⟨0, Nat.zero_le _, rfl, Lib.hid (fun i hi => absurd hi (Nat.not_lt_zero _)), Lib.hid ⟨0, rfl⟩⟩
    case round =>
      obtain ⟨j, hj, rfl, HJ, HW⟩ := hrel
      by_cases hlt : j < len
      · obtain ⟨u, hu⟩ : ∃ u, xs[j]? = some u := ⟨_, List.getElem?_eq_getElem (by rw [HLx.out]; exact hlt)⟩
        obtain ⟨v, hv⟩ : ∃ v, ys[j]? = some v := ⟨_, List.getElem?_eq_getElem (by rw [HLy.out]; exact hlt)⟩
        have c1 : wr.cell? ⟨g, off + j, none⟩ = some (.string u) := by obtain ⟨n, rfl⟩ := HW.out; exact HX.out.cell j u hu
        have c2 : wr.cell? ⟨g', off' + j, none⟩ = some (.string v) := by obtain ⟨n, rfl⟩ := HW.out; exact HY.out.cell j v hv
        obtain rfl : a = some ⟨g, off, none⟩ := HX.out.addr.resolve_left (by have := HLx.out; omega)
        obtain rfl : a' = some ⟨g', off', none⟩ := HY.out.addr.resolve_left (by have := HLy.out; omega)
        have hji : (j : Int) < (len : Int) := by omega
        have hj0 : (0 : Int) ≤ (j : Int) := Int.natCast_nonneg j
        have HFj := Lib.hid (HF.out j hlt)
        have HN : Hid (xs[j]? = ys[j]? → ∀ i, i < j + 1 → xs[i]? = ys[i]?) := Lib.hid (fun h i hi => by
          by_cases e : i = j
          · rw [e]; exact h
          · exact HJ.out i (by omega))
        rw [hu, hv] at HFj HN
        clear hu hv
        by_cases h : u = v
        · have g1 := eqS_true h
          have g2 := neqS_true h
          have HN2 := Lib.hid (HN.out (by rw [h]))
          clear h
          go_wp2
          go_quiet (fail)
          go_wp2
          go_roundw
          case rel => exact ⟨j + 1, by omega, by go_num, HN2, Lib.hid (by obtain ⟨n, h⟩ := HW.out; exact ⟨_, by rw [h, drewN_two]⟩)⟩
          case measure => simp [intOf]; omega
        · have g1 := eqS_false h
          have g2 := neqS_false h
          have HR := Lib.hid (HFj.out (fun e => h (by cases e; rfl)))
          clear h
          go_wp2
          go_quiet (fail)
          go_wp2
          go_ret
          exact ⟨nretb HR.out.symm, by obtain ⟨n, h⟩ := HW.out; exact ⟨_, by rw [h, drewN_two]⟩⟩
      · obtain rfl : j = len := by omega
        have HR := Lib.hid (HT.out HJ.out)
        go_wp2
        go_ret
        exact ⟨nretb HR.out.symm, HW.out⟩
  · have HF : Hid (decide (xs = ys) = false) := Lib.hid (decide_eq_false (fun e => hll (by rw [← hlx, ← hly, e])))
    have g1 : ((len : Int) == (len' : Int)) = false := by simp; omega
    have g2 : ((len : Int) != (len' : Int)) = true := by simp; omega
    clear hx hy hlx hly
    generalize decide (xs = ys) = r at *
    go_enter Try.func21, Try.ntmps21
    go_wp2
    go_ret
    exact ⟨nretb HF.out.symm, 0, rfl⟩
/-- What is held between 0 and a length. -/
theorem held0_any (n : Int) (h : Nat) (w : World) : Calls Try.prog 16 #[.int .i64 n, .int .i64 0, .int .i64 (h : Int)] w fun e w' => e = .returned (.int .i64 ((min n.toNat h : Nat) : Int)) ∧ w = w' := by
  obtain ⟨r, hr⟩ : ∃ r : Nat, min n.toNat h = r := ⟨_, rfl⟩
  rw [hr]
  by_cases a : (h : Int) < n
  · obtain rfl : r = h := by omega
    clear hr
    go_enter Try.func16, Try.ntmps16
    go_wp2
    go_ret
    exact ⟨rfl, rfl⟩
  · by_cases b : n < 0
    · obtain rfl : r = 0 := by omega
      clear hr
      go_enter Try.func16, Try.ntmps16
      go_wp2
      go_ret
      exact ⟨rfl, rfl⟩
    · obtain rfl : n = (r : Int) := by omega
      have g1 : decide ((h : Int) < (r : Int)) = false := by simp; omega
      have g2 : decide ((r : Int) < 0) = false := by simp
      clear hr
      go_enter Try.func16, Try.ntmps16
      go_wp2
      go_ret
      exact ⟨rfl, rfl⟩
end Go.Proofs.Ytgnlehenbdcgmaa.Ic
