/- The walk of IdentFresh. -/
import Derived.Test.YtmilchkemobchaaDoorNq
import Derived.Deep.Cut
set_option linter.unusedVariables false
set_option linter.unusedSectionVars false
set_option linter.unusedSimpArgs false
namespace Go.Proofs.YtmilchkemobchaaDoor
open Go.RowKit Go.Shelf Ss

theorem fresh_right {zs : List ByteArray} {stem : ByteArray} {N : Nat} (hN : FrOk zs stem N) (hl : zs.length ≤ 41) (hs : stem.size ≤ 60) (hb : nameB stem = true) : nameB (nmS stem N) = true ∧ nmS stem N ∉ zs := by
  have h := hN.hi
  have hk : nameB (nmS stem N) = true := by
    by_cases h1 : N ≤ 1
    · have : N = 1 := by have := hN.lo; omega
      rw [this, nmS_one]; exact hb
    · exact (nmS_ok stem (by omega) (by omega)).2 ⟨hb, by split <;> omega⟩
  exact ⟨hk, fun hm => hN.stop ⟨hk, hm⟩⟩
theorem fresh_wrong {zs : List ByteArray} {stem : ByteArray} {N : Nat} (hN : FrOk zs stem N) (hb : nameB stem = false) : frS stem N = ⟨#[]⟩ ∧ frE stem N = 40 := by
  have h1 : N = 1 := by
    refine Classical.byContradiction fun h => ?_
    have := (hN.all 1 (by omega) (by have := hN.lo; omega)).1
    rw [nmS_one, hb] at this; cases this
  subst h1
  have h2 : ¬ nameB (nmS stem 1) = true := by rw [nmS_one, hb]; decide
  exact ⟨if_neg h2, if_neg h2⟩
theorem find_out {zs : List ByteArray} {x : ByteArray} (h : x ∉ zs) : findI zs x = -1 := by
  have h1 := findI_lo zs x
  have h2 := find_neg.2 h
  omega
theorem svals_get {zs : List ByteArray} {j : Nat} {u : Value} (h : (svals zs)[j]? = some u) : j < zs.length ∧ u = .string (atS zs j) := by
  unfold svals at h
  rw [List.getElem?_map] at h
  by_cases hj : j < zs.length
  · rw [List.getElem?_eq_getElem hj] at h
    simp at h
    exact ⟨hj, by rw [← h]; simp [atS, List.getD, hj]⟩
  · rw [List.getElem?_eq_none (by omega)] at h; cases h
theorem strs_app1 (w : World) (o1 o2 : Obj) (x : ByteArray) (hx : x.size ≤ maxLen) (zeros : Array Value) (t : TypeId) : StrsAt ((((w.alloc o1).alloc o2).alloc (.cells (#[.string x] ++ zeros) t)).drew).heap.size ((((w.alloc o1).alloc o2).alloc (.cells (#[.string x] ++ zeros) t)).drew) (some ⟨w.heap.size + 1 + 1, 0, none⟩) (w.heap.size + 1 + 1) 0 (([] : List ByteArray).length + 1) ([] ++ [x]) := by
  have h : ((((w.alloc o1).alloc o2).alloc (.cells (#[.string x] ++ zeros) t)).drew).heap[w.heap.size + 1 + 1]? = some (.cells (#[.string x] ++ zeros) t (0, 0)) := heap_new _ (by simp)
  refine ⟨.inr rfl, rfl, by decide, .inr (heap_lt h), fun i hi => ?_, fun n hn => by simp at hn; rw [hn]; exact hx⟩
  obtain rfl : i = 0 := by simpa using hi
  exact heap_cell h (by simp [Array.getElem?_append])
theorem below_app1 {x2 x7 : World} (o1 o2 o3 : Obj) (h : Below ((((x2.alloc o1).alloc o2).alloc o3).drew).heap.size ((((x2.alloc o1).alloc o2).alloc o3).drew) x7) : Below x2.heap.size x2 x7 := by
  have hc : Below x2.heap.size x2 ((((x2.alloc o1).alloc o2).alloc o3).drew) := ((((Below.refl x2.heap.size x2).alloc (Nat.le_refl _) _).alloc (by simp) _).alloc (by simp; omega) _).drew
  exact hc.trans (h.mono hc.size)
set_option maxRecDepth 100000 in
set_option maxHeartbeats 4000000 in
theorem walk_IdentFresh (a0 : Option Addr) (len0 cap0 : Nat) (z0 : List ByteArray) (a1 : ByteArray) (w : World) (w0 : IsStrs w a0 len0 cap0 z0) (w1 : a1.size ≤ maxLen) :
    Calls Tryd.prog 4 #[.slice a0 len0 cap0, .string a1] w fun e w' => e = .returned (.bool true) ∧ Below w.heap.size w w' := by
  obtain ⟨i0, hi0, hz0, hz1, hz2⟩ := info_parts Gt.Tryd.infoStr
  have HI := Lib.hid hi0
  have HZ0 := Lib.hid hz0
  have HZ1 := Lib.hid hz1
  have HZ2 := Lib.hid hz2
  clear hi0 hz0 hz1 hz2
  obtain ⟨b, off, zs, hi, hn⟩ := IsStrs.zz w0
  have H0 := Lib.hid hi
  have HN := Lib.hid hn
  obtain rfl := hi.length
  have hz := w1
  unfold maxLen at hz
  have HZ := Lib.hid w1
  clear w0 w1 hi hn
  go_enter Tryd.func4, Tryd.ntmps4
  go_wp2_with fail
  refine (alive_any _).mono ?_
  rintro e x1 ⟨rfl, hB1⟩
  have HB1 := Lib.hid hB1
  have H1 := Lib.hid (StrsAt.mono (H0.out.kept hB1 (Nat.le_refl _)) hB1.size)
  clear hB1 H0
  by_cases h60 : 60 < a1.size
  · have d0 : decide (60 < (a1.size : Int)) = true := by simp; omega
    go_wp2
    go_ret
    exact ⟨rfl, HB1.out⟩
  have d0 : decide (60 < (a1.size : Int)) = false := by simp; omega
  by_cases h40 : 40 < zs.length
  · have d1 : decide (40 < (zs.length : Int)) = true := by simp; omega
    go_wp2
    go_ret
    exact ⟨rfl, HB1.out⟩
  have d1 : decide (40 < (zs.length : Int)) = false := by simp; omega
  obtain ⟨N, hN⟩ := fr_exists zs a1 (by omega)
  have CF := Lib.hid (fresh_any (cap := cap0) H1.out (by omega) a1 (by omega) hN)
  unfold FreshPost at CF
  cases hb : nameB a1 with
  | false =>
    obtain ⟨e1, e2⟩ := fresh_wrong hN hb
    rw [e1, e2] at CF
    obtain ⟨sf, hsf⟩ : ∃ s : ByteArray, s = ⟨#[]⟩ := ⟨_, rfl⟩
    have g1 : (sf.toList == []) = true := by rw [hsf]; decide +kernel
    rw [← hsf] at CF
    have CK : Hid (∀ W, Calls Tryd.prog 12 #[.string a1] W fun e w' => e = .returned (.int .i64 40) ∧ W = w') := Lib.hid (fun W => check_lit HZ.out (chk_no hb) W)
    clear hsf e1 e2 hN hb
    go_wp2_with fail
    refine CF.out.mono ?_
    rintro e x2 ⟨rfl, hB2⟩
    have HB2 := Lib.hid (below_on HB1.out hB2)
    clear hB2 CF
    go_wp2_with (go_at_call 12; refine (CK.out _).mono ?_; clear CK; rintro e w' ⟨rfl, rfl⟩)
    go_ret
    exact ⟨by simp, HB2.out⟩
  | true =>
    obtain ⟨hk, hno⟩ := fresh_right hN (by omega) (by omega) hb
    have e1 : frS a1 N = nmS a1 N := if_pos hk
    have e2 : frE a1 N = 0 := if_pos hk
    rw [e1, e2] at CF
    obtain ⟨sf, hsf⟩ : ∃ s : ByteArray, nmS a1 N = s := ⟨_, rfl⟩
    rw [hsf] at CF hk hno
    have hsz := chk_size hk
    have hsm : sf.size ≤ maxLen := sz_lit (by omega)
    obtain ⟨M, hM⟩ := fr_exists (zs ++ [sf]) a1 (by rw [List.length_append, List.length_cons, List.length_nil]; omega)
    obtain ⟨hkt, hnt⟩ := fresh_right hM (by rw [List.length_append, List.length_cons, List.length_nil]; omega) (by omega) hb
    have e3 : frS a1 M = nmS a1 M := if_pos hkt
    have e4 : frE a1 M = 0 := if_pos hkt
    obtain ⟨tf, htf⟩ : ∃ t : ByteArray, nmS a1 M = t := ⟨_, rfl⟩
    rw [htf] at hkt hnt e3
    have hnt1 : tf ∉ zs := fun h => hnt (List.mem_append.2 (.inl h))
    have hnt2 : tf ≠ sf := fun h => hnt (List.mem_append.2 (.inr (by rw [h]; exact List.mem_cons_self ..)))
    have g1 : (tf.toList == sf.toList) = false := eqS_false hnt2
    have CK : Hid (∀ W, Calls Tryd.prog 12 #[.string sf] W fun e w' => e = .returned (.int .i64 0) ∧ W = w') := Lib.hid (fun W => check_lit hsm (chk_yes hk) W)
    have CT : Hid (∀ (W : World) (a : Option Addr) (b off cap : Nat), StrsAt W.heap.size W a b off (zs.length + 1) (zs ++ [sf]) → Calls Tryd.prog 8 #[.slice a (zs.length + 1) cap, .string a1] W (fun e w' => e = .returned (.tuple #[.string tf, .int .i64 0]) ∧ Hid (Below W.heap.size W w'))) := Lib.hid (fun W a b off cap h => fresh_lit h (by omega) (by omega) hM e3 e4)
    have F1 : Hid (∀ W, Below x1.heap.size x1 W → Calls Tryd.prog 16 #[.slice a0 zs.length cap0, .string sf] W (fun e w' => e = .returned (.int .i64 (-1)) ∧ W = w')) := Lib.hid (fun W hW => find_lit (cap := cap0) (H1.out.kept hW (Nat.le_refl _)) (find_out hno))
    have F2 : Hid (∀ W, Below x1.heap.size x1 W → Calls Tryd.prog 16 #[.slice a0 zs.length cap0, .string tf] W (fun e w' => e = .returned (.int .i64 (-1)) ∧ W = w')) := Lib.hid (fun W hW => find_lit (cap := cap0) (H1.out.kept hW (Nat.le_refl _)) (find_out hnt1))
    clear e1 e2 e3 e4 hN hM hb hsf htf hk hno hkt hnt hnt1 hnt2 hsz
    have HSm := Lib.hid hsm
    clear hsm
    go_wp2_with fail
    refine CF.out.mono ?_
    rintro e x2 ⟨rfl, hB2⟩
    have HB12 := Lib.hid hB2
    have H2 := Lib.hid (StrsAt.mono (H1.out.kept hB2 (Nat.le_refl _)) hB2.size)
    have z2 := hB2.size
    clear hB2 CF
    have hf2 := H2.out.fits
    by_cases hzl : zs.length = 0
    · obtain rfl : zs = [] := List.eq_nil_of_length_eq_zero hzl
      clear hf2 hzl
      cases a0
      all_goals
        go_upto_region 9 with (go_at_call 8; refine (CT.out _ _ _ _ _ (strs_app1 x2 _ _ sf HSm.out _ _)).mono ?_; clear CT; rintro e x7 ⟨rfl, hB7⟩; have HB17 := Lib.hid (HB12.out.trans ((below_app1 _ _ _ hB7.out).mono HB12.out.size)); clear hB7)
        have H7 := Lib.hid (StrsAt.mono (H1.out.kept HB17.out (Nat.le_refl _)) HB17.out.size)
        have CD := Lib.hid (ldistinct_any (cap := cap0) H7.out (by first | exact HN.out | exact fun _ => HN.out trivial) (by first | omega | (simp; done)) 1000 (by decide))
        have hDl : (distD ([] : List ByteArray)).length ≤ 40 := by have := distL_length ([] : List ByteArray) ([] : List ByteArray).length; unfold distD; omega
        have hT : takeM (distD ([] : List ByteArray)) 1000 = distD ([] : List ByteArray) := by unfold takeM; rw [if_pos (by decide)]; exact List.take_of_length_le (by show _ ≤ 1000; omega)
        rw [hT] at CD
        have HND : Hid (distD ([] : List ByteArray)).Nodup := Lib.hid (distL_nodup ([] : List ByteArray) _)
        have HMem : Hid (∀ x, x ∈ distD ([] : List ByteArray) ↔ x ∈ ([] : List ByteArray)) := Lib.hid (fun x => mem_distD)
        have HDf := Lib.hid (distD_fits H7.out.fits)
        clear hT
        generalize distD ([] : List ByteArray) = D at *
        go_wp2_with (first
          | (go_at_call 12; refine (CK.out _).mono ?_; clear CK; rintro e w' ⟨rfl, rfl⟩)
          | (go_at_call 16; refine (F1.out _ HB17.out).mono ?_; clear F1; rintro e w' ⟨rfl, rfl⟩)
          | (go_at_call 16; refine (F2.out _ HB17.out).mono ?_; clear F2; rintro e w' ⟨rfl, rfl⟩)
          | (go_at_call 19; refine CD.out.mono ?_; clear CD; rintro e x8 ⟨v, rfl, hg, hb8⟩; obtain ⟨aD, cD, bD, rfl, _, _, _, hst8⟩ := Gath.strs hg rfl HDf.out; have HD8 := Lib.hid hst8; have H8 := Lib.hid (StrsAt.mono (H7.out.kept hb8 (Nat.le_refl _)) hb8.size); have HB18 := Lib.hid (below_on HB17.out hb8); clear hg hb8 hst8))
        go_loop [78] (fun i => ∃ k : Nat, k ≤ D.length ∧ i = .int .i64 k) (fun i => D.length - (intOf i).toNat)
        case atStart => exact ⟨0, Nat.zero_le _, rfl⟩
        case round =>
          obtain ⟨k, hk, rfl⟩ := hrel
          by_cases hlt : k < D.length
          · have c2 := strs_at HD8.out k hlt
            rw [Nat.zero_add] at c2
            obtain rfl : aD = some ⟨bD, 0, none⟩ := HD8.out.addr.resolve_left (by omega)
            have hki : (k : Int) < (D.length : Int) := by omega
            have FA := Lib.hid (find_lit (cap := cD) HD8.out (find_nodup HND.out hlt))
            have FB := Lib.hid (find_any (cap := cap0) H8.out (atS D k))
            have hin : atS D k ∈ ([] : List ByteArray) := (HMem.out _).1 (mem_atS.2 ⟨k, hlt, rfl⟩)
            have d2 : decide (findI ([] : List ByteArray) (atS D k) < 0) = false := by
              have h9 : ¬ findI ([] : List ByteArray) (atS D k) < 0 := fun h => find_neg.1 h hin
              simpa using h9
            clear hin
            generalize findI ([] : List ByteArray) (atS D k) = fi at *
            generalize atS D k = x at *
            go_wp2_with (first
              | (go_at_call 16; refine FA.out.mono ?_; clear FA; rintro e w' ⟨rfl, rfl⟩)
              | (go_at_call 16; refine FB.out.mono ?_; clear FB; rintro e w' ⟨rfl, rfl⟩))
            go_round
            case rel => exact ⟨k + 1, by omega, by go_num⟩
            case measure => simp [intOf]; omega
          · obtain rfl : k = D.length := by omega
            go_wp2
            go_loop [97] (fun i => ∃ k : Nat, k ≤ ([] : List ByteArray).length ∧ i = .int .i64 k) (fun i => ([] : List ByteArray).length - (intOf i).toNat)
            case atStart => exact ⟨0, Nat.zero_le _, rfl⟩
            case round =>
              obtain ⟨k, hk, rfl⟩ := hrel
              obtain rfl : k = 0 := by simpa using hk
              go_wp2
              go_ret
              exact ⟨rfl, below_on HB1.out HB18.out⟩
    · obtain rfl : a0 = some ⟨b, off, none⟩ := H2.out.addr.resolve_left hzl
      have hN0 : 0 < zs.length := by omega
      have HA := Lib.hid (H2.out.kept ((Below.refl x2.heap.size x2).alloc (Nat.le_refl _) (.cells #[] 9)) (Nat.le_refl _))
      clear hzl hf2
      go_upto_region 9 with (first
        | (at_builtin; refine wpList_append_GB _ rfl (.tmp 40) _ 22 rfl x2.heap.size 9 i0 (.string ByteArray.empty) 1 16 Tryd.underlying22 HI.out HZ0.out HZ1.out HZ2.out rfl (by decide) _ 0 [] none rfl (gb_nil _ _ _ _ _) ⟨b, off, none⟩ zs.length cap0 (svals zs) rfl (by simp [svals]) (fun j u hj => by obtain ⟨h1, rfl⟩ := svals_get hj; rw [addr_add]; exact strs_at HA.out j h1) (by intro u hu; unfold svals at hu; obtain ⟨y, _, rfl⟩ := List.mem_map.1 hu; rfl) hN0 (by unfold maxLen; omega) (by omega) (by simp) ?_; intro g5 p5 w5 r5 hG5 hg5 hr5 hw5; simp only [Nat.zero_add, List.nil_append] at hG5 ⊢; have hb5 : Below x2.heap.size x2 w5 := ((Below.refl _ x2).alloc (Nat.le_refl _) _).grown hg5 (by simp) (fun r e => by rcases hr5 with h | h <;> (rw [h] at e; cases e)); have HG5 := Lib.hid hG5; have HB5 := Lib.hid hb5; have zw5 := hb5.size; clear hG5 hg5 hr5 hw5 hb5)
        | (at_builtin; refine wpList_append_GB _ rfl (.tmp 42) _ 22 rfl x2.heap.size 9 i0 (.string ByteArray.empty) 1 16 Tryd.underlying22 HI.out HZ0.out HZ1.out HZ2.out rfl (by decide) _ zs.length (svals zs) (some g5) rfl (HG5.out.alloc _) ⟨w5.heap.size, 0, none⟩ 1 1 [.string sf] rfl rfl (cell_one _ _ _) (by intro u hu; simp at hu; subst hu; rfl) (by decide) (by unfold maxLen; omega) (by omega) (by simp; omega) ?_; intro g6 p6 w6 r6 hG6 hg6 hr6 hw6; have hg7 := hG6.gath; rw [← svals_snoc] at hg7; have hb6 : Below x2.heap.size x2 w6 := (HB5.out.alloc HB5.out.size _).grown hg6 (by simp; omega) (fun r e => by rcases hr6 with h | h; (rw [h] at e; cases e); (exact (HG5.out.lt r (by rw [← h, e])).1)); obtain ⟨a7, c7, b7, e7, _, _, _, hst7⟩ := Gath.strs hg7 (by simp) (fun y hy => by rcases List.mem_append.1 hy with h | h; (first | (exact H2.out.fits y h) | (cases h)); (rw [List.mem_singleton.1 h]; exact HSm.out)); cases e7; have HST7 := Lib.hid hst7; have HB6 := Lib.hid hb6; clear hG6 hg6 hr6 hw6 hg7 hb6 hst7)
        | (go_at_call 8; refine (CT.out _ _ _ _ _ HST7.out).mono ?_; clear CT; rintro e x7 ⟨rfl, hB7⟩; have HB17 := Lib.hid (HB12.out.trans ((HB6.out.trans (hB7.out.mono HB6.out.size)).mono HB12.out.size)); clear hB7))
      clear HA HG5 HB5 HST7 HB6
      have H7 := Lib.hid (StrsAt.mono (H1.out.kept HB17.out (Nat.le_refl _)) HB17.out.size)
      have CD := Lib.hid (ldistinct_any (cap := cap0) H7.out (by first | exact HN.out | exact fun _ => HN.out trivial) (by first | omega | (simp; done)) 1000 (by decide))
      have hDl : (distD zs).length ≤ 40 := by have := distL_length zs zs.length; unfold distD; omega
      have hT : takeM (distD zs) 1000 = distD zs := by unfold takeM; rw [if_pos (by decide)]; exact List.take_of_length_le (by show _ ≤ 1000; omega)
      rw [hT] at CD
      have HND : Hid (distD zs).Nodup := Lib.hid (distL_nodup zs _)
      have HMem : Hid (∀ x, x ∈ distD zs ↔ x ∈ zs) := Lib.hid (fun x => mem_distD)
      have HDf := Lib.hid (distD_fits H7.out.fits)
      clear hT
      generalize distD zs = D at *
      go_wp2_with (first
        | (go_at_call 12; refine (CK.out _).mono ?_; clear CK; rintro e w' ⟨rfl, rfl⟩)
        | (go_at_call 16; refine (F1.out _ HB17.out).mono ?_; clear F1; rintro e w' ⟨rfl, rfl⟩)
        | (go_at_call 16; refine (F2.out _ HB17.out).mono ?_; clear F2; rintro e w' ⟨rfl, rfl⟩)
        | (go_at_call 19; refine CD.out.mono ?_; clear CD; rintro e x8 ⟨v, rfl, hg, hb8⟩; obtain ⟨aD, cD, bD, rfl, _, _, _, hst8⟩ := Gath.strs hg rfl HDf.out; have HD8 := Lib.hid hst8; have H8 := Lib.hid (StrsAt.mono (H7.out.kept hb8 (Nat.le_refl _)) hb8.size); have HB18 := Lib.hid (below_on HB17.out hb8); clear hg hb8 hst8))
      go_loop [78] (fun i => ∃ k : Nat, k ≤ D.length ∧ i = .int .i64 k) (fun i => D.length - (intOf i).toNat)
      case atStart => exact ⟨0, Nat.zero_le _, rfl⟩
      case round =>
        obtain ⟨k, hk, rfl⟩ := hrel
        by_cases hlt : k < D.length
        · have c2 := strs_at HD8.out k hlt
          rw [Nat.zero_add] at c2
          obtain rfl : aD = some ⟨bD, 0, none⟩ := HD8.out.addr.resolve_left (by omega)
          have hki : (k : Int) < (D.length : Int) := by omega
          have FA := Lib.hid (find_lit (cap := cD) HD8.out (find_nodup HND.out hlt))
          have FB := Lib.hid (find_any (cap := cap0) H8.out (atS D k))
          have hin : atS D k ∈ zs := (HMem.out _).1 (mem_atS.2 ⟨k, hlt, rfl⟩)
          have d2 : decide (findI zs (atS D k) < 0) = false := by
            have h9 : ¬ findI zs (atS D k) < 0 := fun h => find_neg.1 h hin
            simpa using h9
          clear hin
          generalize findI zs (atS D k) = fi at *
          generalize atS D k = x at *
          go_wp2_with (first
            | (go_at_call 16; refine FA.out.mono ?_; clear FA; rintro e w' ⟨rfl, rfl⟩)
            | (go_at_call 16; refine FB.out.mono ?_; clear FB; rintro e w' ⟨rfl, rfl⟩))
          go_round
          case rel => exact ⟨k + 1, by omega, by go_num⟩
          case measure => simp [intOf]; omega
        · obtain rfl : k = D.length := by omega
          go_wp2
          go_loop [97] (fun i => ∃ k : Nat, k ≤ zs.length ∧ i = .int .i64 k) (fun i => zs.length - (intOf i).toNat)
          case atStart => exact ⟨0, Nat.zero_le _, rfl⟩
          case round =>
            obtain ⟨k, hk, rfl⟩ := hrel
            by_cases hlt2 : k < zs.length
            · have c2 := strs_at H8.out k hlt2
              have hki : (k : Int) < (zs.length : Int) := by omega
              have FA := Lib.hid (find_any (cap := cD) HD8.out (atS zs k))
              have hin : atS zs k ∈ D := (HMem.out _).2 (mem_atS.2 ⟨k, hlt2, rfl⟩)
              have d2 : decide (findI D (atS zs k) < 0) = false := by
                have h9 : ¬ findI D (atS zs k) < 0 := fun h => find_neg.1 h hin
                simpa using h9
              clear hin
              generalize findI D (atS zs k) = fi at *
              generalize atS zs k = x at *
              go_wp2_with (go_at_call 16; refine FA.out.mono ?_; clear FA; rintro e w' ⟨rfl, rfl⟩)
              go_round
              case rel => exact ⟨k + 1, by omega, by go_num⟩
              case measure => simp [intOf]; omega
            · obtain rfl : k = zs.length := by omega
              go_wp2
              go_ret
              exact ⟨rfl, below_on HB1.out HB18.out⟩
end Go.Proofs.YtmilchkemobchaaDoor
