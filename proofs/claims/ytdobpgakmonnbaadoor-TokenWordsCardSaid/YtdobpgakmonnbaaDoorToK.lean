/- The walk of TokenWords. -/
import Derived.Test.YtdobpgakmonnbaaDoorToJ
set_option linter.unusedVariables false
set_option linter.unusedSectionVars false
set_option linter.unusedSimpArgs false
namespace Go.Proofs.YtdobpgakmonnbaaDoor.Tok
open Go.RowKit Go.Shelf Ss

theorem let_ltr {c : UInt8} (h : Ic.letB (c.toNat : Int) = true) : ltr c = true := by
  unfold Ic.letB at h
  unfold ltr
  simp at h
  simp
  omega
theorem ok_wrd {c : UInt8} (h : Ic.okB (c.toNat : Int) = true) : wrd c = true := by
  unfold Ic.okB Ic.letB Ic.digB at h
  unfold wrd ltr dgt
  simp at h
  simp
  omega
theorem name_word {s : ByteArray} (h : Ic.chkE s = 0) : isWord s.data.toList := by
  have hn : Ic.nameB s = true := by
    by_cases e : Ic.nameB s = true
    · exact e
    · unfold Ic.chkE at h
      rw [if_neg e] at h
      cases h
  obtain ⟨h1, h2, h3, h4⟩ := Ic.chk_size hn
  have hl : s.data.toList.length = s.size := by simp
  cases hs : s.data.toList with
  | nil => rw [hs] at hl; simp at hl; omega
  | cons c r =>
    refine ⟨c, r, rfl, let_ltr (by unfold Ic.byS at h3; rw [hs] at h3; exact h3), fun x hx => ?_⟩
    obtain ⟨i, hi, rfl⟩ := List.getElem_of_mem hx
    have := Ic.okTo_iff.1 h4 i (by rw [← hl, hs]; exact hi)
    unfold Ic.byS at this
    rw [hs, List.getD_eq_getElem?_getD, List.getElem?_eq_getElem hi] at this
    exact ok_wrd this
theorem wordsB_snoc (ws : List (List UInt8)) (w : List UInt8) : wordsB (ws ++ [w]) = wordsB ws ++ (w ++ [32]) := by
  induction ws with
  | nil => simp [wordsB]
  | cons x r ih => simp [wordsB, ih]
theorem strs_mono {B B' : Nat} {w : World} {a : Option Addr} {b off len : Nat} {ss : List ByteArray} (h : StrsAt B w a b off len ss) (hB : B ≤ B') : StrsAt B' w a b off len ss :=
  ⟨h.addr, h.length, h.small, h.below.imp id (fun e => by omega), h.cell, h.fits⟩
/-- While the text is put together. -/
structure TxR (zs : List ByteArray) (k : Nat) (T : ByteArray) : Prop where
  le : k ≤ zs.length
  text : T.data.toList = wordsB ((zs.take k).map (fun x => x.data.toList))
  size : T.size ≤ k * 81
  words : ∀ x ∈ zs.take k, isWord x.data.toList
theorem TxR.step {zs : List ByteArray} {k : Nat} {T : ByteArray} (h : TxR zs k T) (hk : k < zs.length) (h80 : (zs.getD k ByteArray.empty).size ≤ 80) (hw : isWord (zs.getD k ByteArray.empty).data.toList) : TxR zs (k + 1) (T ++ (zs.getD k ByteArray.empty ++ ⟨#[32]⟩)) := by
  have e : zs.take (k + 1) = zs.take k ++ [zs.getD k ByteArray.empty] := by
    rw [List.take_succ_eq_append_getElem hk]
    simp [List.getD_eq_getElem?_getD, hk]
  refine ⟨hk, ?_, ?_, ?_⟩
  · rw [e, List.map_append, List.map_cons, List.map_nil, wordsB_snoc, ← h.text]
    simp [ByteArray.data_append]
  · have := h.size
    simp only [ByteArray.size_append]
    show T.size + ((zs.getD k ByteArray.empty).size + 1) ≤ _
    omega
  · intro x hx
    rw [e] at hx
    rcases List.mem_append.1 hx with hx | hx
    · exact h.words x hx
    · rw [List.mem_singleton] at hx; subst hx; exact hw
/-- How many tokens a text has. -/
def cntS (s : ByteArray) : Option Nat := cntF (s.size + 1) s.data.toList
theorem list_cnt (s : ByteArray) (hs : s.size ≤ 60000) (w : World) (hv : VarR w) : Calls Tryd.prog 6 #[.string s] w fun e w' => ∃ a n c er, ∃ p : Int, e = .returned (.tuple #[.slice a n c, .agg #[.int .i64 er, .int .i64 p]]) ∧ Hid (Below w.heap.size w w') ∧ n ≤ s.size + 1 ∧ Hid ((er = 0 ∧ cntS s = some n) ∨ (er ≠ 0 ∧ cntS s = none)) := by
  refine (list_res s hs w hv).mono ?_
  rintro e w' ⟨hb, hp⟩
  have hc := toks_cnt (s.size + 1) 0 s.data.toList (by simp)
  have ha := all_toks (s.size + 1) 0 s.data.toList (by simp)
  have hal := allD_length (s.size + 1) 0 s.data.toList
  cases ht : toksF (s.size + 1) 0 s.data.toList with
  | error y =>
    obtain ⟨x, q⟩ := y
    rw [ht] at hp hc ha
    have hx : x ≠ 0 := by
      have : ∀ f a s, toksF f a s = .error (x, q) → x ≠ 0 := fun f => by
        induction f with
        | zero => intro a s h; cases h
        | succ f ih =>
          intro a s h
          rw [toksF_succ] at h
          split at h
          · rename_i e hf
            cases h
            rcases first_err hf with rfl | rfl <;> decide
          · split at h
            · cases h
            · split at h
              · rename_i e hf
                cases h
                exact ih _ _ hf
              · cases h
      exact this _ _ _ ht
    exact ⟨none, 0, 0, x, (q : Int), hp, hb, Nat.zero_le _, Lib.hid (.inr ⟨hx, hc⟩)⟩
  | ok L =>
    rw [ht] at hp hc ha
    simp only at ha
    rw [ha, List.length_map] at hal
    obtain ⟨g, cap, h1, _, _⟩ := hp
    exact ⟨_, _, _, 0, 0, h1, hb, by simpa using hal, Lib.hid (.inl ⟨rfl, hc⟩)⟩
theorem cnt_two (a b : ByteArray) : cntS (a ++ ⟨#[10]⟩ ++ b) = match cntS a with | none => none | some x => (cntS b).map (fun y => x + y - 1) := by
  have h := cnt_join b.data.toList (a.size + 1) a.data.toList (by simp) ((a ++ ⟨#[10]⟩ ++ b).size + 1) (b.size + 1) (by
    simp only [ByteArray.size_append, List.length_append, List.length_cons]
    have h1 : a.data.toList.length = a.size := by simp
    have h2 : b.data.toList.length = b.size := by simp
    rw [h1, h2]
    show a.size + (b.size + 1) < a.size + 1 + b.size + 1
    omega) (by simp)
  have e : (a ++ ⟨#[10]⟩ ++ b).data.toList = a.data.toList ++ 10 :: b.data.toList := by simp [ByteArray.data_append]
  unfold cntS
  rw [e]
  exact h
set_option maxRecDepth 100000 in
set_option maxHeartbeats 4000000 in
theorem walk_TokenWords (a0 : Option Addr) (len0 cap0 : Nat) (z0 : List ByteArray) (a1 a2 : ByteArray) (w : World) (w0 : IsStrs w a0 len0 cap0 z0) (w1 : a1.size ≤ maxLen) (w2 : a2.size ≤ maxLen) (hv : VarR w) :
    Calls Tryd.prog 3 #[.slice a0 len0 cap0, .string a1, .string a2] w fun e w' => e = .returned (.bool true) ∧ Below w.heap.size w w' := by
  obtain ⟨b, off, hz⟩ := w0.strs
  obtain ⟨zs, hzs⟩ : ∃ zs, z0.take len0 = zs := ⟨_, rfl⟩
  rw [hzs] at hz
  obtain rfl := hz.length
  have HZ := Lib.hid hz
  have HV := Lib.hid hv
  clear hz hv w0 w1 w2 hzs
  go_enter Tryd.func3, Tryd.ntmps3
  go_wp2_with fail
  refine (alive_any _ HV.out).mono ?_
  rintro e x1 ⟨rfl, hB1⟩
  have HB1 := Lib.hid hB1
  have HZ1 := Lib.hid (strs_mono (HZ.out.kept hB1 (Nat.le_refl _)) hB1.size)
  have HV1 := Lib.hid (HV.out.below hB1)
  clear hB1 HZ HV
  by_cases h60 : 60 < zs.length
  · have d0 : decide (60 < (zs.length : Int)) = true := by simp; omega
    go_wp2
    go_ret
    exact ⟨rfl, HB1.out⟩
  have d0 : decide (60 < (zs.length : Int)) = false := by simp; omega
  by_cases h5a : 500 < a1.size
  · have d1 : decide (500 < (a1.size : Int)) = true := by simp; omega
    go_wp2
    go_ret
    exact ⟨rfl, HB1.out⟩
  have d1 : decide (500 < (a1.size : Int)) = false := by simp; omega
  by_cases h5b : 500 < a2.size
  · have d2 : decide (500 < (a2.size : Int)) = true := by simp; omega
    go_wp2
    go_ret
    exact ⟨rfl, HB1.out⟩
  have d2 : decide (500 < (a2.size : Int)) = false := by simp; omega
  go_wp2_with fail
  go_loop [7, 37] (fun t i => ∃ (k : Nat) (T : ByteArray), t = .string T ∧ i = .int .i64 (k : Int) ∧ Hid (TxR zs k T)) (fun _ i => zs.length - (intOf i).toNat)
  case atStart => exact ⟨0, _, rfl, rfl, Lib.hid ⟨Nat.zero_le _, rfl, Nat.le_refl _, fun x hx => by simp at hx⟩⟩
  case round =>
    obtain ⟨k, T, rfl, rfl, HT⟩ := hrel
    have hkl := HT.out.le
    by_cases hk : k < zs.length
    · have hkb : decide ((k : Int) < (zs.length : Int)) = true := by simp; omega
      have hki : (k : Int) < (zs.length : Int) := by omega
      have hk0 : (0 : Int) ≤ (k : Int) := Int.natCast_nonneg k
      have ha := HZ1.out.addr.resolve_left (by omega)
      have hc := HZ1.out.cell k hk
      have hfit : (zs.getD k ByteArray.empty).size ≤ maxLen := by
        refine HZ1.out.fits _ ?_
        rw [List.getD_eq_getElem?_getD, List.getElem?_eq_getElem hk]
        exact List.getElem_mem _
      have HST := Lib.hid (HT.out.step hk)
      have hTs := HT.out.size
      obtain ⟨x, hx⟩ : ∃ x, zs.getD k ByteArray.empty = x := ⟨_, rfl⟩
      rw [hx] at hc hfit HST
      subst ha
      by_cases h80 : 80 < x.size
      · have g0 : decide (80 < (x.size : Int)) = true := by simp; omega
        clear hx
        go_wp2
        go_ret
        exact ⟨rfl, HB1.out⟩
      have g0 : decide (80 < (x.size : Int)) = false := by simp; omega
      by_cases he : x.toList = []
      · have g1 : x.toList.isEmpty = true := by rw [he]; rfl
        clear hx
        go_wp2
        go_ret
        exact ⟨rfl, HB1.out⟩
      have g1 : x.toList.isEmpty = false := by
        cases h : x.toList with
        | nil => exact absurd h he
        | cons c r => rfl
      have HC := Lib.hid (Ic.check_any x hfit x1)
      by_cases hc0 : Ic.chkE x = 0
      · rw [hc0] at HC
        have HS2 := Lib.hid (HST.out (by omega) (name_word hc0))
        have hcat : ¬ 9223372036854775807 < T.size + (x.size + 1) := by omega
        clear hx he hc0 HST hfit
        go_wp2_with (go_at_call 5; refine HC.out.mono ?_; clear HC; rintro e w' ⟨rfl, rfl⟩)
        go_round
        case rel => exact ⟨k + 1, _, rfl, by go_num, HS2⟩
        case measure => simp [intOf]; omega
      · have hc4 : (Ic.chkE x != 0) = true := by simpa using hc0
        generalize Ic.chkE x = ce at *
        clear hx he hc0 HST hfit
        go_wp2_with (go_at_call 5; refine HC.out.mono ?_; clear HC; rintro e w' ⟨rfl, rfl⟩)
        go_ret
        exact ⟨rfl, HB1.out⟩
    · obtain rfl : k = zs.length := by omega
      have hkb : decide ((zs.length : Int) < (zs.length : Int)) = false := by simp
      have hTs := HT.out.size
      have HLr := Lib.hid (list_res T (by omega) x1 HV1.out)
      unfold LRes at HLr
      obtain ⟨L, hL, hLl, hLw⟩ := toks_words (zs.map (fun x => x.data.toList)) (T.size + 1) 0 (by
        have h1 : T.data.toList.length = T.size := by simp
        have h2 := HT.out.text
        rw [List.take_of_length_le (Nat.le_refl _)] at h2
        rw [← h2, h1]; omega) (fun y hy => by
        obtain ⟨x, hx, rfl⟩ := List.mem_map.1 hy
        exact HT.out.words x (by rw [List.take_of_length_le (Nat.le_refl _)]; exact hx))
      have hTt := HT.out.text
      rw [List.take_of_length_le (Nat.le_refl _)] at hTt
      rw [← hTt] at hL
      rw [hL] at HLr
      simp only at HLr
      rw [List.length_map] at hLl
      have HLw : Hid (∀ i, i < zs.length → ∃ t, L[i]? = some t ∧ t.kind = 1 ∧ (⟨t.text.toArray⟩ : ByteArray) = zs.getD i ByteArray.empty) := Lib.hid (fun i hi => by
        obtain ⟨t, k1, k2, k3⟩ := hLw i (by rw [List.length_map]; exact hi)
        refine ⟨t, k1, k2, ?_⟩
        rw [k3, List.getElem_map, List.getD_eq_getElem?_getD, List.getElem?_eq_getElem hi]
        apply ByteArray.ext
        simp)
      rw [hLl] at HLr
      clear hL hTt hLw HT hTs hkl hk
      go_wp2_with fail
      refine HLr.out.mono ?_
      rintro e x2 ⟨HB2, g, cap, rfl, hg, HTk⟩
      have HB3 : Hid (Below w.heap.size w (x2.alloc (.cells #[.int .i64 0, .int .i64 0] 28))) := Lib.hid ((HB1.out.trans (HB2.out.mono HB1.out.size)).alloc (HB1.out.trans (HB2.out.mono HB1.out.size)).size _)
      have hb3 : Below x1.heap.size x1 (x2.alloc (.cells #[.int .i64 0, .int .i64 0] 28)) := HB2.out.alloc HB2.out.size _
      have HZ3 := Lib.hid (strs_mono (HZ1.out.kept hb3 (Nat.le_refl _)) hb3.size)
      have HV3 := Lib.hid (HV1.out.below hb3)
      have HT3 := Lib.hid (HTk.out.kept ((Below.refl _ x2).alloc (Nat.le_refl _) (.cells #[.int .i64 0, .int .i64 0] 28)))
      have HF3 := Lib.hid (heap_new (w := x2) (.cells #[.int .i64 0, .int .i64 0] 28) rfl)
      clear HLr hb3 HTk HB2 HB1 HZ1 HV1 hg
      go_upto_region 14 with fail
      generalize (x2.alloc (.cells #[.int .i64 0, .int .i64 0] 28)) = x3 at *
      generalize x2.heap.size = fb at *
      have f0 := heap_cell HF3.out (i := 0) rfl
      simp only [List.getElem_toArray, List.getElem_cons_zero] at f0
      clear HF3
      go_wp2_with fail
      go_loop [76] (fun i => ∃ k : Nat, i = .int .i64 (k : Int) ∧ k ≤ zs.length) (fun i => zs.length - (intOf i).toNat)
      case atStart => exact ⟨0, rfl, Nat.zero_le _⟩
      case round =>
        obtain ⟨k, rfl, hk⟩ := hrel
        by_cases hlt : k < zs.length
        · have hkb : decide ((k : Int) < (zs.length : Int)) = true := by simp; omega
          have hki : (k : Int) < (zs.length : Int) := by omega
          have hki1 : (k : Int) < (zs.length : Int) + 1 := by omega
          have hk0 : (0 : Int) ≤ (k : Int) := Int.natCast_nonneg k
          have ha := HZ3.out.addr.resolve_left (by omega)
          have hc := HZ3.out.cell k hlt
          obtain ⟨t, ht, htk, htx⟩ := HLw.out k hlt
          obtain ⟨t0, _, t2, _⟩ := HT3.out.at_ k t ht
          rw [htk] at t0
          rw [htx] at t2
          obtain ⟨x, hx⟩ : ∃ x, zs.getD k ByteArray.empty = x := ⟨_, rfl⟩
          rw [hx] at hc t2
          have t0' : x3.cell? ⟨g, k * 4, none⟩ = some (.int .i64 1) := t0
          subst ha
          clear hx htx htk ht t0
          go_wp2
          go_round
          case rel => exact ⟨k + 1, by go_num, by omega⟩
          case measure => simp [intOf]; omega
        · obtain rfl : k = zs.length := by omega
          have hkb2 : decide ((zs.length : Int) < (zs.length : Int)) = false := by simp
          have HA := Lib.hid (fun W hv => list_cnt a1 (by omega) W hv)
          have HBb := Lib.hid (fun W hv => list_cnt a2 (by omega) W hv)
          have HC := Lib.hid (fun W hv => list_cnt (a1 ++ ⟨#[10]⟩ ++ a2) (by simp only [ByteArray.size_append]; show a1.size + 1 + a2.size ≤ _; omega) W hv)
          clear HLw HT3 HZ3 hLl hk hlt
          go_wp2_with fail
          refine (HA.out _ HV3.out).mono ?_
          rintro e x4 ⟨p1, n1, c1, er1, q1, rfl, HB4, hn1, HE1⟩
          have HB5 : Hid (Below w.heap.size w (x4.alloc (.cells #[.int .i64 er1, .int .i64 q1] 28))) := Lib.hid ((HB3.out.trans (HB4.out.mono HB3.out.size)).alloc (HB3.out.trans (HB4.out.mono HB3.out.size)).size _)
          have HV5 : Hid (VarR (x4.alloc (.cells #[.int .i64 er1, .int .i64 q1] 28))) := Lib.hid (HV3.out.below (HB4.out.alloc HB4.out.size _))
          have HF5 := Lib.hid (heap_new (w := x4) (.cells #[.int .i64 er1, .int .i64 q1] 28) rfl)
          clear HA HB4 HB3 HV3 f0
          go_upto_region 23 with fail
          generalize (x4.alloc (.cells #[.int .i64 er1, .int .i64 q1] 28)) = x5 at *
          generalize x4.heap.size = b5 at *
          go_wp2_with fail
          refine (HBb.out _ HV5.out).mono ?_
          rintro e x6 ⟨p2, n2, c2, er2, q2, rfl, HB6, hn2, HE2⟩
          have HB7 : Hid (Below w.heap.size w (x6.alloc (.cells #[.int .i64 er2, .int .i64 q2] 28))) := Lib.hid ((HB5.out.trans (HB6.out.mono HB5.out.size)).alloc (HB5.out.trans (HB6.out.mono HB5.out.size)).size _)
          have hb7 : Below x5.heap.size x5 (x6.alloc (.cells #[.int .i64 er2, .int .i64 q2] 28)) := HB6.out.alloc HB6.out.size _
          have HV7 := Lib.hid (HV5.out.below hb7)
          have HF7 := Lib.hid (heap_new (w := x6) (.cells #[.int .i64 er2, .int .i64 q2] 28) rfl)
          have HF57 := Lib.hid (heap_below HF5.out hb7 (heap_lt HF5.out))
          clear HBb HB6 HB5 HV5 HF5 hb7
          go_upto_region 24 with fail
          generalize (x6.alloc (.cells #[.int .i64 er2, .int .i64 q2] 28)) = x7 at *
          generalize x6.heap.size = b7 at *
          have hcat1 : ¬ 9223372036854775807 < a1.size + 1 := by omega
          have hcat2 : ¬ 9223372036854775807 < a1.size + 1 + a2.size := by omega
          go_wp2_with fail
          refine (HC.out _ HV7.out).mono ?_
          rintro e x8 ⟨p3, n3, c3, er3, q3, rfl, HB8, hn3, HE3⟩
          have HB9 : Hid (Below w.heap.size w (x8.alloc (.cells #[.int .i64 er3, .int .i64 q3] 28))) := Lib.hid ((HB7.out.trans (HB8.out.mono HB7.out.size)).alloc (HB7.out.trans (HB8.out.mono HB7.out.size)).size _)
          have hb9 : Below x7.heap.size x7 (x8.alloc (.cells #[.int .i64 er3, .int .i64 q3] 28)) := HB8.out.alloc HB8.out.size _
          have HF9 := Lib.hid (heap_new (w := x8) (.cells #[.int .i64 er3, .int .i64 q3] 28) rfl)
          have HF59 := Lib.hid (heap_below HF57.out hb9 (heap_lt HF57.out))
          have HF79 := Lib.hid (heap_below HF7.out hb9 (heap_lt HF7.out))
          have hn3' : n3 ≤ 1002 := by
            simp only [ByteArray.size_append] at hn3
            have : n3 ≤ a1.size + 1 + a2.size + 1 := hn3
            omega
          have HE3' := HE3.out
          rw [cnt_two] at HE3'
          have HT9 : Hid ((er1 = 0 ∧ er2 = 0 ∧ er3 = 0 ∧ (n3 : Int) = (n1 : Int) + (n2 : Int) - 1) ∨ (er1 ≠ 0 ∧ er3 ≠ 0) ∨ (er1 = 0 ∧ er2 ≠ 0 ∧ er3 ≠ 0)) := Lib.hid (by
            rcases HE1.out with ⟨h1, k1⟩ | ⟨h1, k1⟩
            · rcases HE2.out with ⟨h2, k2⟩ | ⟨h2, k2⟩
              · rw [k1, k2] at HE3'
                have hp1 := cnt_pos _ _ _ k1
                rcases HE3' with ⟨h3, k3⟩ | ⟨h3, k3⟩
                · have k3' : some (n1 + n2 - 1) = some n3 := k3
                  cases k3'
                  exact .inl ⟨h1, h2, h3, by omega⟩
                · cases k3
              · rw [k1, k2] at HE3'
                rcases HE3' with ⟨h3, k3⟩ | ⟨h3, k3⟩
                · cases k3
                · exact .inr (.inr ⟨h1, h2, h3⟩)
            · rw [k1] at HE3'
              rcases HE3' with ⟨h3, k3⟩ | ⟨h3, k3⟩
              · cases k3
              · exact .inr (.inl ⟨h1, h3⟩))
          clear HC HB8 HB7 HV7 HF57 HF7 hb9 hn3 HE1 HE2 HE3 HE3' hcat1 hcat2
          go_upto_region 25 with fail
          generalize (x8.alloc (.cells #[.int .i64 er3, .int .i64 q3] 28)) = x9 at *
          generalize x8.heap.size = b9 at *
          have e1 := heap_cell HF59.out (i := 0) rfl
          have e2 := heap_cell HF79.out (i := 0) rfl
          have e3 := heap_cell HF9.out (i := 0) rfl
          simp only [List.getElem_toArray, List.getElem_cons_zero] at e1 e2 e3
          clear HF59 HF79 HF9
          rcases HT9.out with ⟨h1, h2, h3, h4⟩ | ⟨h1, h3⟩ | ⟨h1, h2, h3⟩
          · subst h1 h2 h3
            have g3 : ((n3 : Int) == (n1 : Int) + (n2 : Int) - 1) = true := by rw [h4]; simp
            have hn1' : (n1 : Int) ≤ 600 := by omega
            have hn2' : (n2 : Int) ≤ 600 := by omega
            clear h4 HT9
            go_wp2
            go_ret
            exact ⟨rfl, HB9.out⟩
          · have g1 : (er1 != 0) = true := by simpa using h1
            have g3 : (er3 != 0) = true := by simpa using h3
            clear h1 h3 HT9
            go_wp2
            go_ret
            exact ⟨rfl, HB9.out⟩
          · subst h1
            have g1 : (er2 != 0) = true := by simpa using h2
            have g3 : (er3 != 0) = true := by simpa using h3
            clear h2 h3 HT9
            go_wp2
            go_ret
            exact ⟨rfl, HB9.out⟩
end Go.Proofs.YtdobpgakmonnbaaDoor.Tok
