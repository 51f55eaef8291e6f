/- The walk of RankedDrops. -/
import Derived.Test.YtjbkfopfckphjaaTr
set_option linter.unusedVariables false
set_option linter.unusedSectionVars false
namespace Go.Proofs.Ytjbkfopfckphjaa
open Go.RowKit Rk

/-- Behind j of the others: put. -/
def g1 (zs : List Int) (G : Int → Option Int) (j : Nat) (x : Int) : Bool := decide (x ∈ zs.take j) && (G x).isNone
def F1 (zs : List Int) (G : Int → Option Int) (j : Nat) (x : Int) : Option Int := if x ∈ zs.take j then some (-1) else G x
def g2 (zs : List Int) (G : Int → Option Int) (j : Nat) (x : Int) : Bool := decide (x ∈ zs) && (G x).isNone && !decide (x ∈ zs.take j)
def F2 (zs : List Int) (G : Int → Option Int) (j : Nat) (x : Int) : Option Int := if x ∈ zs.take j ∧ G x = none then none else if x ∈ zs then some (-1) else G x
theorem mem_take_succ (zs : List Int) {j : Nat} (hj : j < zs.length) (x : Int) : x ∈ zs.take (j + 1) ↔ x ∈ zs.take j ∨ x = zs.getD j 0 := by
  rw [List.take_succ_eq_append_getElem hj, List.mem_append, List.mem_singleton, show zs.getD j 0 = zs[j] by simp [List.getD, hj]]
theorem F1_succ (zs : List Int) (G : Int → Option Int) {j : Nat} (hj : j < zs.length) (x : Int) : (if x = zs.getD j 0 then some (-1) else F1 zs G j x) = F1 zs G (j + 1) x := by
  unfold F1
  have := mem_take_succ zs hj x
  by_cases h : x = zs.getD j 0
  · rw [if_pos h, if_pos (this.2 (.inr h))]
  · rw [if_neg h]
    by_cases h2 : x ∈ zs.take j
    · rw [if_pos h2, if_pos (this.2 (.inl h2))]
    · rw [if_neg h2, if_neg (fun h3 => by rcases this.1 h3 with h4 | h4; exact h2 h4; exact h h4)]
theorem g1_yes (zs : List Int) (G : Int → Option Int) {j : Nat} (hj : j < zs.length) (hn : F1 zs G j (zs.getD j 0) = none) (x : Int) : (if x = zs.getD j 0 then true else g1 zs G j x) = g1 zs G (j + 1) x := by
  have h0 := mem_take_succ zs hj x
  unfold F1 at hn
  unfold g1
  generalize zs.getD j 0 = d at *
  split at hn
  · cases hn
  · by_cases h : x = d
    · subst h; simp [h0, hn]
    · rw [if_neg h]; congr 1; exact decide_eq_decide.2 ⟨fun h3 => h0.2 (.inl h3), fun h3 => (h0.1 h3).resolve_right h⟩
theorem g1_no (zs : List Int) (G : Int → Option Int) {j : Nat} (hj : j < zs.length) (hn : F1 zs G j (zs.getD j 0) ≠ none) (x : Int) : g1 zs G j x = g1 zs G (j + 1) x := by
  have h0 := mem_take_succ zs hj x
  unfold F1 at hn
  unfold g1
  by_cases h : x = zs.getD j 0
  · subst h
    by_cases h2 : zs.getD j 0 ∈ zs.take j
    · have : zs.getD j 0 ∈ zs.take (j + 1) := h0.2 (.inl h2)
      simp only [h2, this]
    · rw [if_neg h2] at hn
      cases hG : G (zs.getD j 0) with
      | none => exact absurd hG hn
      | some v => simp
  · congr 1; exact decide_eq_decide.2 ⟨fun h3 => h0.2 (.inl h3), fun h3 => (h0.1 h3).resolve_right h⟩
theorem F2_zero (zs : List Int) (G : Int → Option Int) (x : Int) : F1 zs G zs.length x = F2 zs G 0 x := by simp [F1, F2]
theorem g2_zero (zs : List Int) (G : Int → Option Int) (x : Int) : g1 zs G zs.length x = g2 zs G 0 x := by simp [g1, g2]
theorem getD_mem (zs : List Int) {j : Nat} (hj : j < zs.length) : zs.getD j 0 ∈ zs := by simp [List.getD, hj]
theorem F2_yes (zs : List Int) (G : Int → Option Int) {j : Nat} (hj : j < zs.length) (hg : g2 zs G j (zs.getD j 0) = true) :
    F2 zs G j (zs.getD j 0) = some (-1) ∧ (∀ x, (if x = zs.getD j 0 then none else F2 zs G j x) = F2 zs G (j + 1) x) ∧ ∀ x, (if x = zs.getD j 0 then false else g2 zs G j x) = g2 zs G (j + 1) x := by
  have h0 := fun x => mem_take_succ zs hj x
  have hm := getD_mem zs hj
  unfold g2 at hg
  generalize zs.getD j 0 = d at *
  simp only [Bool.and_eq_true, decide_eq_true_eq, Bool.not_eq_true', decide_eq_false_iff_not, Option.isNone_iff_eq_none] at hg
  obtain ⟨⟨_, h2⟩, h3⟩ := hg
  refine ⟨?_, fun x => ?_, fun x => ?_⟩
  · unfold F2; rw [if_neg (fun h => h3 h.1), if_pos hm]
  · unfold F2
    by_cases h : x = d
    · subst h; rw [if_pos rfl, if_pos ⟨(h0 _).2 (.inr rfl), h2⟩]
    · rw [if_neg h]
      have e : (x ∈ zs.take j ∧ G x = none) ↔ (x ∈ zs.take (j + 1) ∧ G x = none) := and_congr_left fun _ => ⟨fun h4 => (h0 x).2 (.inl h4), fun h4 => ((h0 x).1 h4).resolve_right h⟩
      simp only [e]
  · unfold g2
    by_cases h : x = d
    · subst h; simp [(h0 _).2 (.inr rfl)]
    · rw [if_neg h]; congr 2; exact decide_eq_decide.2 ⟨fun h3 => (h0 x).2 (.inl h3), fun h3 => ((h0 x).1 h3).resolve_right h⟩
theorem F2_no (zs : List Int) (G : Int → Option Int) {j : Nat} (hj : j < zs.length) (hg : g2 zs G j (zs.getD j 0) = false) : (∀ x, F2 zs G j x = F2 zs G (j + 1) x) ∧ ∀ x, g2 zs G j x = g2 zs G (j + 1) x := by
  have h0 := fun x => mem_take_succ zs hj x
  have hm := getD_mem zs hj
  unfold g2 at hg
  generalize zs.getD j 0 = d at *
  have key : d ∈ zs.take j ∨ G d ≠ none := by
    by_cases h : d ∈ zs.take j
    · exact .inl h
    · right; intro h2; simp [hm, h2, h] at hg
  refine ⟨fun x => ?_, fun x => ?_⟩
  · unfold F2
    have e : (x ∈ zs.take j ∧ G x = none) ↔ (x ∈ zs.take (j + 1) ∧ G x = none) := by
      refine and_congr_left fun hn => ⟨fun h4 => (h0 x).2 (.inl h4), fun h4 => ?_⟩
      rcases (h0 x).1 h4 with h5 | rfl
      · exact h5
      · exact key.resolve_right (fun h => h hn)
    simp only [e]
  · unfold g2
    cases hG : G x with
    | some v => simp
    | none =>
      congr 2
      refine decide_eq_decide.2 ⟨fun h4 => (h0 x).2 (.inl h4), fun h4 => ?_⟩
      rcases (h0 x).1 h4 with h5 | rfl
      · exact h5
      · exact key.resolve_right (fun h => h hG)
theorem onto_back (key : Nat → Int) (n : Nat) (zs : List Int) (x : Int) : onto key (F2 zs (lastAt key n) zs.length) n x = lastAt key n x := by
  rw [onto_eq]
  cases h : lastAt key n x with
  | some v => rfl
  | none =>
    show F2 zs (lastAt key n) zs.length x = none
    unfold F2
    by_cases hm : x ∈ zs
    · rw [if_pos ⟨by rw [List.take_length]; exact hm, h⟩]
    · rw [if_neg (fun h2 => hm (List.mem_of_mem_take h2.1)), if_neg hm, h]

set_option maxRecDepth 100000 in
set_option maxHeartbeats 4000000 in
theorem walk_RankedDrops (a0 : Option Addr) (len0 cap0 : Nat) (z0 : List Int) (a1 : Option Addr) (len1 cap1 : Nat) (z1 : List Int) (w : World) (w0 : IsRow .i64 w a0 len0 cap0 z0) (w1 : IsRow .i64 w a1 len1 cap1 z1) :
    Calls Try.prog 6 #[.slice a0 len0 cap0, .slice a1 len1 cap1] w fun e w' => e = .returned (.bool true) ∧ Below w.heap.size w w' := by
  obtain ⟨b, off, hi⟩ := w0.ints
  obtain ⟨b', off', hi'⟩ := w1.ints
  have hm := hi.small
  have hm' := hi'.small
  unfold maxLen at hm hm'
  have H0 := Lib.hid hi
  have H1 := Lib.hid hi'
  have hlz := hi.length
  have hlz' := hi'.length
  clear hi hi' w0 w1
  generalize z0.take len0 = z at *
  generalize z1.take len1 = y at *
  have HLZ := Lib.hid hlz
  have HLY := Lib.hid hlz'
  clear hlz hlz'
  by_cases h60 : 60 < len0
  · go_enter Try.func6, Try.ntmps6
    go_wp2_with fail
    refine (alive_any _).mono ?_
    rintro e w2 ⟨rfl, hB2⟩
    have HB2 := Lib.hid hB2
    clear hB2
    have hd : decide (60 < len0) = true := by simp; omega
    go_wp2
    go_ret
    exact ⟨rfl, HB2.out⟩
  have hd : decide (60 < len0) = false := by simp; omega
  by_cases h61 : 60 < len1
  · have hd1 : decide (60 < len1) = true := by simp; omega
    go_enter Try.func6, Try.ntmps6
    go_wp2_with fail
    refine (alive_any _).mono ?_
    rintro e w2 ⟨rfl, hB2⟩
    have HB2 := Lib.hid hB2
    clear hB2
    go_wp2
    go_ret
    exact ⟨rfl, HB2.out⟩
  have hd1 : decide (60 < len1) = false := by simp; omega
  have hmm := @run_makeMap Try.prog
  go_enter Try.func6, Try.ntmps6
  go_wp2_with fail
  refine (alive_any _).mono ?_
  rintro e w2 ⟨rfl, hB2⟩
  have HB2 := Lib.hid hB2
  have hz2 := hB2.size
  clear hB2
  go_wp2
  go_loopw [29] (fun i wr => ∃ k : Nat, i = .int .i64 k ∧ k ≤ len0 ∧ Hid (RI w w2.heap.size (lastAt (fun i => z.getD i 0) k) k wr))
    (fun i _ => len0 - (intOf i).toNat)
  case atStart => exact ⟨0, rfl, Nat.zero_le _, Lib.hid (RI.new HB2.out)⟩
  case round =>
    obtain ⟨k, rfl, hk, hR⟩ := hrel
    by_cases hlt : k < len0
    · have hI := H0.out.kept hR.out.below (Nat.le_refl _)
      have ha : a0 = some ⟨b, off, none⟩ := hI.addr.resolve_left (by omega)
      subst ha
      have c0 := hI.cell k hlt
      obtain ⟨x, hx⟩ : ∃ x, z.getD k 0 = x := ⟨_, rfl⟩
      rw [hx] at c0
      obtain ⟨L, hL, hLl, hLF⟩ := hR.out.map
      have HX := Lib.hid hx
      have HL := Lib.hid (And.intro hLl hLF)
      have HC := Lib.hid (mput_any x (k : Int) hL (by omega))
      clear hI hx hL hLl hLF
      go_wp2_with fail
      refine HC.out.mono ?_
      rintro e w3 ⟨rfl, hP⟩
      have HR3 := Lib.hid (hR.out.put HL.out.1 HL.out.2 hz2 hP)
      clear hP HC
      go_wp2
      go_roundw
      case rel => exact ⟨k + 1, by go_num, by omega, Lib.hid (HR3.out.congr (fun q => by rw [← HX.out]; rfl) (Nat.le_refl _))⟩
      case measure => simp [intOf]; omega
    · obtain rfl : k = len0 := by omega
      obtain ⟨L0, hL0, hLl, hLF⟩ := hR.out.map
      have HLF := Lib.hid hLF
      have HLl := Lib.hid hLl
      have HSr := Lib.hid hL0.srt
      have HC := Lib.hid (all_any hL0 (by omega))
      have HL0 := Lib.hid hL0
      clear hL0 hLl hLF
      go_wp2_with fail
      refine HC.out.mono ?_
      rintro e w3 ⟨v8, rfl, hg8, hb3⟩
      obtain ⟨a8, cp8, rfl⟩ := hg8.slice
      obtain ⟨b8, hI8, hc8, hb8⟩ := hg8.sits rfl
      have hz3 := hb3.size
      have hmb := HL0.out.lt
      have HL3 := Lib.hid (HL0.out.below hb3)
      have HB3 := Lib.hid (hR.out.below.trans (hb3.mono hR.out.size))
      have HI8 := Lib.hid hI8
      have HB8 := Lib.hid hb8
      obtain ⟨n8, hn8⟩ : ∃ n8, L0.length = n8 := ⟨_, rfl⟩
      have hn60 : n8 ≤ 60 := by have := HLl.out; omega
      rw [hn8] at HI8 HB8 hc8
      rw [hn8]
      have HN8 := Lib.hid hn8
      clear hg8 hb3 hI8 HC hb8 hn8
      go_wp2_with fail
      refine (mclone_any HL3.out).mono ?_
      rintro e w4 ⟨mc, rfl, hmc, hM4, ht⟩
      have HL4 := Lib.hid (HL3.out.calm ht)
      have HM4 := Lib.hid hM4
      have HB4 := Lib.hid (below_calm HB3.out ht (by have := HB3.out.size; omega))
      have HI84 := Lib.hid (HI8.out.turned ht (Nat.le_refl _) (.inr id))
      have hz4 := ht.size
      have hmc4 := hM4.lt
      clear hM4 ht
      go_wp2
      go_loopw [43] (fun i wr => ∃ j : Nat, i = .int .i64 j ∧ j ≤ len1 ∧ Hid (DW w w2.heap.size mc w4.heap.size b8 w3.heap.size n8 a8 L0 (F1 y (lastAt (fun i => z.getD i 0) k) j) (60 + j) (g1 y (lastAt (fun i => z.getD i 0) k) j) j wr))
        (fun i _ => len1 - (intOf i).toNat)
      case atStart =>
        have bm : Below w4.heap.size w4 (w4.alloc (.map #[] 0)) := (Below.refl _ _).alloc (Nat.le_refl _) _
        refine ⟨0, rfl, Nat.zero_le _, Lib.hid ⟨⟨HB4.out.trans (bm.mono HB4.out.size), L0, HL4.out.below bm, by have := HN8.out; omega, fun x => by rw [HLF.out]; simp [F1]⟩, (MapB.made w4 Try.prog 3 4).congr (fun x => by simp [g1]), HM4.out.below bm, HI84.out.kept bm (by omega), by simp; omega⟩⟩
      case round =>
        obtain ⟨j, rfl, hj, hD⟩ := hrel
        by_cases hlt : j < len1
        · have hI := H1.out.kept hD.out.ri.below (Nat.le_refl _)
          have ha : a1 = some ⟨b', off', none⟩ := hI.addr.resolve_left (by omega)
          subst ha
          have c0 := hI.cell j hlt
          obtain ⟨x, hx⟩ : ∃ x, y.getD j 0 = x := ⟨_, rfl⟩
          have hwf : (Lit.int .i64 x).wf = true := by rw [← hx]; exact H1.out.fits _ (getD_mem y (by rw [HLY.out]; exact hlt))
          rw [hx] at c0
          obtain ⟨L, hL, hLl, hLF2⟩ := hD.out.ri.map
          have HX := Lib.hid hx
          have HL := Lib.hid (And.intro hLl hLF2)
          have HC := Lib.hid (mput_any x (-1) hL (by omega))
          have HFX := Lib.hid (hLF2 x)
          clear hI hx hL hLl hLF2
          obtain ⟨o, ho⟩ : ∃ o, get ltI x L = o := ⟨_, rfl⟩
          rw [ho] at HC HFX
          have HO := Lib.hid ho
          clear ho
          have HJY := Lib.hid (show j < y.length by rw [HLY.out]; exact hlt)
          cases o with
          | none =>
            have HC' : Hid (Calls Try.prog 11 #[.pointer (some ⟨w2.heap.size, 0, none⟩), .int .i64 x, .int .i64 (-1)] wr (PutPost w2.heap.size 0 true (ins ltI x (-1) L) wr)) := HC
            go_wp2_with fail
            refine HC'.out.mono ?_
            rintro e w5 ⟨rfl, hP⟩
            have HD5 := Lib.hid (hD.out.turned (by omega) (by omega) (by have := HB8.out; omega) hP (hD.out.ri.put HL.out.1 HL.out.2 hz2 hP))
            clear hP HC HC'
            have hz5 := HD5.out.ri.size
            go_wp2_with (at_mapUpdate; refine wpList_mapUpdate_B rfl _ _ _ 67 rfl 3 4 Try.underlying67 Try.underlying3 Try.underlying4 w4.heap.size j _ rfl HD5.out.set (by unfold maxLen; omega) x true rfl rfl hwf ?_; intro w6 hM6 hg6; have H6 := Lib.hid (And.intro hM6 hg6); clear hM6 hg6)
            go_roundw
            case rel =>
              have h6 := HD5.out.upd (g' := g1 y (lastAt (fun i => z.getD i 0) k) (j + 1)) (by omega) (by omega) (by have := HI8.out.below; omega) (by have := HB4.out.size; omega) H6.out.2 (H6.out.1.congr (fun q => by rw [← HX.out]; exact g1_yes y _ HJY.out (by rw [HX.out]; exact HFX.out.symm) q))
              exact ⟨j + 1, by go_num, by omega, Lib.hid ⟨h6.ri.congr (fun q => by rw [← HX.out]; exact F1_succ y _ HJY.out q) (by omega), h6.set, h6.cop, h6.was, h6.size⟩⟩
            case measure => simp [intOf]; omega
          | some v =>
            have HC' : Hid (Calls Try.prog 11 #[.pointer (some ⟨w2.heap.size, 0, none⟩), .int .i64 x, .int .i64 (-1)] wr (PutPost w2.heap.size 0 false (ins ltI x (-1) L) wr)) := HC
            go_wp2_with fail
            refine HC'.out.mono ?_
            rintro e w5 ⟨rfl, hP⟩
            have HD5 := Lib.hid (hD.out.turned (by omega) (by omega) (by have := HB8.out; omega) hP (hD.out.ri.put HL.out.1 HL.out.2 hz2 hP))
            clear hP HC HC'
            go_wp2
            go_roundw
            case rel =>
              exact ⟨j + 1, by go_num, by omega, Lib.hid ⟨HD5.out.ri.congr (fun q => by rw [← HX.out]; exact F1_succ y _ HJY.out q) (by omega), by
                obtain ⟨D, h1, h2⟩ := HD5.out.set
                exact MapB.congr ⟨D, h1.mono (by omega), h2⟩ (fun q => g1_no y _ HJY.out (by rw [HX.out, ← HFX.out]; simp) q), HD5.out.cop, HD5.out.was, HD5.out.size⟩⟩
            case measure => simp [intOf]; omega
        · obtain rfl : j = len1 := by omega
          have HD2 := Lib.hid (show DW w w2.heap.size mc w4.heap.size b8 w3.heap.size n8 a8 L0 (F2 y (lastAt (fun i => z.getD i 0) k) 0) (60 + j) (g2 y (lastAt (fun i => z.getD i 0) k) 0) (60 + j) wr from
            ⟨hD.out.ri.congr (fun q => by rw [← HLY.out]; exact F2_zero y _ q) (Nat.le_refl _), by
              obtain ⟨D, h1, h2⟩ := hD.out.set
              exact MapB.congr ⟨D, h1.mono (by omega), h2⟩ (fun q => by rw [← HLY.out]; exact g2_zero y _ q), hD.out.cop, hD.out.was, hD.out.size⟩)
          clear hD
          go_wp2
          go_loopw [54] (fun i wr => ∃ l : Nat, i = .int .i64 l ∧ l ≤ j ∧ Hid (DW w w2.heap.size mc w4.heap.size b8 w3.heap.size n8 a8 L0 (F2 y (lastAt (fun i => z.getD i 0) k) l) (60 + j) (g2 y (lastAt (fun i => z.getD i 0) k) l) (60 + j + l) wr))
            (fun i _ => j - (intOf i).toNat)
          case atStart => exact ⟨0, rfl, Nat.zero_le _, HD2⟩
          case round =>
            obtain ⟨l, rfl, hl, hD⟩ := hrel
            clear HD2
            by_cases hlt : l < j
            · have hI := H1.out.kept hD.out.ri.below (Nat.le_refl _)
              have ha : a1 = some ⟨b', off', none⟩ := hI.addr.resolve_left (by omega)
              subst ha
              have c0 := hI.cell l hlt
              obtain ⟨x, hx⟩ : ∃ x, y.getD l 0 = x := ⟨_, rfl⟩
              have hwf : (Lit.int .i64 x).wf = true := by rw [← hx]; exact H1.out.fits _ (getD_mem y (by rw [HLY.out]; exact hlt))
              rw [hx] at c0
              have HX := Lib.hid hx
              have HLK := Lib.hid (hD.out.look hwf)
              have HJY := Lib.hid (show l < y.length by rw [HLY.out]; exact hlt)
              clear hI hx
              obtain ⟨o, ho⟩ : ∃ o, g2 y (lastAt (fun i => z.getD i 0) k) l x = o := ⟨_, rfl⟩
              rw [ho] at HLK
              have HO := Lib.hid ho
              clear ho
              cases o with
              | false =>
                have h7 := F2_no y (lastAt (fun i => z.getD i 0) k) HJY.out (by rw [HX.out]; exact HO.out)
                have H7 := Lib.hid h7
                clear h7
                go_wp2_with (at_lookup; refine wpList_look rfl 67 _ _ rfl _ _ _ rfl rfl HLK.out ?_)
                go_roundw
                case rel => exact ⟨l + 1, by go_num, by omega, Lib.hid ⟨hD.out.ri.congr H7.out.1 (Nat.le_refl _), by
                    obtain ⟨D, h1, h2⟩ := hD.out.set
                    exact MapB.congr ⟨D, h1.mono (by omega), h2⟩ H7.out.2, hD.out.cop, hD.out.was, hD.out.size⟩⟩
                case measure => simp [intOf]; omega
              | true =>
                have h7 := F2_yes y (lastAt (fun i => z.getD i 0) k) HJY.out (by rw [HX.out]; exact HO.out)
                rw [HX.out] at h7
                obtain ⟨L, hL, hLl, hLF2⟩ := hD.out.ri.map
                have hgx : get ltI x L = some (-1) := by rw [hLF2]; exact h7.1
                have HC := Lib.hid (mdrop_lit (bv := true) x hL (by omega) (by rw [hgx]; rfl) rfl)
                have HL := Lib.hid (And.intro hLl hLF2)
                have H7 := Lib.hid h7.2
                clear hL hLl hLF2 hgx h7
                go_wp2_with (first | (at_lookup; refine wpList_look rfl 67 _ _ rfl _ _ _ rfl rfl HLK.out ?_) | fail)
                refine HC.out.mono ?_
                rintro e w5 ⟨rfl, hP⟩
                have HD5 := Lib.hid (hD.out.turned (by omega) (by omega) (by have := HB8.out; omega) hP (hD.out.ri.drop HL.out.1 HL.out.2 hz2 hP))
                clear hP HC HLK
                obtain ⟨L', hL', hLl', hLF'⟩ := HD5.out.ri.map
                have HC := Lib.hid (mdrop_lit (bv := false) x hL' (by omega) (by rw [hLF', if_pos rfl]; rfl) rfl)
                have HL' := Lib.hid (And.intro hLl' hLF')
                clear hL' hLl' hLF'
                go_wp2_with fail
                refine HC.out.mono ?_
                rintro e w6 ⟨rfl, hP⟩
                have HD6 := Lib.hid (HD5.out.turned (by omega) (by omega) (by have := HB8.out; omega) hP (HD5.out.ri.drop HL'.out.1 HL'.out.2 hz2 hP))
                clear hP HC
                have hz6 := HD6.out.ri.size
                go_wp2_with (at_mapUpdate; refine wpList_mapUpdate_B rfl _ _ _ 67 rfl 3 4 Try.underlying67 Try.underlying3 Try.underlying4 w4.heap.size (60 + j + l) _ rfl HD6.out.set (by unfold maxLen; omega) x false rfl rfl hwf ?_; intro w7 hM7 hg7; have H8 := Lib.hid (And.intro hM7 hg7); clear hM7 hg7)
                go_roundw
                case rel =>
                  have h6 := HD6.out.upd (g' := g2 y (lastAt (fun i => z.getD i 0) k) (l + 1)) (by omega) (by omega) (by have := HI8.out.below; omega) (by have := HB4.out.size; omega) H8.out.2 (H8.out.1.congr H7.out.2)
                  exact ⟨l + 1, by go_num, by omega, Lib.hid ⟨h6.ri.congr (fun q => by rw [← H7.out.1]; by_cases e : q = x <;> simp [e]) (Nat.le_refl _), h6.set, h6.cop, h6.was, h6.size⟩⟩
                case measure => simp [intOf]; omega
            · obtain rfl : l = j := by omega
              have HD2 := Lib.hid (show DW w w2.heap.size mc w4.heap.size b8 w3.heap.size n8 a8 L0 (onto (fun i => z.getD i 0) (F2 y (lastAt (fun i => z.getD i 0) k) y.length) 0) (60 + l + 0) (g2 y (lastAt (fun i => z.getD i 0) k) l) (60 + l + l) wr from
                ⟨hD.out.ri.congr (fun q => by rw [HLY.out]; rfl) (Nat.le_refl _), hD.out.set, hD.out.cop, hD.out.was, hD.out.size⟩)
              clear hD
              go_wp2
              go_loopw [73] (fun i wr => ∃ q : Nat, i = .int .i64 q ∧ q ≤ k ∧ Hid (DW w w2.heap.size mc w4.heap.size b8 w3.heap.size n8 a8 L0 (onto (fun i => z.getD i 0) (F2 y (lastAt (fun i => z.getD i 0) k) y.length) q) (60 + l + q) (g2 y (lastAt (fun i => z.getD i 0) k) l) (60 + l + l) wr))
                (fun i _ => k - (intOf i).toNat)
              case atStart => exact ⟨0, rfl, Nat.zero_le _, HD2⟩
              case round =>
                obtain ⟨q, rfl, hq, hD⟩ := hrel
                clear HD2
                by_cases hlt : q < k
                · have hI := H0.out.kept hD.out.ri.below (Nat.le_refl _)
                  have ha : a0 = some ⟨b, off, none⟩ := hI.addr.resolve_left (by omega)
                  subst ha
                  have c0 := hI.cell q hlt
                  obtain ⟨x, hx⟩ : ∃ x, z.getD q 0 = x := ⟨_, rfl⟩
                  rw [hx] at c0
                  obtain ⟨L, hL, hLl, hLF2⟩ := hD.out.ri.map
                  have HX := Lib.hid hx
                  have HL := Lib.hid (And.intro hLl hLF2)
                  have HC := Lib.hid (mput_any x (q : Int) hL (by omega))
                  clear hI hx hL hLl hLF2
                  go_wp2_with fail
                  refine HC.out.mono ?_
                  rintro e w5 ⟨rfl, hP⟩
                  have HD5 := Lib.hid (hD.out.turned (by omega) (by omega) (by have := HB8.out; omega) hP (hD.out.ri.put HL.out.1 HL.out.2 hz2 hP))
                  clear hP HC
                  go_wp2
                  go_roundw
                  case rel => exact ⟨q + 1, by go_num, by omega, Lib.hid ⟨HD5.out.ri.congr (fun q => by rw [← HX.out]; rfl) (by omega), HD5.out.set, HD5.out.cop, HD5.out.was, HD5.out.size⟩⟩
                  case measure => simp [intOf]; omega
                · obtain rfl : q = k := by omega
                  obtain ⟨L, hL, hLl, hLF2⟩ := hD.out.ri.map
                  have hE : L = L0 := ext_get linI L L0 hL.srt HSr.out (fun x => by rw [hLF2, HLF.out, onto_back])
                  subst hE
                  have HC := Lib.hid (all_any hL (by omega))
                  have hn8 := HN8.out
                  rw [hn8] at hLl
                  clear hL hLl hLF2
                  go_wp2_with fail
                  refine HC.out.mono ?_
                  rintro e w5 ⟨v5, rfl, hg5, hb5⟩
                  obtain ⟨a5, cp5, rfl⟩ := hg5.slice
                  obtain ⟨b5, hI5, hc5, _⟩ := hg5.sits rfl
                  rw [hn8] at hI5 hc5
                  have hw8 := hD.out.was.kept (hb5.mono hD.out.size) (Nat.le_refl _)
                  have HB5 := Lib.hid (hD.out.ri.below.trans (hb5.mono hD.out.ri.size))
                  have HC5 := Lib.hid (hD.out.cop.below hb5)
                  have HSm := Lib.hid (same_any (cap := cp5) (cap' := cp8) hI5 (hw8.mono (Nat.le_trans hD.out.size hb5.size)) (by omega) (by omega) (Nat.le_refl _))
                  have HW8 := Lib.hid hw8
                  have HZ5 := Lib.hid (Nat.le_trans hD.out.size hb5.size)
                  simp only [decide_true] at HSm
                  rw [hn8]
                  clear hg5 hb5 hI5 hw8 HC hD hn8
                  go_wp2_with fail
                  refine HSm.out.mono ?_
                  rintro e w6 ⟨rfl, hb6⟩
                  have HB6 := Lib.hid (HB5.out.trans (hb6.mono HB5.out.size))
                  have HC6 := Lib.hid (all_any (HC5.out.below hb6) (by have := HN8.out; omega))
                  have HW6 := Lib.hid (HW8.out.kept (hb6.mono HZ5.out) (Nat.le_refl _))
                  have HZ6 := Lib.hid (Nat.le_trans HZ5.out hb6.size)
                  clear hb6 HSm
                  go_wp2_with fail
                  refine HC6.out.mono ?_
                  rintro e w7 ⟨v7, rfl, hg7, hb7⟩
                  obtain ⟨a7, cp7, rfl⟩ := hg7.slice
                  obtain ⟨b7, hI7, hc7, _⟩ := hg7.sits rfl
                  have hn8 := HN8.out
                  rw [hn8] at hI7 hc7
                  have HB7 := Lib.hid (HB6.out.trans (hb7.mono HB6.out.size))
                  have HSm := Lib.hid (same_any (cap := cp7) (cap' := cp8) hI7 ((HW6.out.kept (hb7.mono HZ6.out) (Nat.le_refl _)).mono (Nat.le_trans HZ6.out hb7.size)) (by omega) (by omega) (Nat.le_refl _))
                  simp only [decide_true] at HSm
                  rw [hn8]
                  clear hg7 hb7 hI7 hn8
                  go_wp2_with fail
                  refine HSm.out.mono ?_
                  rintro e w8 ⟨rfl, hb8'⟩
                  have HB9 := Lib.hid (HB7.out.trans (hb8'.mono HB7.out.size))
                  clear hb8'
                  go_wp2
                  go_ret
                  exact ⟨rfl, HB9.out⟩
end Go.Proofs.Ytjbkfopfckphjaa
