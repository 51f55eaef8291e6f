/- Contracts: a fresh name, by the program and by the reference. -/
import Derived.Test.YtmilchkemobchaaDoorNf
import Derived.Test.YtmilchkemobchaaDoorNm
import Derived.Test.YtmilchkemobchaaDoorNe
set_option linter.unusedVariables false
set_option linter.unusedSectionVars false
namespace Go.Proofs.YtmilchkemobchaaDoor
open Go.RowKit Ss

theorem zeroUnit (w : World) : (zeroValue 42).run Tryd.prog w = .ok (.agg #[]) w := by kernel_rfl
/-- While what is used is taken up. -/
structure TkR (w : World) (mb n : Nat) (g : ByteArray → Bool) (W : World) : Prop where
  set : SetT W Tryd.prog 9 mb n g
  new : w.heap.size ≤ mb
  below : Below w.heap.size w W
def usedTo (ss : List ByteArray) (j : Nat) : ByteArray → Bool := fun y => decide (∃ i, i < j ∧ atS ss i = y)
theorem usedTo_succ (ss : List ByteArray) (j : Nat) (y : ByteArray) : (decide (y = atS ss j) || usedTo ss j y) = usedTo ss (j + 1) y := by
  unfold usedTo
  rw [Bool.eq_iff_iff]
  simp only [Bool.or_eq_true, decide_eq_true_eq]
  constructor
  · rintro (h | ⟨i, h1, h2⟩)
    · exact ⟨j, Nat.lt_succ_self j, h.symm⟩
    · exact ⟨i, by omega, h2⟩
  · rintro ⟨i, h1, h2⟩
    by_cases e : i = j
    · left; rw [← h2, e]
    · right; exact ⟨i, by omega, h2⟩
theorem usedTo_all (ss : List ByteArray) (y : ByteArray) : usedTo ss ss.length y = true ↔ y ∈ ss := by
  unfold usedTo
  rw [decide_eq_true_eq, mem_atS]
/-- What a call answers. -/
def FreshPost (w : World) (s : ByteArray) (c : Int) (e : Ending) (w' : World) : Prop := e = .returned (.tuple #[.string s, .int .i64 c]) ∧ Below w.heap.size w w'
set_option maxHeartbeats 4000000 in
theorem fresh_any {w : World} {a : Option Addr} {b off len cap : Nat} {ss : List ByteArray} (hm : StrsAt w.heap.size w a b off len ss) (hl90 : len ≤ 90) (stem : ByteArray) (hst : stem.size ≤ 1000) {N : Nat} (hN : FrOk ss stem N) :
    Calls Tryd.prog 8 #[.slice a len cap, .string stem] w (FreshPost w (frS stem N) (frE stem N)) := by
  have HM := Lib.hid hm
  have hl := hm.length
  have HN := Lib.hid hN
  have HL := Lib.hid hl
  have HFit := Lib.hid hm.fits
  have HT0 : Hid (TkR w w.heap.size 0 (usedTo ss 0) (w.alloc (.map #[] 0))) := Lib.hid ⟨(SetT.made w Tryd.prog 9).congr (fun x => by unfold usedTo; rw [decide_eq_false (fun ⟨i, h, _⟩ => absurd h (Nat.not_lt_zero _))]), Nat.le_refl _, (Below.refl _ w).alloc (Nat.le_refl _) _⟩
  have hmm := @run_makeMap Tryd.prog
  clear hm hN hl
  go_enter Tryd.func8, Tryd.ntmps8
  go_wp2
  clear hmm
  go_loopw [16] (fun i wr => ∃ j : Nat, i = .int .i64 j ∧ j ≤ len ∧ Hid (TkR w w.heap.size j (usedTo ss j) wr)) (fun i _ => len - (intOf i).toNat)
  case atStart => exact ⟨0, rfl, Nat.zero_le _, HT0⟩
  case round =>
    clear HT0
    obtain ⟨j, rfl, hj, HT⟩ := hrel
    by_cases hlt : j < len
    · have hI := HM.out.kept HT.out.below (Nat.le_refl _)
      have c1 := strs_at hI j hlt
      obtain rfl : a = some ⟨b, off, none⟩ := hI.addr.resolve_left (by omega)
      have hji : (j : Int) < (len : Int) := by omega
      have hxs : (atS ss j).size ≤ maxLen := HFit.out _ (mem_atS.2 ⟨j, by rw [HL.out]; exact hlt, rfl⟩)
      have HXs := Lib.hid hxs
      have HU := Lib.hid (usedTo_succ ss j)
      clear hI hxs
      generalize atS ss j = x at *
      go_wp2_with (at_mapUpdate; refine wpList_mapUpdate_T rfl _ _ _ 41 rfl 9 42 Tryd.underlying41 Tryd.underlying9 w.heap.size j _ rfl HT.out.set (by unfold maxLen; omega) x rfl rfl HXs.out ?_; intro w8 hM8 hg8; have H8 : Hid (TkR w w.heap.size (j + 1) (usedTo ss (j + 1)) w8) := Lib.hid ⟨hM8.congr HU.out, HT.out.new, HT.out.below.grown hg8 HT.out.below.size (fun r e => by cases e; exact Nat.le_refl _)⟩; clear hM8 hg8)
      go_roundw
      case rel => exact ⟨j + 1, by go_num, by omega, H8⟩
      case measure => simp [intOf]; omega
    · obtain rfl : j = len := by omega
      have HUa : Hid (∀ y, usedTo ss j y = true ↔ y ∈ ss) := Lib.hid (fun y => by rw [← HL.out]; exact usedTo_all ss y)
      generalize usedTo ss j = g at *
      have hN1 := HN.out.lo
      have hN2 := HN.out.hi
      rw [HL.out] at hN2
      have HS1 : Hid (stem = nmS stem 1) := Lib.hid (nmS_one stem).symm
      go_wp2
      go_loopw [9, 10] (fun s i wr => ∃ n : Nat, 1 ≤ n ∧ n ≤ N ∧ i = .int .i64 ((n + 1 : Nat) : Int) ∧ s = .string (nmS stem n) ∧ Hid (TkR w w.heap.size j g wr)) (fun _ i _ => N + 2 - (intOf i).toNat)
      case atStart => exact ⟨1, Nat.le_refl _, hN1, rfl, by rw [← HS1.out], HT⟩
      case round =>
        clear HT
        obtain ⟨n, hn1, hn2, rfl, rfl, HT⟩ := hrel
        have hsz : (nmS stem n).size ≤ 2000 := by
          by_cases h : n = 1
          · rw [h, nmS_one]; omega
          · rw [nmS_size stem (by omega) (by omega)]; split <;> omega
        have CK := Lib.hid (check_any (nmS stem n) (by unfold maxLen; omega))
        have HSz := Lib.hid hsz
        clear hsz
        by_cases hlast : n = N
        · have HAns : Hid (nameB (nmS stem n) = false ∧ frS stem N = ⟨#[]⟩ ∧ frE stem N = 40 ∨ nameB (nmS stem n) = true ∧ nmS stem n ∉ ss ∧ frS stem N = nmS stem n ∧ frE stem N = 0) := Lib.hid (by
            have := HN.out.stop
            rw [← hlast] at this ⊢
            unfold frS frE
            cases h : nameB (nmS stem n) with
            | false => exact .inl ⟨rfl, rfl, rfl⟩
            | true => exact .inr ⟨rfl, fun h2 => this ⟨h, h2⟩, rfl, rfl⟩)
          rcases HAns.out with ⟨q1, q2, q3⟩ | ⟨q1, q2, q3, q4⟩
          · rw [chk_no q1] at CK
            have HF := Lib.hid (show FreshPost w (frS stem N) (frE stem N) (.returned (.tuple #[.string ⟨#[]⟩, .int .i64 40])) wr from ⟨by rw [q2, q3], HT.out.below⟩)
            clear q1 q2 q3 HAns HSz
            generalize nmS stem n = x at *
            go_wp2_with (go_at_call 12; refine (CK.out _).mono ?_; clear CK; rintro e w' ⟨rfl, rfl⟩)
            go_ret2
            exact HF.out
          · rw [chk_yes q1] at CK
            have hg : g (nmS stem n) = false := Bool.eq_false_iff.2 (fun h => q2 ((HUa.out _).1 h))
            have HG := Lib.hid hg
            have HF : Hid (∀ W, Below w.heap.size w W → FreshPost w (frS stem N) (frE stem N) (.returned (.tuple #[.string (nmS stem n), .int .i64 0])) W) := Lib.hid (fun W hW => ⟨by rw [q3, q4], hW⟩)
            clear q1 q2 q3 q4 HAns hg
            generalize nmS stem n = x at *
            go_wp2_with (first
              | (go_at_call 12; refine (CK.out _).mono ?_; clear CK; rintro e w' ⟨rfl, rfl⟩)
              | (at_lookup; refine wpList_lookup_T rfl _ _ 41 rfl 9 42 Tryd.underlying41 Tryd.underlying9 (zeroUnit _) w.heap.size j g rfl HT.out.set x rfl (by have := HSz.out; unfold maxLen; omega) ?_; rw [HG.out]))
            go_ret2
            exact HF.out _ (HT.out.below.alloc HT.out.below.size _)
        · have hlt2 : n < N := by omega
          obtain ⟨q1, q2⟩ := HN.out.all n hn1 hlt2
          rw [chk_yes q1] at CK
          have hg : g (nmS stem n) = true := (HUa.out _).2 q2
          have HG := Lib.hid hg
          have HNx := Lib.hid (nmS_two stem (n := n + 1) (by omega))
          have CI := Lib.hid (itoa_any (n + 1) (by omega))
          have hle : n + 1 ≤ N := hlt2
          have hits : (itoaB (n + 1)).size ≤ 2 := by have := itoa_size ⟨n + 1, by omega⟩; simp only at this; rw [this]; split <;> omega
          have HT2 := Lib.hid (show TkR w w.heap.size j g (wr.alloc (.cells #[] 42)) from ⟨HT.out.set.kept (World.grownBy_alloc wr _ none) (by simp), HT.out.new, HT.out.below.alloc HT.out.below.size _⟩)
          clear q1 q2 hg hlast
          generalize nmS stem n = x at *
          generalize itoaB (n + 1) = it at *
          go_wp2_with (first
            | (go_at_call 12; refine (CK.out _).mono ?_; clear CK; rintro e w' ⟨rfl, rfl⟩)
            | (at_lookup; refine wpList_lookup_T rfl _ _ 41 rfl 9 42 Tryd.underlying41 Tryd.underlying9 (zeroUnit _) w.heap.size j g rfl HT.out.set x rfl (by have := HSz.out; unfold maxLen; omega) ?_; rw [HG.out])
            | (go_at_call 20; refine (CI.out _).mono ?_; clear CI; rintro e w' ⟨rfl, rfl⟩))
          go_roundw
          case rel => exact ⟨n + 1, by omega, hle, by go_num, by rw [HNx.out]; rfl, HT2⟩
          case measure => simp [intOf]; omega
end Go.Proofs.YtmilchkemobchaaDoor
