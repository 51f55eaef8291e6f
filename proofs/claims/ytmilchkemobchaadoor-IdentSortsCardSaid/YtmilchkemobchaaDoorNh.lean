/- Contract: a fresh name, by the reference. -/
import Derived.Test.YtmilchkemobchaaDoorNg
set_option linter.unusedVariables false
set_option linter.unusedSectionVars false
namespace Go.Proofs.YtmilchkemobchaaDoor
open Go.RowKit Ss

theorem fr_answer {ss : List ByteArray} {stem : ByteArray} {N n : Nat} (hN : FrOk ss stem N) (hn : 1 ≤ n) (h98 : n ≤ 98) (hall : ∀ m, 1 ≤ m → m < n → nmS stem m ∈ ss) (hno : nmS stem n ∉ ss) :
    (nameB (nmS stem n) = true ∧ frS stem N = nmS stem n ∧ frE stem N = 0) ∨ (nameB (nmS stem n) = false ∧ frS stem N = ⟨#[]⟩ ∧ frE stem N = 40) := by
  have hge : N ≤ n := Nat.le_of_not_lt fun h => hno (hN.all n hn h).2
  cases h : nameB (nmS stem n) with
  | true =>
    have h1 := nmS_down stem hN.lo hge (by omega) h
    have h2 : n = N := by
      refine Classical.byContradiction fun h3 => hN.stop ⟨h1, hall N hN.lo (by omega)⟩
    subst h2
    exact .inl ⟨rfl, if_pos h, if_pos h⟩
  | false =>
    have h1 : ¬ nameB (nmS stem N) = true := fun h2 => by
      by_cases h3 : n = N
      · rw [← h3, h] at h2; cases h2
      · exact hN.stop ⟨h2, hall N hN.lo (by omega)⟩
    exact .inr ⟨rfl, if_neg h1, if_neg h1⟩
theorem fr_stem {ss : List ByteArray} {stem : ByteArray} {N : Nat} (hN : FrOk ss stem N) (h : nameB stem = false) : frS stem N = ⟨#[]⟩ ∧ frE stem N = 40 := by
  have h1 : N = 1 := by
    refine Classical.byContradiction fun h2 => ?_
    have := (hN.all 1 (Nat.le_refl _) (by have := hN.lo; omega)).1
    rw [nmS_one, h] at this; cases this
  subst h1
  have h2 : ¬ nameB (nmS stem 1) = true := by rw [nmS_one, h]; decide
  exact ⟨if_neg h2, if_neg h2⟩
set_option maxHeartbeats 4000000 in
theorem xfresh_any {w : World} {a : Option Addr} {b off len cap : Nat} {ss : List ByteArray} (hm : StrsAt w.heap.size w a b off len ss) (hl90 : len ≤ 90) (stem : ByteArray) (hst : stem.size ≤ 1000) {N : Nat} (hN : FrOk ss stem N) :
    Calls Tryd.prog 9 #[.slice a len cap, .string stem] w fun e w' => e = .returned (.tuple #[.string (frS stem N), .int .i64 (frE stem N)]) ∧ w = w' := by
  have CK1 := Lib.hid (xcheck_any stem (by unfold maxLen; omega) w)
  cases hs : nameB stem with
  | false =>
    rw [chk_no hs] at CK1
    obtain ⟨q1, q2⟩ := fr_stem hN hs
    have HQ := Lib.hid (And.intro q1 q2)
    clear q1 q2 hs hN hm
    generalize frS stem N = fs at *
    generalize frE stem N = fe at *
    go_enter Tryd.func9, Tryd.ntmps9
    go_wp2_with (go_at_call 13; refine CK1.out.mono ?_; clear CK1; rintro e w' ⟨rfl, rfl⟩)
    go_ret2
    exact ⟨by rw [HQ.out.1, HQ.out.2]; rfl, rfl⟩
  | true =>
    rw [chk_yes hs] at CK1
    have HM := Lib.hid hm
    have hl := hm.length
    have HL := Lib.hid hl
    have HA : Hid (∀ n, 1 ≤ n → n ≤ 98 → (∀ m, 1 ≤ m → m < n → nmS stem m ∈ ss) → nmS stem n ∉ ss → (nameB (nmS stem n) = true ∧ frS stem N = nmS stem n ∧ frE stem N = 0) ∨ (nameB (nmS stem n) = false ∧ frS stem N = ⟨#[]⟩ ∧ frE stem N = 40)) := Lib.hid (fun n h1 h2 h3 h4 => fr_answer hN h1 h2 h3 h4)
    have HFew : Hid (∀ n, 1 ≤ n → n ≤ 99 → (∀ m, 1 ≤ m → m < n → nmS stem m ∈ ss) → n ≤ len + 1) := Lib.hid (fun n h1 h2 h3 => by
      have := names_few (used := ss) (stem := stem) (by omega) (m := n - 1) (by omega) (fun m k1 k2 => h3 m k1 (by omega))
      omega)
    have HS1 : Hid (stem = nmS stem 1) := Lib.hid (nmS_one stem).symm
    clear hs hN hm hl
    generalize frS stem N = fs at *
    generalize frE stem N = fe at *
    go_enter Tryd.func9, Tryd.ntmps9
    go_wp2_with (go_at_call 13; refine CK1.out.mono ?_; clear CK1; rintro e w' ⟨rfl, rfl⟩)
    go_loop [6, 7] (fun s i => ∃ n : Nat, 1 ≤ n ∧ n ≤ len + 1 ∧ i = .int .i64 ((n + 1 : Nat) : Int) ∧ s = .string (nmS stem n) ∧ Hid (∀ m, 1 ≤ m → m < n → nmS stem m ∈ ss)) (fun _ i => len + 3 - (intOf i).toNat)
    case atStart => exact ⟨1, Nat.le_refl _, by omega, rfl, by rw [← HS1.out], Lib.hid (fun m h1 h2 => by omega)⟩
    case round =>
      obtain ⟨n, hn1, hn2, rfl, rfl, HJ⟩ := hrel
      have hsz : (nmS stem n).size ≤ 2000 := by
        by_cases h : n = 1
        · rw [h, nmS_one]; omega
        · rw [nmS_size stem (by omega) (by omega)]; split <;> omega
      have CF := Lib.hid (xfind_any (cap := cap) HM.out (nmS stem n))
      have CK := Lib.hid (xcheck_any (nmS stem n) (by unfold maxLen; omega) w)
      have g0 : decide ((n : Int) + 1 ≤ (len : Int) + 2) = true := by simp; omega
      have HC := Lib.hid (find_cases ss (nmS stem n))
      have HAn := Lib.hid (HA.out n hn1 (by omega) HJ.out)
      have HNx := Lib.hid (nmS_two stem (n := n + 1) (by omega))
      have HJ2 : Hid (nmS stem n ∈ ss → ∀ m, 1 ≤ m → m < n + 1 → nmS stem m ∈ ss) := Lib.hid (fun h m h1 h2 => by
        by_cases e : m = n
        · rw [e]; exact h
        · exact HJ.out m h1 (by omega))
      clear hsz
      rcases HC.out with ⟨q1, q2⟩ | ⟨k, q1, q2, q3, q4⟩
      · rw [q2] at CF
        rcases HAn.out q1 with ⟨r1, r2, r3⟩ | ⟨r1, r2, r3⟩
        · rw [chk_yes r1] at CK
          have HF := Lib.hid (And.intro r2 r3)
          clear q1 q2 r1 r2 r3 HC HAn
          generalize nmS stem n = x at *
          go_wp2_with (first
            | (go_at_call 17; refine CF.out.mono ?_; clear CF; rintro e w' ⟨rfl, rfl⟩)
            | (go_at_call 13; refine CK.out.mono ?_; clear CK; rintro e w' ⟨rfl, rfl⟩))
          go_ret2
          exact ⟨by rw [HF.out.1, HF.out.2]; rfl, rfl⟩
        · rw [chk_no r1] at CK
          have HF := Lib.hid (And.intro r2 r3)
          clear q1 q2 r1 r2 r3 HC HAn
          generalize nmS stem n = x at *
          go_wp2_with (first
            | (go_at_call 17; refine CF.out.mono ?_; clear CF; rintro e w' ⟨rfl, rfl⟩)
            | (go_at_call 13; refine CK.out.mono ?_; clear CK; rintro e w' ⟨rfl, rfl⟩))
          go_ret2
          exact ⟨by rw [HF.out.1, HF.out.2]; rfl, rfl⟩
      · rw [q4] at CF
        have HJ3 := Lib.hid (HJ2.out (mem_atS.2 ⟨k, q1, q3⟩))
        have hnl : n + 1 ≤ len + 1 := HFew.out (n + 1) (by omega) (by omega) HJ3.out
        have CI := Lib.hid (itoa_any (n + 1) (by omega) w)
        have hits : (itoaB (n + 1)).size ≤ 2 := by have := itoa_size ⟨n + 1, by omega⟩; simp only at this; rw [this]; split <;> omega
        have g1 : decide ((k : Int) < 0) = false := by simp
        clear q1 q2 q3 q4 HC HAn CK
        generalize nmS stem n = x at *
        generalize itoaB (n + 1) = it at *
        go_wp2_with (first
          | (go_at_call 17; refine CF.out.mono ?_; clear CF; rintro e w' ⟨rfl, rfl⟩)
          | (go_at_call 20; refine CI.out.mono ?_; clear CI; rintro e w' ⟨rfl, rfl⟩))
        go_round
        case rel => exact ⟨n + 1, by omega, hnl, by go_num, by rw [HNx.out]; rfl, HJ3⟩
        case measure => simp [intOf]; omega
end Go.Proofs.YtmilchkemobchaaDoor
