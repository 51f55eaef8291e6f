/- Contract: is a name right? (layer 5's Check alone). -/
import Derived.Test.YtjcmeacgfflfmaaGreatChecked
import Derived.WalkKit
import Derived.ProofKit
import Derived.OpenShut
import Derived.Below
import Derived.Lib.Hide
set_option linter.unusedVariables false
set_option linter.unusedSectionVars false
namespace Go.Proofs.YtjcmeacgfflfmaaGreat.Ic
open Go.RowKit

def letB (c : Int) : Bool := decide (97 ≤ c ∧ c ≤ 122)
def digB (c : Int) : Bool := decide (48 ≤ c ∧ c ≤ 57)
theorem letter_any (c : Int) (h0 : 0 ≤ c) (h1 : c ≤ 255) (w : World) : Calls Tryz.prog 151 #[.int .u8 c] w fun e w' => e = .returned (.bool (letB c)) ∧ w = w' := by
  by_cases h : 97 ≤ c
  · by_cases h2 : c ≤ 122
    · have hr := Lib.hid (show letB c = true from decide_eq_true ⟨h, h2⟩)
      have g1 : decide (97 ≤ c) = true := by simpa using h
      have g2 : decide (c ≤ 122) = true := by simpa using h2
      go_enter Tryz.func151, Tryz.ntmps151
      go_wp2
      go_ret
      exact ⟨by rw [hr.out]; rfl, rfl⟩
    · have hr := Lib.hid (show letB c = false from decide_eq_false (fun e => h2 e.2))
      have g1 : decide (97 ≤ c) = true := by simpa using h
      have g2 : decide (c ≤ 122) = false := by simpa using h2
      go_enter Tryz.func151, Tryz.ntmps151
      go_wp2
      go_ret
      exact ⟨by rw [hr.out]; rfl, rfl⟩
  · have hr := Lib.hid (show letB c = false from decide_eq_false (fun e => h e.1))
    have g1 : decide (97 ≤ c) = false := by simpa using h
    go_enter Tryz.func151, Tryz.ntmps151
    go_wp2
    go_ret
    exact ⟨by rw [hr.out]; rfl, rfl⟩
theorem digit_any (c : Int) (h0 : 0 ≤ c) (h1 : c ≤ 255) (w : World) : Calls Tryz.prog 152 #[.int .u8 c] w fun e w' => e = .returned (.bool (digB c)) ∧ w = w' := by
  by_cases h : 48 ≤ c
  · by_cases h2 : c ≤ 57
    · have hr := Lib.hid (show digB c = true from decide_eq_true ⟨h, h2⟩)
      have g1 : decide (48 ≤ c) = true := by simpa using h
      have g2 : decide (c ≤ 57) = true := by simpa using h2
      go_enter Tryz.func152, Tryz.ntmps152
      go_wp2
      go_ret
      exact ⟨by rw [hr.out]; rfl, rfl⟩
    · have hr := Lib.hid (show digB c = false from decide_eq_false (fun e => h2 e.2))
      have g1 : decide (48 ≤ c) = true := by simpa using h
      have g2 : decide (c ≤ 57) = false := by simpa using h2
      go_enter Tryz.func152, Tryz.ntmps152
      go_wp2
      go_ret
      exact ⟨by rw [hr.out]; rfl, rfl⟩
  · have hr := Lib.hid (show digB c = false from decide_eq_false (fun e => h e.1))
    have g1 : decide (48 ≤ c) = false := by simpa using h
    go_enter Tryz.func152, Tryz.ntmps152
    go_wp2
    go_ret
    exact ⟨by rw [hr.out]; rfl, rfl⟩
/-- A byte of a text. -/
def byS (s : ByteArray) (k : Nat) : Int := ((s.data.toList.getD k 0).toNat : Int)
theorem byS_bd (s : ByteArray) (k : Nat) : 0 ≤ byS s k ∧ byS s k ≤ 255 := by
  unfold byS
  have := (s.data.toList.getD k 0).toNat_lt
  omega
theorem byS_get (s : ByteArray) {k : Nat} (h : k < s.size) : ((s[k].toNat : Nat) : Int) = byS s k := by
  unfold byS
  have h1 : k < s.data.toList.length := by simpa using h
  rw [List.getD_eq_getElem?_getD, List.getElem?_eq_getElem h1]
  rfl
/-- May it stand in a name? -/
def okB (c : Int) : Bool := letB c || digB c || decide (c = 95)
def okTo (s : ByteArray) (k : Nat) : Bool := (List.range k).all fun i => okB (byS s i)
theorem okTo_succ (s : ByteArray) (k : Nat) : okTo s (k + 1) = (okTo s k && okB (byS s k)) := by simp [okTo, List.range_succ]
theorem okTo_iff {s : ByteArray} {k : Nat} : okTo s k = true ↔ ∀ i, i < k → okB (byS s i) = true := by simp [okTo]
/-- Is a name right? -/
def nameB (s : ByteArray) : Bool := decide (1 ≤ s.size ∧ s.size ≤ 64) && letB (byS s 0) && okTo s s.size
def chkE (s : ByteArray) : Int := if nameB s = true then 0 else 40
theorem chk_no {s : ByteArray} (h : nameB s = false) : chkE s = 40 := if_neg (by rw [h]; decide)
theorem chk_yes {s : ByteArray} (h : nameB s = true) : chkE s = 0 := if_pos h
theorem chk_letter {s : ByteArray} (h : letB (byS s 0) = false) : nameB s = false := by
  unfold nameB; rw [h, Bool.and_false, Bool.false_and]
theorem chk_bad {s : ByteArray} {k : Nat} (hk : k < s.size) (h : okB (byS s k) = false) : nameB s = false := by
  refine Bool.eq_false_iff.2 fun h2 => ?_
  unfold nameB at h2
  rw [Bool.and_eq_true] at h2
  have := okTo_iff.1 h2.2 k hk
  rw [h] at this; cases this
theorem chk_good {s : ByteArray} (h1 : 1 ≤ s.size) (h2 : s.size ≤ 64) (h3 : letB (byS s 0) = true) (h4 : okTo s s.size = true) : nameB s = true := by
  unfold nameB; rw [decide_eq_true ⟨h1, h2⟩, h3, h4]; rfl
theorem chk_size {s : ByteArray} (h : nameB s = true) : 1 ≤ s.size ∧ s.size ≤ 64 ∧ letB (byS s 0) = true ∧ okTo s s.size = true := by
  unfold nameB at h
  simp only [Bool.and_eq_true, decide_eq_true_eq] at h
  exact ⟨h.1.1.1, h.1.1.2, h.1.2, h.2⟩
set_option maxHeartbeats 1000000 in
theorem check_any (s : ByteArray) (hs : s.size ≤ maxLen) (w : World) : Calls Tryz.prog 132 #[.string s] w fun e w' => e = .returned (.int .i64 (chkE s)) ∧ w = w' := by
  unfold maxLen at hs
  by_cases h1 : s.size < 1
  · have HE := Lib.hid (chk_no (s := s) (by unfold nameB; rw [decide_eq_false (fun h => by omega)]; rfl))
    have h0 : s.size = 0 := by omega
    generalize chkE s = c at *
    go_enter Tryz.func132, Tryz.ntmps132
    go_wp2
    go_ret
    exact ⟨by rw [HE.out]; rfl, rfl⟩
  · have h1' : 1 ≤ s.size := by omega
    have g0 : decide ((s.size : Int) < 1) = false := by simp; omega
    have hb0 := byS_bd s 0
    have hg0 := byS_get s (k := 0) (by omega)
    by_cases h2 : 64 < s.size
    · have HE := Lib.hid (chk_no (s := s) (by unfold nameB; rw [decide_eq_false (fun h => by omega)]; rfl))
      have g1 : decide (64 < (s.size : Int)) = true := by simp; omega
      go_enter Tryz.func132, Tryz.ntmps132
      go_wp2
      go_ret
      exact ⟨by rw [HE.out]; rfl, rfl⟩
    · have g1 : decide (64 < (s.size : Int)) = false := by simp; omega
      have HL := Lib.hid (letter_any (byS s 0) hb0.1 hb0.2 w)
      cases hl : letB (byS s 0) with
      | false =>
        have HE := Lib.hid (chk_no (chk_letter hl))
        rw [hl] at HL
        clear hl
        go_enter Tryz.func132, Tryz.ntmps132
        go_wp2_with (go_at_call 151; refine HL.out.mono ?_; clear HL; rintro e w' ⟨rfl, rfl⟩)
        go_ret
        exact ⟨by rw [HE.out]; rfl, rfl⟩
      | true =>
        have HGood : Hid (okTo s s.size = true → chkE s = 0) := Lib.hid (fun h => chk_yes (chk_good h1' (by omega) hl h))
        have HBad : Hid (∀ k, k < s.size → okB (byS s k) = false → chkE s = 40) := Lib.hid (fun k hk h => chk_no (chk_bad hk h))
        rw [hl] at HL
        clear hl hg0 hb0
        generalize chkE s = ce at *
        have HG0 := Lib.hid (byS_get s (k := 0) (by omega))
        have hg0 := HG0.out
        go_enter Tryz.func132, Tryz.ntmps132
        go_wp2_with (go_at_call 151; refine HL.out.mono ?_; clear HL; rintro e w' ⟨rfl, rfl⟩)
        clear hg0
        go_loop [21] (fun i => ∃ k : Nat, i = .int .i64 k ∧ k ≤ s.size ∧ Hid (okTo s k = true)) (fun i => s.size - (intOf i).toNat)
        case atStart => exact ⟨0, rfl, Nat.zero_le _, Lib.hid rfl⟩
        case round =>
          obtain ⟨k, rfl, hk, HK⟩ := hrel
          by_cases hlt : k < s.size
          · have hki : (k : Int) < (s.size : Int) := by omega
            have hb := byS_bd s k
            have hg := byS_get s hlt
            have HLt : Hid (∀ W, Calls Tryz.prog 151 #[.int .u8 (byS s k)] W fun e w' => e = .returned (.bool (letB (byS s k))) ∧ W = w') := Lib.hid (fun W => letter_any _ hb.1 hb.2 W)
            have HDg : Hid (∀ W, Calls Tryz.prog 152 #[.int .u8 (byS s k)] W fun e w' => e = .returned (.bool (digB (byS s k))) ∧ W = w') := Lib.hid (fun W => digit_any _ hb.1 hb.2 W)
            have HBk := Lib.hid (HBad.out k hlt)
            have HS := Lib.hid (okTo_succ s k)
            have HO : Hid (okB (byS s k) = (letB (byS s k) || digB (byS s k) || decide (byS s k = 95))) := Lib.hid rfl
            generalize byS s k = c at *
            cases d1 : letB c with
            | true =>
              have HK2 : Hid (okTo s (k + 1) = true) := Lib.hid (by rw [HS.out, HK.out, HO.out, d1]; rfl)
              rw [d1] at HLt
              clear d1
              go_wp2_with (go_at_call 151; refine (HLt.out _).mono ?_; clear HLt; rintro e w' ⟨rfl, rfl⟩)
              go_round
              case rel => exact ⟨k + 1, by go_num, by omega, HK2⟩
              case measure => simp [intOf]; omega
            | false =>
              rw [d1] at HLt
              cases d2 : digB c with
              | true =>
                have HK2 : Hid (okTo s (k + 1) = true) := Lib.hid (by rw [HS.out, HK.out, HO.out, d1, d2]; rfl)
                rw [d2] at HDg
                clear d1 d2
                go_wp2_with (first
                  | (go_at_call 151; refine (HLt.out _).mono ?_; clear HLt; rintro e w' ⟨rfl, rfl⟩)
                  | (go_at_call 152; refine (HDg.out _).mono ?_; clear HDg; rintro e w' ⟨rfl, rfl⟩))
                go_round
                case rel => exact ⟨k + 1, by go_num, by omega, HK2⟩
                case measure => simp [intOf]; omega
              | false =>
                rw [d2] at HDg
                by_cases d3 : c = 95
                · have HK2 : Hid (okTo s (k + 1) = true) := Lib.hid (by rw [HS.out, HK.out, HO.out, d1, d2, decide_eq_true d3]; rfl)
                  have g3 : (c != 95) = false := by simpa using d3
                  clear d1 d2 d3
                  go_wp2_with (first
                    | (go_at_call 151; refine (HLt.out _).mono ?_; clear HLt; rintro e w' ⟨rfl, rfl⟩)
                    | (go_at_call 152; refine (HDg.out _).mono ?_; clear HDg; rintro e w' ⟨rfl, rfl⟩))
                  go_round
                  case rel => exact ⟨k + 1, by go_num, by omega, HK2⟩
                  case measure => simp [intOf]; omega
                · have HE := Lib.hid (HBk.out (by rw [HO.out, d1, d2, decide_eq_false d3]; rfl))
                  have g3 : (c != 95) = true := by simpa using d3
                  clear d1 d2 d3
                  go_wp2_with (first
                    | (go_at_call 151; refine (HLt.out _).mono ?_; clear HLt; rintro e w' ⟨rfl, rfl⟩)
                    | (go_at_call 152; refine (HDg.out _).mono ?_; clear HDg; rintro e w' ⟨rfl, rfl⟩))
                  go_ret
                  exact ⟨by rw [HE.out]; rfl, rfl⟩
          · obtain ⟨m, hm⟩ : ∃ m, s.size = m := ⟨_, rfl⟩
            have HE := Lib.hid (HGood.out (by rw [show s.size = k by omega]; exact HK.out))
            have hki : ¬ k < s.size := hlt
            clear hm
            go_wp2
            go_ret
            exact ⟨by rw [HE.out]; rfl, rfl⟩
end Go.Proofs.YtjcmeacgfflfmaaGreat.Ic
