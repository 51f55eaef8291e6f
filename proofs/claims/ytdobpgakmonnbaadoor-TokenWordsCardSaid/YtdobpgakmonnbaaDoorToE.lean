/- Contracts: letter, digit, inWord; run; blanks; piece. -/
import Derived.Test.YtdobpgakmonnbaaDoorChecked
import Derived.WalkKit
import Derived.ProofKit
import Derived.OpenShut
import Derived.Below
import Derived.Lib.Hide
import Derived.WalkMore
import Derived.Test.YtdobpgakmonnbaaDoorToC
set_option linter.unusedVariables false
set_option linter.unusedSectionVars false
set_option linter.unusedSimpArgs false
namespace Go.Proofs.YtdobpgakmonnbaaDoor.Tok
open Go.RowKit

theorem letter_any (c : UInt8) (w : World) : Calls Tryd.prog 23 #[.int .u8 (c.toNat : Int)] w fun e w' => e = .returned (.bool (ltr c)) ∧ w = w' := by
  obtain ⟨b1, g1⟩ : ∃ b, decide ((97 : Int) ≤ (c.toNat : Int)) = b := ⟨_, rfl⟩
  obtain ⟨b2, g2⟩ : ∃ b, decide ((c.toNat : Int) ≤ 122) = b := ⟨_, rfl⟩
  obtain ⟨b3, g3⟩ : ∃ b, ((c.toNat : Int) == 95) = b := ⟨_, rfl⟩
  have hr : ltr c = (b1 && b2 || b3) := by
    have e1 : decide (97 ≤ c.toNat) = decide ((97 : Int) ≤ (c.toNat : Int)) := by congr 1; simp; omega
    have e2 : decide (c.toNat ≤ 122) = decide ((c.toNat : Int) ≤ 122) := by congr 1; simp; omega
    have e3 : decide (c.toNat = 95) = ((c.toNat : Int) == 95) := by rw [Bool.eq_iff_iff]; simp; omega
    unfold ltr
    rw [e1, e2, e3, g1, g2, g3]
  have HR := Lib.hid hr
  clear hr
  generalize (c.toNat : Int) = x at *
  cases b1 <;> cases b2 <;> cases b3 <;>
    (go_enter Tryd.func23, Tryd.ntmps23
     go_wp2
     go_ret
     exact ⟨by rw [HR.out]; rfl, rfl⟩)
theorem digit_any (c : UInt8) (w : World) : Calls Tryd.prog 30 #[.int .u8 (c.toNat : Int)] w fun e w' => e = .returned (.bool (dgt c)) ∧ w = w' := by
  obtain ⟨b1, g1⟩ : ∃ b, decide ((48 : Int) ≤ (c.toNat : Int)) = b := ⟨_, rfl⟩
  obtain ⟨b2, g2⟩ : ∃ b, decide ((c.toNat : Int) ≤ 57) = b := ⟨_, rfl⟩
  have hr : dgt c = (b1 && b2) := by
    have e1 : decide (48 ≤ c.toNat) = decide ((48 : Int) ≤ (c.toNat : Int)) := by congr 1; simp; omega
    have e2 : decide (c.toNat ≤ 57) = decide ((c.toNat : Int) ≤ 57) := by congr 1; simp; omega
    unfold dgt
    rw [e1, e2, g1, g2]
  have HR := Lib.hid hr
  clear hr
  generalize (c.toNat : Int) = x at *
  cases b1 <;> cases b2 <;>
    (go_enter Tryd.func30, Tryd.ntmps30
     go_wp2
     go_ret
     exact ⟨by rw [HR.out]; rfl, rfl⟩)
theorem inWord_any (c : UInt8) (w : World) : Calls Tryd.prog 25 #[.int .u8 (c.toNat : Int)] w fun e w' => e = .returned (.bool (wrd c)) ∧ w = w' := by
  have h1 := Lib.hid (letter_any c w)
  have h2 := Lib.hid (digit_any c w)
  have HW : Hid (wrd c = (ltr c || dgt c)) := Lib.hid rfl
  generalize (c.toNat : Int) = x at *
  obtain ⟨b1, e1⟩ : ∃ b, ltr c = b := ⟨_, rfl⟩
  obtain ⟨b2, e2⟩ : ∃ b, dgt c = b := ⟨_, rfl⟩
  rw [e1] at h1 HW
  rw [e2] at h2 HW
  clear e1 e2
  cases b1 <;> cases b2 <;>
    (go_enter Tryd.func25, Tryd.ntmps25
     go_wp2_with (first
       | (go_at_call 23; refine h1.out.mono ?_; rintro e w' ⟨rfl, rfl⟩)
       | (go_at_call 30; refine h2.out.mono ?_; rintro e w' ⟨rfl, rfl⟩))
     go_ret
     exact ⟨by rw [HW.out]; rfl, rfl⟩)
theorem get_list (s : ByteArray) {k : Nat} (h : k < s.size) : s.data.toList[k]? = some s[k] := by
  have h1 : k < s.data.toList.length := by simpa using h
  rw [List.getElem?_eq_getElem h1]
  rfl
theorem run_step (p : UInt8 → Bool) {l : List UInt8} {k : Nat} {c : UInt8} (h : l[k]? = some c) : runL p (l.drop k) = if p c then runL p (l.drop (k + 1)) + 1 else 0 := by
  obtain ⟨h1, rfl⟩ := List.getElem?_eq_some_iff.1 h
  rw [List.drop_eq_getElem_cons h1]
  rfl
set_option maxHeartbeats 1000000 in
theorem run_any (p : UInt8 → Bool) {gf : Nat} (hf : ∀ (c : UInt8) (w : World), Calls Tryd.prog gf #[.int .u8 (c.toNat : Int)] w fun e w' => e = .returned (.bool (p c)) ∧ w = w') (hcf : ∀ args w, (callFunc gf args).run Tryd.prog w = .ok (.enter gf args) w)
    (s : ByteArray) (hs : s.size ≤ maxLen) (w : World) : Calls Tryd.prog 21 #[.string s, .func (.func gf) #[] #[]] w fun e w' => e = .returned (.int .i64 (runL p s.data.toList : Int)) ∧ w = w' := by
  unfold maxLen at hs
  obtain ⟨r, hr⟩ : ∃ r, runL p s.data.toList = r := ⟨_, rfl⟩
  have HR := Lib.hid hr
  rw [hr]
  clear hr
  have HF := Lib.hid hf
  go_enter Tryd.func21, Tryd.ntmps21
  clear hf
  go_wp2
  go_loop [8] (fun i => ∃ k : Nat, i = .int .i64 k ∧ k ≤ s.size ∧ Hid (r = k + runL p (s.data.toList.drop k))) (fun i => s.size - (intOf i).toNat)
  case atStart => exact ⟨0, rfl, Nat.zero_le _, Lib.hid (by rw [HR.out.symm]; simp)⟩
  case round =>
    obtain ⟨k, rfl, hk, HK⟩ := hrel
    by_cases hlt : k < s.size
    · have hki : (k : Int) < (s.size : Int) := by omega
      have hk0 : (0 : Int) ≤ (k : Int) := Int.natCast_nonneg k
      have hg := get_list s hlt
      have HS := Lib.hid (run_step p hg)
      have HC := Lib.hid (HF.out s[k] w)
      clear hg
      cases hp : p s[k] with
      | true =>
        rw [hp] at HC HS
        have HK2 : Hid (r = (k + 1) + runL p (s.data.toList.drop (k + 1))) := Lib.hid (by have h1 := HK.out; have h2 := HS.out; rw [if_pos rfl] at h2; omega)
        clear hp
        go_wp2_with fail
        refine HC.out.mono ?_
        rintro e w' ⟨rfl, rfl⟩
        go_wp2
        go_round
        case rel => exact ⟨k + 1, by go_num, by omega, HK2⟩
        case measure => simp [intOf]; omega
      | false =>
        rw [hp] at HC HS
        have HRe : Hid (r = k) := Lib.hid (by have h1 := HK.out; have h2 := HS.out; rw [if_neg (by decide)] at h2; omega)
        clear hp
        go_wp2_with fail
        refine HC.out.mono ?_
        rintro e w' ⟨rfl, rfl⟩
        go_wp2
        go_ret
        exact ⟨by rw [HRe.out]; rfl, rfl⟩
    · obtain rfl : k = s.size := by omega
      have hre : r = s.size := by
        have := HK.out
        rw [List.drop_of_length_le (by simp)] at this
        exact this
      have HRe := Lib.hid hre
      clear hre
      go_wp2
      go_ret
      exact ⟨by rw [HRe.out]; rfl, rfl⟩
def ne10 (c : UInt8) : Bool := !decide (c.toNat = 10)
theorem ne10_any (c : UInt8) (w : World) : Calls Tryd.prog 22 #[.int .u8 (c.toNat : Int)] w fun e w' => e = .returned (.bool (ne10 c)) ∧ w = w' := by
  obtain ⟨b1, g1⟩ : ∃ b, ((c.toNat : Int) != 10) = b := ⟨_, rfl⟩
  have hr : ne10 c = b1 := by
    rw [← g1]
    unfold ne10
    rw [Bool.eq_iff_iff]
    simp
    omega
  have HR := Lib.hid hr
  clear hr
  generalize (c.toNat : Int) = x at *
  cases b1 <;>
    (go_enter Tryd.func22, Tryd.ntmps22
     go_wp2
     go_ret
     exact ⟨by rw [HR.out]; rfl, rfl⟩)
theorem skip_true : ∀ s, skipB true s = skipB false (s.drop (runL ne10 s))
  | [] => rfl
  | c :: r => by
    have ih := skip_true r
    by_cases h : c.toNat = 10
    · have e : ne10 c = false := by simp [ne10, h]
      simp [skipB, runL, e, h, blk]
    · have e : ne10 c = true := by simp [ne10, h]
      simp only [skipB, runL, h, e, if_true, if_false, List.drop_succ_cons]
      exact ih
theorem skip_mark {c : UInt8} {r : List UInt8} (h : c.toNat = 35) : skipB false (c :: r) = skipB false ((c :: r).drop (runL ne10 (c :: r))) ∧ 1 ≤ runL ne10 (c :: r) := by
  have e : ne10 c = true := by simp [ne10, h]
  have hb : blk c = false := by simp [blk, h]
  have hk : runL ne10 (c :: r) = runL ne10 r + 1 := by simp only [runL, e, if_true]
  rw [hk]
  refine ⟨?_, by omega⟩
  rw [List.drop_succ_cons, ← skip_true]
  simp [skipB, hb, h]
theorem extract_list (s : ByteArray) {k : Nat} (h : k ≤ s.size) : (s.extract k s.size).data.toList = s.data.toList.drop k := by
  simp [ByteArray.data_extract]
  exact List.take_of_length_le (by simp)
set_option maxHeartbeats 1000000 in
theorem blanks_any (s : ByteArray) (hs : s.size ≤ maxLen) (w : World) : Calls Tryd.prog 15 #[.string s] w fun e w' => e = .returned (.int .i64 ((s.size - (skipB false s.data.toList).length : Nat) : Int)) ∧ w = w' := by
  have hs' := hs
  unfold maxLen at hs
  obtain ⟨r, hr⟩ : ∃ r, s.size - (skipB false s.data.toList).length = r := ⟨_, rfl⟩
  have HR := Lib.hid hr
  rw [hr]
  clear hr
  go_enter Tryd.func15, Tryd.ntmps15
  go_wp2
  go_step3
  go_wp2
  go_step3
  go_wp2
  go_loop [3] (fun i => ∃ k : Nat, i = .int .i64 k ∧ k ≤ s.size ∧ Hid (skipB false s.data.toList = skipB false (s.data.toList.drop k))) (fun i => s.size - (intOf i).toNat)
  case atStart => exact ⟨0, rfl, Nat.zero_le _, Lib.hid (by simp)⟩
  case round =>
    obtain ⟨k, rfl, hk, HK⟩ := hrel
    by_cases hlt : k < s.size
    · have hki : (k : Int) < (s.size : Int) := by omega
      have hk0 : (0 : Int) ≤ (k : Int) := Int.natCast_nonneg k
      have hg := get_list s hlt
      have hdr : s.data.toList.drop k = s[k] :: s.data.toList.drop (k + 1) := by
        obtain ⟨h1, h2⟩ := List.getElem?_eq_some_iff.1 hg
        rw [List.drop_eq_getElem_cons h1, h2]
      by_cases hb : blk s[k] = true
      · have HK2 : Hid (skipB false s.data.toList = skipB false (s.data.toList.drop (k + 1))) := Lib.hid (by
          rw [HK.out, hdr]
          simp [skipB, hb])
        have hx : ((s[k].toNat : Nat) : Int) = 32 ∨ ((s[k].toNat : Nat) : Int) = 9 ∨ ((s[k].toNat : Nat) : Int) = 13 ∨ ((s[k].toNat : Nat) : Int) = 10 := by
          unfold blk at hb
          simp at hb
          omega
        clear hb hdr hg HK
        rcases hx with hx | hx | hx | hx <;>
          (go_wp2
           go_round
           case rel => exact ⟨k + 1, by go_num, by omega, HK2⟩
           case measure => simp [intOf]; omega)
      · have hn : ((s[k].toNat : Nat) : Int) ≠ 32 ∧ ((s[k].toNat : Nat) : Int) ≠ 9 ∧ ((s[k].toNat : Nat) : Int) ≠ 13 ∧ ((s[k].toNat : Nat) : Int) ≠ 10 := by
          unfold blk at hb
          simp at hb
          omega
        have g1 : (((s[k].toNat : Nat) : Int) == 32) = false := by simpa using hn.1
        have g2 : (((s[k].toNat : Nat) : Int) == 9) = false := by simpa using hn.2.1
        have g3 : (((s[k].toNat : Nat) : Int) == 13) = false := by simpa using hn.2.2.1
        have g4 : (((s[k].toNat : Nat) : Int) == 10) = false := by simpa using hn.2.2.2
        by_cases h35 : ((s[k].toNat : Nat) : Int) = 35
        · have g5 : (((s[k].toNat : Nat) : Int) == 35) = true := by simpa using h35
          have hm := skip_mark (c := s[k]) (r := s.data.toList.drop (k + 1)) (by omega)
          rw [← hdr] at hm
          have hml := runL_le ne10 (s.data.toList.drop k)
          rw [List.length_drop, show s.data.toList.length = s.size by simp] at hml
          have CR := Lib.hid (run_any ne10 (gf := 22) ne10_any (fun _ _ => rfl) (s.extract k s.size) (by rw [ByteArray.size_extract]; unfold maxLen; omega) w)
          rw [extract_list s hk] at CR
          obtain ⟨m, hme⟩ : ∃ m, runL ne10 (s.data.toList.drop k) = m := ⟨_, rfl⟩
          rw [hme] at CR hm hml
          have HK2 : Hid (skipB false s.data.toList = skipB false (s.data.toList.drop (k + m))) := Lib.hid (by
            rw [HK.out, hm.1, List.drop_drop])
          have hm1 := hm.2
          clear hme hm hn hb hdr hg HK
          go_wp2_with fail
          refine CR.out.mono ?_
          rintro e w' ⟨rfl, rfl⟩
          go_wp2
          go_round
          case rel => exact ⟨k + m, by go_num, by omega, HK2⟩
          case measure => simp [intOf]; omega
        · have g5 : (((s[k].toNat : Nat) : Int) == 35) = false := by simpa using h35
          have hre : r = k := by
            rw [← HR.out, HK.out, hdr]
            simp [skipB, hb, show ¬ s[k].toNat = 35 by omega]
            omega
          have HRe := Lib.hid hre
          clear hre hb hn hdr hg HK h35
          go_wp2
          go_ret
          exact ⟨by rw [HRe.out]; rfl, rfl⟩
    · obtain rfl : k = s.size := by omega
      have hre : r = s.size := by
        rw [← HR.out, HK.out, List.drop_of_length_le (by simp)]
        rfl
      have HRe := Lib.hid hre
      clear hre
      go_wp2
      go_ret
      exact ⟨by rw [HRe.out]; rfl, rfl⟩
end Go.Proofs.YtdobpgakmonnbaaDoor.Tok
