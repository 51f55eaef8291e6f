/- Contracts: the reference's product; sums of rows; the statements' common example. -/
import Derived.Test.YtiajpffdnjeafaaScd
set_option linter.unusedVariables false
namespace Go.Proofs.Ytiajpffdnjeafaa
open Go.RowKit

theorem positive_any (a b : Int) (w : World) (a1 : 1 ≤ a) (a2 : a ≤ 9223372036854775807) (b1 : -9223372036854775808 ≤ b) (b2 : b ≤ 9223372036854775807) (hb : b ≠ 0) :
    Calls Try.prog 45 #[.int .i64 a, .int .i64 b] w fun e w' => e = .returned (.tuple #[.int .i64 (orZ (a * b)), .bool (inR (a * b))]) ∧ w = w' := by
  have ha0 : (a == 0) = false := by simp; omega
  have hd := IntWalk.tdiv_le 9223372036854775807 a (by omega) a1
  have ht := tdiv_bd a1
  by_cases hp : 0 < b
  · have hn : ¬ b < 0 := by omega
    by_cases h : 9223372036854775807 < a * b
    · have hx := (pos_gt a1).2 h
      have H := Lib.hid (orZ_f (inR_no (n := a * b) (by omega)))
      have G := Lib.hid (inR_no (n := a * b) (by omega))
      clear h
      go_enter Try.func45, Try.ntmps45
      go_wp2
      go_ret2
      exact ⟨ret2 H.out.symm G.out.symm, rfl⟩
    · have hx : ¬ 9223372036854775807 / a < b := fun g => h ((pos_gt a1).1 g)
      have hq : 0 ≤ a * b := Int.mul_nonneg (by omega) (by omega)
      have hr : inR (a * b) = true := inR_mk (by omega)
      have H := Lib.hid (orZ_t hr)
      have G := Lib.hid hr
      have K := Lib.hid (IntWalk.wrap64_in _ (inR_t hr))
      clear h hq hr
      go_enter Try.func45, Try.ntmps45
      go_wp2
      go_ret2
      exact ⟨ret2 (K.out.trans H.out.symm) G.out.symm, rfl⟩
  · have hn : b < 0 := by omega
    by_cases h : a * b < -9223372036854775808
    · have hx := (pos_lt a1).2 h
      have H := Lib.hid (orZ_f (inR_no (n := a * b) (by omega)))
      have G := Lib.hid (inR_no (n := a * b) (by omega))
      clear h
      go_enter Try.func45, Try.ntmps45
      go_wp2
      go_ret2
      exact ⟨ret2 H.out.symm G.out.symm, rfl⟩
    · have hx : ¬ b < -Int.tdiv 9223372036854775808 a := fun g => h ((pos_lt a1).1 g)
      have hq : a * b ≤ 0 := Int.mul_nonpos_of_nonneg_of_nonpos (by omega) (by omega)
      have hr : inR (a * b) = true := inR_mk (by omega)
      have H := Lib.hid (orZ_t hr)
      have G := Lib.hid hr
      have K := Lib.hid (IntWalk.wrap64_in _ (inR_t hr))
      clear h hq hr
      go_enter Try.func45, Try.ntmps45
      go_wp2
      go_ret2
      exact ⟨ret2 (K.out.trans H.out.symm) G.out.symm, rfl⟩

def edgeB (a b : Int) : Bool := decide (a * b = 9223372036854775808)
theorem neg_beq (x y : Int) : (-x == -y) = (x == y) := by rw [Bool.eq_iff_iff]; simp
theorem edge_any (a b : Int) (w : World) (a1 : 1 ≤ a) (a2 : a ≤ 9223372036854775807) (b1 : -9223372036854775807 ≤ b) (b2 : b ≤ 9223372036854775807) :
    Calls Try.prog 44 #[.int .i64 a, .int .i64 b] w fun e w' => e = .returned (.tuple #[.int .i64 (if edgeB a b = true then -9223372036854775808 else 0), .bool (edgeB a b)]) ∧ w = w' := by
  have ha0 : (a == 0) = false := by simp; omega
  have ht := tdiv_bd a1
  have hnb : -9223372036854775808 ≤ -b ∧ -b ≤ 9223372036854775807 := by omega
  by_cases h : a * b = 9223372036854775808
  · have ⟨h1, h2⟩ := edge_yes a1 h
    have hp : 0 < b := by
      have : ¬ b ≤ 0 := fun g => by have := Int.mul_nonpos_of_nonneg_of_nonpos (show 0 ≤ a by omega) g; omega
      omega
    have G : edgeB a b = true := decide_eq_true h
    rw [G, if_pos rfl]
    have e0 : (Int.tdiv 9223372036854775808 a == b) = true := by simp [h1]
    have e1 : (-Int.tdiv 9223372036854775808 a == -b) = true := by simp [h1]
    have e2 : (-(9223372036854775808 % a) == 0) = true := by simp [h2]
    clear h h1 h2 G
    go_enter Try.func44, Try.ntmps44
    go_wp2
    go_ret2
    exact ⟨rfl, rfl⟩
  · have G : edgeB a b = false := decide_eq_false h
    rw [G, if_neg (by decide)]
    by_cases hp : 0 < b
    · by_cases h1 : Int.tdiv 9223372036854775808 a = b
      · have h2 := edge_no h h1
        have e0 : (Int.tdiv 9223372036854775808 a == b) = true := by simp [h1]
        have e1 : (-Int.tdiv 9223372036854775808 a == -b) = true := by simp [h1]
        have e2 : (-(9223372036854775808 % a) == 0) = false := by simp [h2]
        clear h h1 h2 G
        go_enter Try.func44, Try.ntmps44
        go_wp2
        go_ret2
        exact ⟨rfl, rfl⟩
      · have e0 : (Int.tdiv 9223372036854775808 a == b) = false := by simp [h1]
        have e1 : (-Int.tdiv 9223372036854775808 a == -b) = false := by rw [neg_beq]; exact e0
        clear h h1 G
        go_enter Try.func44, Try.ntmps44
        go_wp2
        go_ret2
        exact ⟨rfl, rfl⟩
    · clear h G
      go_enter Try.func44, Try.ntmps44
      go_wp2
      go_ret2
      exact ⟨rfl, rfl⟩

theorem rmul_pos (a b : Int) (w : World) (a1 : 0 ≤ a) (a2 : a ≤ 9223372036854775807) (b1 : -9223372036854775808 ≤ b) (b2 : b ≤ 9223372036854775807) :
    Calls Try.prog 21 #[.int .i64 a, .int .i64 b] w fun e w' => e = .returned (.tuple #[.int .i64 (orZ (a * b)), .bool (inR (a * b))]) ∧ w = w' := by
  by_cases h0 : a = 0
  · subst h0
    have H : Hid (orZ (0 * b) = 0) := Lib.hid (by rw [Int.zero_mul]; rfl)
    have G : Hid (inR (0 * b) = true) := Lib.hid (by rw [Int.zero_mul]; rfl)
    go_enter Try.func21, Try.ntmps21
    go_wp2_with fail
    go_ret2
    exact ⟨ret2 H.out.symm G.out.symm, rfl⟩
  · have e0 : (a == 0) = false := by simp [h0]
    by_cases g0 : b = 0
    · subst g0
      have H : Hid (orZ (a * 0) = 0) := Lib.hid (by rw [Int.mul_zero]; rfl)
      have G : Hid (inR (a * 0) = true) := Lib.hid (by rw [Int.mul_zero]; rfl)
      clear h0
      go_enter Try.func21, Try.ntmps21
      go_wp2_with fail
      go_ret2
      exact ⟨ret2 H.out.symm G.out.symm, rfl⟩
    · have f0 : (b == 0) = false := by simp [g0]
      by_cases h1 : a = 1
      · subst h1
        have hr : inR (1 * b) = true := inR_mk (by omega)
        have H : Hid (orZ (1 * b) = b) := Lib.hid (by rw [orZ_t hr]; omega)
        have G := Lib.hid hr
        clear h0 g0 hr
        go_enter Try.func21, Try.ntmps21
        go_wp2_with fail
        go_ret2
        exact ⟨ret2 H.out.symm G.out.symm, rfl⟩
      · have e1 : (a == 1) = false := by simp [h1]
        by_cases g1 : b = 1
        · subst g1
          have hr : inR (a * 1) = true := inR_mk (by omega)
          have H : Hid (orZ (a * 1) = a) := Lib.hid (by rw [orZ_t hr]; omega)
          have G := Lib.hid hr
          clear h0 g0 h1 hr
          go_enter Try.func21, Try.ntmps21
          go_wp2_with fail
          go_ret2
          exact ⟨ret2 H.out.symm G.out.symm, rfl⟩
        · have f1 : (b == 1) = false := by simp [g1]
          have el : (a == -9223372036854775808) = false := by simp; omega
          by_cases gl : b = -9223372036854775808
          · subst gl
            have hr : inR (a * -9223372036854775808) = false := inR_no (by omega)
            have H := Lib.hid (orZ_f hr)
            have G := Lib.hid hr
            clear h0 g0 h1 g1 hr
            go_enter Try.func21, Try.ntmps21
            go_wp2_with fail
            go_ret2
            exact ⟨ret2 H.out.symm G.out.symm, rfl⟩
          · have fl : (b == -9223372036854775808) = false := by simp [gl]
            have hn : ¬ a < 0 := by omega
            have hp : 1 ≤ a := by omega
            have hpos := Lib.hid (fun w => positive_any a b w hp a2 b1 b2 g0)
            clear h0 g0 h1 g1 gl
            go_enter Try.func21, Try.ntmps21
            go_wp2_with (go_at_call 45; refine (hpos.out _).mono ?_; rintro e w' ⟨rfl, rfl⟩)
            go_ret2
            exact ⟨rfl, rfl⟩
theorem rmul_any (a b : Int) (w : World) (a1 : -9223372036854775808 ≤ a) (a2 : a ≤ 9223372036854775807) (b1 : -9223372036854775808 ≤ b) (b2 : b ≤ 9223372036854775807) :
    Calls Try.prog 21 #[.int .i64 a, .int .i64 b] w fun e w' => e = .returned (.tuple #[.int .i64 (orZ (a * b)), .bool (inR (a * b))]) ∧ w = w' := by
  by_cases hp : 0 ≤ a
  · exact rmul_pos a b w hp a2 b1 b2
  · have hn : a < 0 := by omega
    have e0 : (a == 0) = false := by simp; omega
    have e1 : (a == 1) = false := by simp; omega
    by_cases g0 : b = 0
    · subst g0
      rw [Int.mul_zero]
      have H : Hid (orZ 0 = 0) := Lib.hid rfl
      have G : Hid (inR 0 = true) := Lib.hid rfl
      go_enter Try.func21, Try.ntmps21
      go_wp2_with fail
      go_ret2
      exact ⟨ret2 H.out.symm G.out.symm, rfl⟩
    · have f0 : (b == 0) = false := by simp [g0]
      by_cases g1 : b = 1
      · subst g1
        rw [Int.mul_one]
        have hr : inR a = true := inR_mk (by omega)
        have H : Hid (orZ a = a) := Lib.hid (by rw [orZ_t hr])
        have G := Lib.hid hr
        clear g0 hr
        go_enter Try.func21, Try.ntmps21
        go_wp2_with fail
        go_ret2
        exact ⟨ret2 H.out.symm G.out.symm, rfl⟩
      · have f1 : (b == 1) = false := by simp [g1]
        by_cases hl : a = -9223372036854775808
        · subst hl
          have hr : inR (-9223372036854775808 * b) = false := inR_no (by omega)
          have H := Lib.hid (orZ_f hr)
          have G := Lib.hid hr
          clear g0 g1 hr
          go_enter Try.func21, Try.ntmps21
          go_wp2_with fail
          go_ret2
          exact ⟨ret2 H.out.symm G.out.symm, rfl⟩
        · have el : (a == -9223372036854775808) = false := by simp [hl]
          by_cases gl : b = -9223372036854775808
          · subst gl
            have hr : inR (a * -9223372036854775808) = false := inR_no (by omega)
            have H := Lib.hid (orZ_f hr)
            have G := Lib.hid hr
            clear g0 g1 hr
            go_enter Try.func21, Try.ntmps21
            go_wp2_with fail
            go_ret2
            exact ⟨ret2 H.out.symm G.out.symm, rfl⟩
          · have fl : (b == -9223372036854775808) = false := by simp [gl]
            have k1 : -9223372036854775808 ≤ -a := by omega
            have k2 : -a ≤ 9223372036854775807 := by omega
            have hpos := Lib.hid (fun w => rmul_pos (-a) b w (by omega) (by omega) b1 b2)
            have hedge := Lib.hid (fun w => edge_any (-a) b w (by omega) (by omega) (by omega) b2)
            have hm : -a * b = -(a * b) := Int.neg_mul a b
            cases hr : inR (-a * b)
            · have hz : Hid (orZ (-a * b) = 0) := Lib.hid (orZ_f hr)
              have HR := Lib.hid hr
              cases he : edgeB (-a) b
              · have HE := Lib.hid he
                have hno : inR (a * b) = false := inR_no (by have := inR_f hr; have := of_decide_eq_false he; omega)
                have H := Lib.hid (orZ_f hno)
                have G := Lib.hid hno
                clear hr hm hno he g0 g1 hl gl
                go_enter Try.func21, Try.ntmps21
                go_wp2_with (first | (go_at_call 21; refine (hpos.out _).mono ?_; rintro e w' ⟨rfl, rfl⟩; rw [HR.out, hz.out]) | (go_at_call 44; refine (hedge.out _).mono ?_; rintro e w' ⟨rfl, rfl⟩; rw [HE.out, if_neg (by decide)]))
                go_ret2
                exact ⟨ret2 H.out.symm G.out.symm, rfl⟩
              · have HE := Lib.hid he
                have e9 : a * b = -9223372036854775808 := by have := of_decide_eq_true he; omega
                have hyes : inR (a * b) = true := inR_mk (by omega)
                have H : Hid (orZ (a * b) = -9223372036854775808) := Lib.hid (by rw [orZ_t hyes, e9])
                have G := Lib.hid hyes
                clear hr hm hyes he e9 g0 g1 hl gl
                go_enter Try.func21, Try.ntmps21
                go_wp2_with (first | (go_at_call 21; refine (hpos.out _).mono ?_; rintro e w' ⟨rfl, rfl⟩; rw [HR.out, hz.out]) | (go_at_call 44; refine (hedge.out _).mono ?_; rintro e w' ⟨rfl, rfl⟩; rw [HE.out, if_pos rfl]))
                go_ret2
                exact ⟨ret2 H.out.symm G.out.symm, rfl⟩
            · have hz : Hid (orZ (-a * b) = -a * b) := Lib.hid (orZ_t hr)
              have HR := Lib.hid hr
              by_cases hp9 : -a * b = -9223372036854775808
              · have hno : inR (a * b) = false := inR_no (by omega)
                have H := Lib.hid (orZ_f hno)
                have G := Lib.hid hno
                have P9 := Lib.hid hp9
                clear hr hm hno hp9 g0 g1 hl gl
                go_enter Try.func21, Try.ntmps21
                go_wp2_with (first | (go_at_call 21; refine (hpos.out _).mono ?_; rintro e w' ⟨rfl, rfl⟩; rw [HR.out, hz.out, P9.out]))
                go_ret2
                exact ⟨ret2 H.out.symm G.out.symm, rfl⟩
              · have hb := inR_t hr
                have hyes : inR (a * b) = true := inR_mk (by omega)
                have H : Hid (orZ (a * b) = -(-a * b)) := Lib.hid (by rw [orZ_t hyes]; omega)
                have G := Lib.hid hyes
                have hne : (-a * b == -9223372036854775808) = false := by rw [beq_eq_false_iff_ne]; exact hp9
                have q1 : -9223372036854775808 ≤ -(-a * b) ∧ -(-a * b) ≤ 9223372036854775807 := by omega
                clear hr hm hyes hp9 g0 g1 hl gl
                generalize -a * b = p at *
                go_enter Try.func21, Try.ntmps21
                go_wp2_with (first | (go_at_call 21; refine (hpos.out _).mono ?_; rintro e w' ⟨rfl, rfl⟩; rw [HR.out, hz.out]))
                go_ret2
                exact ⟨ret2 H.out.symm G.out.symm, rfl⟩
end Go.Proofs.Ytiajpffdnjeafaa
