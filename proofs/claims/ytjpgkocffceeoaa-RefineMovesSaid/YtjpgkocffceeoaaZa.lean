/- Contracts: whether parts are right. -/
import Derived.Test.YtjpgkocffceeoaaGp
import Derived.Deep.DeepCutAuto
import Derived.Deep.CutBlock
set_option linter.unusedVariables false
set_option linter.unusedSectionVars false
namespace Go.Proofs.Ytjpgkocffceeoaa
open Go.RowKit Rk

theorem rcount_any (k : Int) (w : World) : Calls Try.prog 39 #[.int .i64 k] w fun e w' => e = .returned (.bool (withinF k 1 4096)) ∧ w = w' := by
  have H := Lib.hid (within_any k 1 4096)
  generalize withinF k 1 4096 = b at *
  go_enter Try.func39, Try.ntmps39
  go_wp2_with (go_at_call 62; refine (H.out _).mono ?_; rintro e w' ⟨rfl, rfl⟩)
  go_ret
  exact ⟨rfl, rfl⟩
def belowB (i n : Int) : Bool := decide (0 ≤ i ∧ i < n)
theorem below_any (i n : Int) (w : World) : Calls Try.prog 41 #[.int .i64 i, .int .i64 n] w fun e w' => e = .returned (.bool (belowB i n)) ∧ w = w' := by
  by_cases h0 : 0 ≤ i
  · have hd : decide (0 ≤ i) = true := by simpa using h0
    have H : Hid (belowB i n = decide (i < n)) := Lib.hid (by unfold belowB; rw [decide_eq_decide]; omega)
    clear h0
    go_enter Try.func41, Try.ntmps41
    go_wp2
    go_ret
    exact ⟨retb H.out.symm, rfl⟩
  · have hd : decide (0 ≤ i) = false := by simpa using h0
    have H : Hid (belowB i n = false) := Lib.hid (decide_eq_false (by omega))
    clear h0
    go_enter Try.func41, Try.ntmps41
    go_wp2
    go_ret
    exact ⟨retb H.out.symm, rfl⟩
theorem wrong_any (p k : Int) (kb : Nat) (w : World) (c : w.cell? ⟨kb, 0, none⟩ = some (.int .i64 k)) : Calls Try.prog 40 #[.int .i64 p, .pointer (some ⟨kb, 0, none⟩)] w fun e w' => e = .returned (.bool (!belowB p k)) ∧ w = w' := by
  have H := Lib.hid (below_any p k)
  generalize belowB p k = b at *
  go_enter Try.func40, Try.ntmps40
  go_wp2_with (go_at_call 41; refine (H.out _).mono ?_; rintro e w' ⟨rfl, rfl⟩)
  go_ret
  exact ⟨rfl, rfl⟩
def wrongs (ms : List Int) (k : Int) : Bool := !(ms.all (fun p => belowB p k))
set_option maxRecDepth 100000 in
set_option maxHeartbeats 1000000 in
theorem index_any {B : Nat} {w : World} {a : Option Addr} {b off len cap : Nat} {ms : List Int} (hm : IntsAt .i64 B w a b off len ms) (k : Int) (kb : Nat) (c : w.cell? ⟨kb, 0, none⟩ = some (.int .i64 k)) :
    Calls Try.prog 63 #[.slice a len cap, .func (.func 40) #[] #[.pointer (some ⟨kb, 0, none⟩)]] w fun e w' => ∃ r : Int, e = .returned (.int .i64 r) ∧ decide (0 ≤ r) = wrongs ms k ∧ w = w' := by
  have hsm := hm.small
  unfold maxLen at hsm
  have hln := hm.length
  have HM := Lib.hid hm
  have HL := Lib.hid hln
  have HC := Lib.hid c
  clear hm hln
  go_enter Try.func63, Try.ntmps63
  go_wp2
  go_loop [8] (fun i => ∃ j : Nat, j ≤ len ∧ i = .int .i64 j ∧ Hid ((ms.take j).all (fun p => belowB p k) = true)) (fun i => len - (intOf i).toNat)
  case atStart => exact ⟨0, Nat.zero_le _, rfl, Lib.hid rfl⟩
  case round =>
    obtain ⟨j, hj, rfl, hs⟩ := hrel
    by_cases hlt : j < len
    · have hcell := HM.out.cell j hlt
      obtain rfl : a = some ⟨b, off, none⟩ := HM.out.addr.resolve_left (by omega)
      have hkz : j < ms.length := by rw [HL.out]; exact hlt
      have HT : Hid (ms.take (j + 1) = ms.take j ++ [ms.getD j 0]) := Lib.hid (by rw [List.take_succ_eq_append_getElem hkz, List.getD_eq_getElem?_getD, List.getElem?_eq_getElem hkz]; rfl)
      have HMEM : Hid (ms.getD j 0 ∈ ms) := Lib.hid (by rw [List.getD_eq_getElem?_getD, List.getElem?_eq_getElem hkz]; exact List.getElem_mem hkz)
      generalize ms.getD j 0 = x at *
      have HW := Lib.hid (wrong_any x k kb w c)
      clear hkz c
      cases hx : belowB x k with
      | true =>
        rw [hx] at HW
        have HX := Lib.hid hx
        clear hx
        go_wp2_with (go_at_call 40; refine HW.out.mono ?_; rintro e w' ⟨rfl, rfl⟩)
        go_round
        case rel => exact ⟨j + 1, by omega, by go_num, Lib.hid (by rw [HT.out, List.all_append, hs.out]; simp [HX.out])⟩
        case measure => simp [intOf]; omega
      | false =>
        rw [hx] at HW
        have HE : Hid (wrongs ms k = true) := Lib.hid (by
          unfold wrongs
          cases h : ms.all (fun p => belowB p k) with
          | false => rfl
          | true => have := List.all_eq_true.1 h x HMEM.out; rw [hx] at this; cases this)
        clear hx
        go_wp2_with (go_at_call 40; refine HW.out.mono ?_; rintro e w' ⟨rfl, rfl⟩)
        go_ret
        exact ⟨_, rfl, by rw [HE.out]; simp, rfl⟩
    · have HE : Hid (wrongs ms k = false) := Lib.hid (by
        unfold wrongs
        rw [← List.take_of_length_le (l := ms) (i := j) (by rw [HL.out]; omega), hs.out]; rfl)
      go_wp2
      go_ret
      exact ⟨-1, rfl, by rw [HE.out]; rfl, rfl⟩
theorem contains_any {B : Nat} {w : World} {a : Option Addr} {b off len cap : Nat} {ms : List Int} (hm : IntsAt .i64 B w a b off len ms) (k : Int) (kb : Nat) (c : w.cell? ⟨kb, 0, none⟩ = some (.int .i64 k)) :
    Calls Try.prog 42 #[.slice a len cap, .func (.func 40) #[] #[.pointer (some ⟨kb, 0, none⟩)]] w fun e w' => e = .returned (.bool (wrongs ms k)) ∧ w = w' := by
  have H := Lib.hid (index_any (cap := cap) hm k kb c)
  clear hm c
  go_enter Try.func42, Try.ntmps42
  go_wp2_with fail
  refine H.out.mono ?_
  rintro e w' ⟨r, rfl, hr, rfl⟩
  have HR := Lib.hid hr
  clear hr
  go_wp2
  go_ret
  exact ⟨retb HR.out, rfl⟩
/-- Are parts right? -/
def rightP (n : Nat) (ms : List Int) (k : Int) : Bool := decide (ms.length = n) && withinF k 1 4096 && ms.all (fun p => belowB p k)
theorem rightP_t {n : Nat} {ms : List Int} {k : Int} (h : rightP n ms k = true) : ms.length = n ∧ (1 ≤ k ∧ k ≤ 4096) ∧ ∀ p ∈ ms, 0 ≤ p ∧ p < k := by
  unfold rightP at h
  simp only [Bool.and_eq_true, decide_eq_true_eq] at h
  exact ⟨h.1.1, of_decide_eq_true h.1.2, fun p hp => of_decide_eq_true (List.all_eq_true.1 h.2 p hp)⟩
theorem rightP_mk {n : Nat} {ms : List Int} {k : Int} (h1 : ms.length = n) (h2 : 1 ≤ k) (h3 : k ≤ 4096) (h4 : ∀ p ∈ ms, 0 ≤ p ∧ p < k) : rightP n ms k = true := by
  unfold rightP
  simp only [Bool.and_eq_true, decide_eq_true_eq]
  exact ⟨⟨h1, decide_eq_true ⟨h2, h3⟩⟩, List.all_eq_true.2 fun p hp => decide_eq_true (h4 p hp)⟩
set_option maxRecDepth 100000 in
set_option maxHeartbeats 1000000 in
theorem cright_any {w : World} {g nb : Nat} {ws : List Int} {F : Nat → Nat → Int} (h : IsG w g nb ws F) {B : Nat} {a : Option Addr} {b off len cap : Nat} {ms : List Int} (hm : IntsAt .i64 B w a b off len ms) (hB : B ≤ w.heap.size) (k : Int) :
    Calls Try.prog 13 #[.pointer (some ⟨g, 0, none⟩), .slice a len cap, .int .i64 k] w fun e w' => e = .returned (.bool (rightP ws.length ms k)) ∧ Below w.heap.size w w' := by
  have b0 : Below w.heap.size w (w.alloc (.cells #[.int .i64 k] 3)) := (Below.refl _ w).alloc (Nat.le_refl _) _
  have HL := Lib.hid (glen_any (h.below b0))
  have hsm := hm.small
  unfold maxLen at hsm
  have hsm2 := h.small
  have hln := hm.length
  have HLn := Lib.hid hln
  have bk : Boxed (w.alloc (.cells #[.int .i64 k] 3)) w.heap.size 3 (.int .i64 k) := Boxed.new w _ _
  have HC := Lib.hid (contains_any (cap := cap) (hm.kept (b0.mono hB) (Nat.le_refl _)) k w.heap.size bk.cell)
  have HK := Lib.hid (rcount_any k)
  have HB := Lib.hid b0
  have HR : Hid (rightP ws.length ms k = (decide (len = ws.length) && withinF k 1 4096 && !wrongs ms k)) := Lib.hid (by unfold rightP wrongs; rw [hln, Bool.not_not])
  have ck := bk.cell
  clear h hm bk b0 hln
  generalize ws.length = n at *
  go_enter Try.func13, Try.ntmps13
  go_upto_region 1 with fail
  generalize w.alloc (.cells #[.int .i64 k] 3) = w1 at *
  by_cases h1 : len = n
  · subst h1
    have hd1 : decide (len = len) = true := by simp
    rw [hd1] at HR
    clear hd1
    generalize wrongs ms k = x at *
    cases hw : withinF k 1 4096 with
    | true =>
      rw [hw] at HK HR
      clear hw
      go_wp2_with (first
        | (go_at_call 38; refine HL.out.mono ?_; rintro e w' ⟨rfl, rfl⟩)
        | (go_at_call 39; refine (HK.out _).mono ?_; rintro e w' ⟨rfl, rfl⟩)
        | (go_at_call 42; refine HC.out.mono ?_; rintro e w' ⟨rfl, rfl⟩))
      go_ret
      exact ⟨retb (by rw [HR.out]; simp), HB.out⟩
    | false =>
      rw [hw] at HK HR
      clear hw
      go_wp2_with (first
        | (go_at_call 38; refine HL.out.mono ?_; rintro e w' ⟨rfl, rfl⟩)
        | (go_at_call 39; refine (HK.out _).mono ?_; rintro e w' ⟨rfl, rfl⟩))
      go_ret
      exact ⟨retb (by rw [HR.out]; simp), HB.out⟩
  · have hd : ((len : Int) == (n : Int)) = false := by simp; omega
    have hd2 : ((len : Int) != (n : Int)) = true := by simp [bne, hd]
    have hd1 : decide (len = n) = false := by simpa using h1
    rw [hd1] at HR
    clear h1 hd1
    go_wp2_with (go_at_call 38; refine HL.out.mono ?_; rintro e w' ⟨rfl, rfl⟩)
    go_ret
    exact ⟨retb (by rw [HR.out]; simp), HB.out⟩
end Go.Proofs.Ytjpgkocffceeoaa
