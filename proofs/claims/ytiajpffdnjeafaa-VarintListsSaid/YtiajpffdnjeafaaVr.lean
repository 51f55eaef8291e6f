/- Contracts: the definitions of the reference for layer 2, and its help. -/
import Derived.Test.YtiajpffdnjeafaaVf
set_option linter.unusedVariables false
namespace Go.Proofs.Ytiajpffdnjeafaa
open Go.RowKit

theorem rget_any (zs : List Int) (B : Nat) (a : Option Addr) (b off len cap : Nat) (w : World) (h : IntsAt .u8 B w a b off len zs) :
    Calls Try.prog 30 #[.slice a len cap] w fun e w' => e = .returned (.tuple #[.int .u64 (getF zs).1, .int .i64 (getF zs).2.1, .int .i64 (getF zs).2.2]) ∧ w = w' := by
  have H := Lib.hid h
  have hm := h.small
  unfold maxLen at hm
  clear h
  go_enter Try.func30, Try.ntmps30
  go_wp2
  go_loop [5, 6, 7] (fun n p i => ∃ k acc P : Nat, k ≤ 9 ∧ k ≤ len ∧ i = .int .i64 k ∧ n = .int .u64 acc ∧ p = .int .u64 P ∧ Hid (128 ^ k = P) ∧ Hid (acc < 128 ^ k ∧ getF zs = getGo (zs.drop k) k acc)) (fun _ _ i => 10 - (intOf i).toNat)
  case atStart => exact ⟨0, 0, 1, by omega, by omega, rfl, rfl, rfl, Lib.hid rfl, Lib.hid ⟨by simp, rfl⟩⟩
  case round =>
    obtain ⟨k, acc, P, hk9, hkl, rfl, rfl, rfl, hP, hs⟩ := hrel
    by_cases hlt : k < len
    · have hlz : k < zs.length := by rw [H.out.length]; exact hlt
      have hcell := H.out.cell k hlt
      have hbd : 0 ≤ zs.getD k 0 ∧ zs.getD k 0 ≤ 255 := bounds_u8 (H.out.fits _ (by simp [List.getD, hlz]))
      obtain rfl : a = some ⟨b, off, none⟩ := H.out.addr.resolve_left (by omega)
      obtain ⟨hacc, hgo⟩ := hs.out
      rw [drop_cons hlz] at hgo
      clear hs hlz
      generalize zs.getD k 0 = c at *
      obtain ⟨d, hd⟩ : ∃ d, c.toNat % 128 = d := ⟨_, rfl⟩
      have hd127 : d ≤ 127 := by omega
      have hmod : c % 128 = (d : Int) := by omega
      by_cases h9 : k = 9 ∧ 1 < c
      · have HR := Lib.hid (go_range hgo h9.1 h9.2)
        have hk9b : ((k : Int) == 9) = true := by simp; omega
        have hc1 := h9.2
        clear hgo hacc h9 hd hmod
        go_wp2
        go_ret3
        exact ⟨get_val 0 0 23 _ HR.out, rfl⟩
      · have hadd := byte_adds hk9 hbd.1 hbd.2 h9 hacc
        rw [hd, hP.out] at hadd
        have hp9 := pow128_le k hk9
        have hp8 : k ≤ 8 → P ≤ 72057594037927936 := fun h => by rw [← hP.out]; exact pow128_8 k h
        rw [hP.out] at hp9
        have hnx := next_lt hacc hd127
        rw [hP.out] at hnx
        have HE := Lib.hid (fun h0 h2 => go_end hgo h9 hbd.1 h0 h2 hd hP.out)
        have HN := Lib.hid (fun h0 => go_next hgo h9 h0 hbd.2 hd hP.out)
        have HF := Lib.hid (fun h0 h2 => go_form hgo h0 h2)
        have HNX := Lib.hid hnx
        clear hgo hacc hd hnx
        have hu1 : (0 : Int) ≤ (d : Int) * (P : Int) := by rw [← Int.natCast_mul]; omega
        have hu2 : (d : Int) * (P : Int) ≤ 18446744073709551615 := by rw [← Int.natCast_mul]; omega
        have hu3 : (acc : Int) + (d : Int) * (P : Int) ≤ 18446744073709551615 := by rw [← Int.natCast_mul]; omega
        obtain ⟨q, hq⟩ : ∃ q, acc + d * P = q := ⟨_, rfl⟩
        have hsum : (acc : Int) + (d : Int) * (P : Int) = (q : Int) := by rw [← Int.natCast_mul]; omega
        rw [hq] at HE HN HNX
        clear hq
        have h9w : ((k : Int) == 9) = false ∨ (((k : Int) == 9) = true ∧ ¬ 1 < c) := by
          by_cases hh : k = 9
          · exact .inr ⟨by simp; omega, fun h => h9 ⟨hh, h⟩⟩
          · exact .inl (by simp; omega)
        have h98 : 128 ≤ c → k ≤ 8 := by omega
        clear h9 hadd
        by_cases h128 : c < 128
        · clear hp8
          by_cases hz : 0 < k ∧ c = 0
          · have HR := Lib.hid (HF.out hz.1 hz.2)
            have hk0 := hz.1
            have hc0 : (c == 0) = true := by simp [hz.2]
            clear hz h98
            rcases h9w with h9w | ⟨h9w, h9v⟩
            all_goals
              go_wp2
              go_ret3
              exact ⟨get_val 0 0 21 _ HR.out, rfl⟩
          · have HR := Lib.hid (HE.out h128 hz)
            have hz2 : (c == 0) = false ∨ ((c == 0) = true ∧ ¬ 0 < k) := by
              by_cases hh : c = 0
              · exact .inr ⟨by simp [hh], fun h => hz ⟨h, hh⟩⟩
              · exact .inl (by simp [hh])
            clear hz h98
            rcases h9w with h9w | ⟨h9w, h9v⟩ <;> rcases hz2 with hz2 | ⟨hz2, hz3⟩
            all_goals
              go_wp2
              go_ret3
              refine ⟨?_, rfl⟩
              first | exact get_val _ _ 0 _ HR.out | (rw [hsum]; exact get_val _ _ 0 _ HR.out)
        · have hk8 := h98 (by omega)
          have hP8 := hp8 hk8
          have HR := Lib.hid (HN.out (by omega))
          clear h98 hp8
          have h9f : ((k : Int) == 9) = false := by simp; omega
          clear h9w
          go_wp2
          go_round
          case rel => exact ⟨k + 1, q, P * 128, by omega, by omega, by go_num, (by first | rfl | rw [hsum]), by go_num, Lib.hid (by rw [Nat.pow_succ, hP.out]), Lib.hid ⟨HNX.out, HR.out⟩⟩
          case measure => simp [intOf]; omega
    · have hend : getF zs = (0, 0, 20) := by
        have h1 := hs.out.2
        rw [List.drop_of_length_le (by rw [H.out.length]; omega)] at h1
        exact h1
      have HR := Lib.hid hend
      clear hend hs
      go_wp2
      go_ret3
      exact ⟨get_val 0 0 20 _ HR.out, rfl⟩
theorem rfold_any (n : Int) (w : World) (b1 : -9223372036854775808 ≤ n) (b2 : n ≤ 9223372036854775807) :
    Calls Try.prog 36 #[.int .i64 n] w fun e w' => e = .returned (.int .u64 (foldF n)) ∧ w = w' := by
  by_cases h : n < 0
  · have H : Hid (foldF n = 2 * (-n - 1) + 1) := Lib.hid (by unfold foldF; rw [if_pos h])
    go_enter Try.func36, Try.ntmps36
    go_wp2
    go_ret
    exact ⟨retu (by rw [H.out]; omega), rfl⟩
  · have H : Hid (foldF n = 2 * n) := Lib.hid (by unfold foldF; rw [if_neg h])
    go_enter Try.func36, Try.ntmps36
    go_wp2
    go_ret
    exact ⟨retu (by rw [H.out]), rfl⟩
theorem runfold_any (n : Int) (w : World) (b1 : 0 ≤ n) (b2 : n ≤ 18446744073709551615) :
    Calls Try.prog 38 #[.int .u64 n] w fun e w' => e = .returned (.int .i64 (unfoldF n)) ∧ w = w' := by
  by_cases h : n % 2 = 0
  · have H : Hid (unfoldF n = n / 2) := Lib.hid (by unfold unfoldF; rw [if_pos h])
    have h1 : (n % 2 == 0) = true := by simp; omega
    clear h
    go_enter Try.func38, Try.ntmps38
    go_wp2
    go_ret
    exact ⟨retu H.out.symm, rfl⟩
  · have H : Hid (unfoldF n = -(n / 2) - 1) := Lib.hid (by unfold unfoldF; rw [if_neg h])
    have h1 : (n % 2 == 0) = false := by simp; omega
    clear h
    go_enter Try.func38, Try.ntmps38
    go_wp2
    go_ret
    exact ⟨retu H.out.symm, rfl⟩

set_option maxRecDepth 100000 in
theorem rput_any (n : Nat) (w : World) (h : n ≤ 18446744073709551615) :
    Calls Try.prog 33 #[.int .u64 n] w (BytesPost w (putF n)) := by
  obtain ⟨i0, hi, hz0, hz1, hz2⟩ := info_parts Try.infoU8
  have HI := Lib.hid hi
  have HZ0 := Lib.hid hz0
  have HZ1 := Lib.hid hz1
  have HZ2 := Lib.hid hz2
  clear hi hz0 hz1 hz2
  have hl := putL_length 9 n
  have HP := Lib.hid (show putF n = putL 9 n from rfl)
  generalize hL : (putL 9 n).length = L at *
  have HL := Lib.hid hL
  clear hL
  go_enter Try.func33, Try.ntmps33
  go_wp2
  have hpow : n < 128 ^ (9 + 1) := by
    have e : (128 : Nat) ^ (9 + 1) = 1180591620717411303424 := by decide
    rw [e]; omega
  have HPOW := Lib.hid hpow
  have HH := Lib.hid h
  clear h
  clear hpow
  go_loopw [0, 3] (fun x v wr => ∃ (m f : Nat) (done : List Int), x = .int .u64 m ∧ Hid (m ≤ 18446744073709551615) ∧ f ≤ 9 ∧ Hid (m < 128 ^ (f + 1)) ∧ Hid (putL 9 n = done ++ putL f m) ∧ Hid (Gath wr w.heap.size 5 1 v done.length (ivals .u8 done)) ∧ Below w.heap.size w wr) (fun x _ _ => (intOf x).toNat)
  case atStart => exact ⟨n, 9, [], rfl, HH, Nat.le_refl _, HPOW, Lib.hid rfl, Lib.hid (.inl ⟨rfl, rfl, _, rfl⟩), (Below.refl _ _).alloc (Nat.le_refl _) _⟩
  case round =>
    obtain ⟨m, f, done, rfl, hm, hf, hmf, hd, hg, hB⟩ := hrel
    have hlen : done.length ≤ 10 := by
      have h1 := congrArg List.length hd.out
      rw [List.length_append, HL.out] at h1
      omega
    have hsz := hB.size
    by_cases hlt : m < 128
    · have HE := Lib.hid (putL_last (f := f) hlt)
      go_wp2_with (at_builtin; refine wpList_append_gath _ rfl _ _ 33 rfl w.heap.size 5 i0 (.int .u8 0) 1 1 Try.underlying33 HI.out HZ0.out HZ1.out HZ2.out rfl (by decide) _ _ _ rfl (hg.out.alloc _) ⟨wr.heap.size, 0, none⟩ 1 1 [.int .u8 (m : Int)] rfl rfl (cell_one _ _ _) (one_val rfl) (by decide) (by unfold maxLen; omega) (by omega) (by simp; omega) ?_; intro v' w3 hown hbel)
      go_ret
      have e : putF n = done ++ [(m : Int)] := by rw [HP.out, hd.out, HE.out]
      refine ⟨v', rfl, ?_, (hB.alloc hsz _).trans hbel⟩
      rw [e, List.length_append, ivals_snoc]
      exact .inr hown
    · obtain ⟨g, rfl, e1, hmg⟩ := putL_step (f := f) (n := m) (by omega) hmf.out
      have HE := Lib.hid e1
      have HM := Lib.hid hmg
      obtain ⟨c, hc⟩ : ∃ c, m % 128 + 128 = c := ⟨_, rfl⟩
      rw [hc] at HE
      have hsum : (128 : Int) + (m : Int) % 128 = (c : Int) := by omega
      clear e1 hmg hc hmf
      have hge : 128 ≤ m := by omega
      have hmm := hm.out
      have hmd : m / 128 ≤ 18446744073709551615 := by omega
      have HMD := Lib.hid hmd
      have hmi : (m : Int) ≤ 18446744073709551615 := by omega
      clear hmm hmd
      go_wp2_with (at_builtin; refine wpList_append_gath _ rfl _ _ 33 rfl w.heap.size 5 i0 (.int .u8 0) 1 1 Try.underlying33 HI.out HZ0.out HZ1.out HZ2.out rfl (by decide) _ _ _ rfl (hg.out.alloc _) ⟨wr.heap.size, 0, none⟩ 1 1 [.int .u8 (c : Int)] rfl rfl (cell_one _ _ _) (one_val rfl) (by decide) (by unfold maxLen; omega) (by omega) (by simp; omega) ?_; intro v' w3 hown hbel)
      go_roundw
      case rel =>
        refine ⟨m / 128, g, done ++ [(c : Int)], by go_num, HMD, by omega, HM, Lib.hid (by rw [hd.out, HE.out, List.append_assoc]; rfl), Lib.hid (.inr ?_), (hB.alloc hsz _).trans hbel⟩
        rw [List.length_append, ivals_snoc]
        exact hown
      case measure => simp [intOf]; omega
theorem same_yes {B B' : Nat} {w : World} {a a' : Option Addr} {b off b' off' len : Nat} {zs : List Int} (h : IntsAt .u8 B w a b off len zs) (h' : IntsAt .u8 B' w a' b' off' len zs) (cap cap' : Nat) :
    Calls Try.prog 32 #[.slice a len cap, .slice a' len cap'] w fun e w' => e = .returned (.bool true) ∧ w = w' := by
  have h1 := conv_ints h cap
  have h2 := conv_ints h' cap'
  clear h h'
  generalize strOfNums zs = S at *
  go_enter Try.func32, Try.ntmps32
  go_wp2
  go_ret
  exact ⟨rfl, rfl⟩

end Go.Proofs.Ytiajpffdnjeafaa
