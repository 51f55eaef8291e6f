/- Contracts of the calls of package varint that read or reckon, and of their definitions in the reference. -/
import Derived.Test.YtnkhpmpoemodiaaRows
import Derived.Test.YtnkhpmpoemodiaaLib
import Derived.Test.YtnkhpmpoemodiaaVm
import Derived.Outline
import Derived.Handy
import Derived.BigQuiet
import Derived.Deep.QuietTactic
import Derived.WalkSpells
import Derived.WalkLawsBesides
set_option linter.unusedVariables false
namespace Go.Proofs.Ytnkhpmpoemodiaa
open Go.RowKit

theorem get_val (n s e : Nat) (x : Nat × Nat × Nat) (h : x = (n, s, e)) :
    Ending.returned (.tuple #[.int .u64 n, .int .i64 s, .int .i64 e]) = .returned (.tuple #[.int .u64 x.1, .int .i64 x.2.1, .int .i64 x.2.2]) := by rw [h]

theorem get_any (zs : List Int) (B : Nat) (a : Option Addr) (b off len cap : Nat) (w : World) (h : IntsAt .u8 B w a b off len zs) (hcap : len ≤ cap) :
    Calls Try.prog 116 #[.slice a len cap] w fun e w' => e = .returned (.tuple #[.int .u64 (getF zs).1, .int .i64 (getF zs).2.1, .int .i64 (getF zs).2.2]) ∧ w = w' := by
  have H := Lib.hid h
  have hm := h.small
  unfold maxLen at hm
  clear h
  have h3 : len < 10 ∨ (len ≤ 10 ∧ 10 ≤ len) ∨ 10 < len := by omega
  rcases h3 with h10 | h10 | h10
  all_goals
    go_enter Try.func116, Try.ntmps116
    go_wp2
    go_loop [2, 13] (fun n i => ∃ k acc : Nat, k ≤ 9 ∧ k ≤ len ∧ i = .int .i64 k ∧ n = .int .u64 acc ∧ Hid (acc < 128 ^ k ∧ getF zs = getGo (zs.drop k) k acc)) (fun _ i => 10 - (intOf i).toNat)
    case atStart => exact ⟨0, 0, by omega, by omega, rfl, rfl, Lib.hid ⟨by simp, rfl⟩⟩
    case round =>
      obtain ⟨k, acc, hk9, hkl, rfl, rfl, hs⟩ := hrel
      by_cases hlt : k < len
      · have hlz : k < zs.length := by rw [H.out.length]; exact hlt
        have hcell := H.out.cell k hlt
        have hbd : 0 ≤ zs.getD k 0 ∧ zs.getD k 0 ≤ 255 := bounds_u8 (H.out.fits _ (by simp [List.getD, hlz]))
        obtain rfl : a = some ⟨b, off, none⟩ := H.out.addr.resolve_left (by omega)
        obtain ⟨hacc, hgo⟩ := hs.out
        rw [drop_cons hlz] at hgo
        clear hs hlz
        generalize zs.getD k 0 = c at *
        have HAN := andNot128 hbd.1 hbd.2
        obtain ⟨d, hd⟩ : ∃ d, c.toNat % 128 = d := ⟨_, rfl⟩
        have hd127 : d ≤ 127 := by omega
        by_cases h9 : k = 9 ∧ 1 < c
        · have HR := Lib.hid (go_range hgo h9.1 h9.2)
          have hk9b : ((k : Int) == 9) = true := by simp; omega
          have hc1 := h9.2
          clear hgo hacc h9 HAN hd
          go_wp2
          go_ret3
          exact ⟨get_val 0 0 23 _ HR.out, rfl⟩
        · have hadd := byte_adds hk9 hbd.1 hbd.2 h9 hacc
          rw [hd] at hadd HAN
          have hor := or_adds hk9 hacc hadd.2
          have hpow := pow2_7 k
          have hnx := next_lt hacc hd127
          have HE := Lib.hid (fun h0 h2 => go_end (P := 128 ^ k) hgo h9 hbd.1 h0 h2 hd rfl)
          have HN := Lib.hid (fun h0 => go_next (P := 128 ^ k) hgo h9 h0 hbd.2 hd rfl)
          have HF := Lib.hid (fun h0 h2 => go_form hgo h0 h2)
          have HNX := Lib.hid hnx
          clear hgo hacc hd hnx
          generalize 128 ^ k = P at *
          have hu1 : (0 : Int) ≤ (d : Int) * (P : Int) := by rw [← Int.natCast_mul]; omega
          have hu2 : (d : Int) * (P : Int) ≤ 18446744073709551615 := by rw [← Int.natCast_mul]; omega
          obtain ⟨q, hq⟩ : ∃ q, acc + d * P = q := ⟨_, rfl⟩
          rw [← Int.natCast_mul, ← Int.natCast_add, hq, Int.natCast_mul] at hor
          rw [hq] at HE HN HNX
          clear hq
          have h9w : ((k : Int) == 9) = false ∨ (((k : Int) == 9) = true ∧ ¬ 1 < c) := by
            by_cases hh : k = 9
            · exact .inr ⟨by simp; omega, fun h => h9 ⟨hh, h⟩⟩
            · exact .inl (by simp; omega)
          have h98 : 128 ≤ c → k ≤ 8 := by omega
          clear h9 hadd
          by_cases h128 : c < 128
          · by_cases hz : 0 < k ∧ c = 0
            · have HR := Lib.hid (HF.out hz.1 hz.2)
              have hk0 := hz.1
              have hc0 : (c == 0) = true := by simp [hz.2]
              clear hz h98
              rcases h9w with h9w | ⟨h9w, h9v⟩
              all_goals
                go_wp2
                go_ret3
                exact ⟨get_val 0 0 21 _ HR.out, rfl⟩
            · have HR := Lib.hid (HE.out h128 hz)
              have hz2 : ¬ 0 < k ∨ (0 < k ∧ (c == 0) = false) := by
                by_cases hh : 0 < k
                · exact .inr ⟨hh, by simp; omega⟩
                · exact .inl hh
              clear hz h98
              rcases h9w with h9w | ⟨h9w, h9v⟩ <;> rcases hz2 with hz2 | ⟨hz2, hz3⟩
              all_goals
                go_wp2
                go_ret3
                exact ⟨get_val _ _ 0 _ HR.out, rfl⟩
          · have hk8 := h98 (by omega)
            have HR := Lib.hid (HN.out (by omega))
            clear h98
            have h9f : ((k : Int) == 9) = false := by simp; omega
            clear h9w
            go_wp2
            go_round
            case rel => exact ⟨k + 1, q, by omega, by omega, by go_num, (by first | rfl | rw [hor]), Lib.hid ⟨HNX.out, HR.out⟩⟩
            case measure => simp [intOf]; omega
      · first
        | (exfalso; omega)
        | (have hend : getF zs = (0, 0, 20) := by
             have h1 := hs.out.2
             rw [List.drop_of_length_le (by rw [H.out.length]; omega)] at h1
             exact h1
           have HR := Lib.hid hend
           clear hend hs
           go_wp2
           go_ret3
           exact ⟨get_val 0 0 20 _ HR.out, rfl⟩)
end Go.Proofs.Ytnkhpmpoemodiaa
