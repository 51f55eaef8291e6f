/- Contracts: the definitions of the reference for layer 2: folded, a number's bytes; the same bytes. -/
import Derived.Test.YtnkhpmpoemodiaaCl
set_option linter.unusedVariables false
namespace Go.Proofs.Ytnkhpmpoemodiaa
open Go.RowKit

set_option maxRecDepth 100000 in
theorem rput_any (n : Nat) (w : World) (h : n ≤ 18446744073709551615) :
    Calls Try.prog 51 #[.int .u64 n] w (BytesPost w (putF n)) := by
  obtain ⟨i0, hi, hz0, hz1, hz2⟩ := info_parts Try.infoU8
  have HI := Lib.hid hi
  have HZ0 := Lib.hid hz0
  have HZ1 := Lib.hid hz1
  have HZ2 := Lib.hid hz2
  clear hi hz0 hz1 hz2
  have hl := putL_length 9 n
  have HP := Lib.hid (show putF n = putL 9 n from rfl)
  generalize hL : (putL 9 n).length = L at *
  have HL := Lib.hid hL
  clear hL
  go_enter Try.func51, Try.ntmps51
  go_wp2
  have hpow : n < 128 ^ (9 + 1) := by
    have e : (128 : Nat) ^ (9 + 1) = 1180591620717411303424 := by decide
    rw [e]; omega
  have HPOW := Lib.hid hpow
  have HH := Lib.hid h
  clear h
  clear hpow
  go_loopw [0, 3] (fun x v wr => ∃ (m f : Nat) (done : List Int), x = .int .u64 m ∧ Hid (m ≤ 18446744073709551615) ∧ f ≤ 9 ∧ Hid (m < 128 ^ (f + 1)) ∧ Hid (putL 9 n = done ++ putL f m) ∧ Hid (Gath wr w.heap.size 5 1 v done.length (ivals .u8 done)) ∧ Below w.heap.size w wr) (fun x _ _ => (intOf x).toNat)
  case atStart => exact ⟨n, 9, [], rfl, HH, Nat.le_refl _, HPOW, Lib.hid rfl, Lib.hid (.inl ⟨rfl, rfl, _, rfl⟩), (Below.refl _ _).alloc (Nat.le_refl _) _⟩
  case round =>
    obtain ⟨m, f, done, rfl, hm, hf, hmf, hd, hg, hB⟩ := hrel
    have hlen : done.length ≤ 10 := by
      have h1 := congrArg List.length hd.out
      rw [List.length_append, HL.out] at h1
      omega
    have hsz := hB.size
    by_cases hlt : m < 128
    · have HE := Lib.hid (putL_last (f := f) hlt)
      go_wp2_with (at_builtin; refine wpList_append_gath _ rfl _ _ 45 rfl w.heap.size 5 i0 (.int .u8 0) 1 1 Try.underlying45 HI.out HZ0.out HZ1.out HZ2.out rfl (by decide) _ _ _ rfl (hg.out.alloc _) ⟨wr.heap.size, 0, none⟩ 1 1 [.int .u8 (m : Int)] rfl rfl (cell_one _ _ _) (one_val rfl) (by decide) (by unfold maxLen; omega) (by omega) (by simp; omega) ?_; intro v' w3 hown hbel)
      go_ret
      have e : putF n = done ++ [(m : Int)] := by rw [HP.out, hd.out, HE.out]
      refine ⟨v', rfl, ?_, (hB.alloc hsz _).trans hbel⟩
      rw [e, List.length_append, ivals_snoc]
      exact .inr hown
    · obtain ⟨g, rfl, e1, hmg⟩ := putL_step (f := f) (n := m) (by omega) hmf.out
      have HE := Lib.hid e1
      have HM := Lib.hid hmg
      obtain ⟨c, hc⟩ : ∃ c, m % 128 + 128 = c := ⟨_, rfl⟩
      rw [hc] at HE
      have hsum : (128 : Int) + (m : Int) % 128 = (c : Int) := by omega
      clear e1 hmg hc hmf
      have hge : 128 ≤ m := by omega
      have hmm := hm.out
      have hmd : m / 128 ≤ 18446744073709551615 := by omega
      have HMD := Lib.hid hmd
      have hmi : (m : Int) ≤ 18446744073709551615 := by omega
      clear hmm hmd
      go_wp2_with (at_builtin; refine wpList_append_gath _ rfl _ _ 45 rfl w.heap.size 5 i0 (.int .u8 0) 1 1 Try.underlying45 HI.out HZ0.out HZ1.out HZ2.out rfl (by decide) _ _ _ rfl (hg.out.alloc _) ⟨wr.heap.size, 0, none⟩ 1 1 [.int .u8 (c : Int)] rfl rfl (cell_one _ _ _) (one_val rfl) (by decide) (by unfold maxLen; omega) (by omega) (by simp; omega) ?_; intro v' w3 hown hbel)
      go_roundw
      case rel =>
        refine ⟨m / 128, g, done ++ [(c : Int)], by go_num, HMD, by omega, HM, Lib.hid (by rw [hd.out, HE.out, List.append_assoc]; rfl), Lib.hid (.inr ?_), (hB.alloc hsz _).trans hbel⟩
        rw [List.length_append, ivals_snoc]
        exact hown
      case measure => simp [intOf]; omega
theorem same_yes {B B' : Nat} {w : World} {a a' : Option Addr} {b off b' off' len : Nat} {zs : List Int} (h : IntsAt .u8 B w a b off len zs) (h' : IntsAt .u8 B' w a' b' off' len zs) (cap cap' : Nat) :
    Calls Try.prog 24 #[.slice a len cap, .slice a' len cap'] w fun e w' => e = .returned (.bool true) ∧ w = w' := by
  have h1 := conv_ints h cap
  have h2 := conv_ints h' cap'
  clear h h'
  generalize strOfNums zs = S at *
  go_enter Try.func24, Try.ntmps24
  go_wp2
  go_ret
  exact ⟨rfl, rfl⟩

end Go.Proofs.Ytnkhpmpoemodiaa
