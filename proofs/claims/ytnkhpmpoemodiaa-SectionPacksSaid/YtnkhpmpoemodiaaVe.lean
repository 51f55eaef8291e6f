/- Contracts: a number's bytes, in the program and in the reference. -/
import Derived.Test.YtnkhpmpoemodiaaVd
set_option linter.unusedVariables false
namespace Go.Proofs.Ytnkhpmpoemodiaa
open Go.RowKit

theorem Try.infoU8 : (Try.prog.info? 5).map (fun i => (i.zero, i.size, i.bytes)) = some (some (.int .u8 0), 1, 1) := by kernel_rfl
/-- The call hands back new memory with these bytes, and leaves all else. -/
def BytesPost (w : World) (zs : List Int) (e : Ending) (w' : World) : Prop :=
  ∃ v, e = .returned v ∧ Gath w' w.heap.size 5 1 v zs.length (ivals .u8 zs) ∧ Below w.heap.size w w'

theorem putL_step {f n : Nat} (h : 128 ≤ n) (hf : n < 128 ^ (f + 1)) : ∃ g, f = g + 1 ∧ putL f n = ((n % 128 + 128 : Nat) : Int) :: putL g (n / 128) ∧ n / 128 < 128 ^ (g + 1) := by
  cases f with
  | zero => simp at hf; omega
  | succ g => exact ⟨g, rfl, by simp only [putL]; rw [if_neg (by omega)], by rw [Nat.pow_succ] at hf; omega⟩
theorem putL_last {f n : Nat} (h : n < 128) : putL f n = [(n : Int)] := by
  cases f with
  | zero => rfl
  | succ g => simp only [putL]; rw [if_pos h]
theorem or128 (m : Nat) : bits .or .u8 ((m % 256 : Nat) : Int) 128 = ((m % 128 + 128 : Nat) : Int) := by
  have h : ∀ a : Fin 256, bits .or .u8 (a.val : Int) 128 = ((a.val % 128 + 128 : Nat) : Int) := by decide +kernel
  have := h ⟨m % 256, Nat.mod_lt _ (by decide)⟩
  rw [this]; simp only; omega

set_option maxRecDepth 100000 in
theorem put_any (n : Nat) (w : World) (h : n ≤ 18446744073709551615) :
    Calls Try.prog 79 #[.int .u64 n] w (BytesPost w (putF n)) := by
  obtain ⟨i0, hi, hz0, hz1, hz2⟩ := info_parts Try.infoU8
  have HI := Lib.hid hi
  have HZ0 := Lib.hid hz0
  have HZ1 := Lib.hid hz1
  have HZ2 := Lib.hid hz2
  clear hi hz0 hz1 hz2
  have hl := putL_length 9 n
  have HLEN := Lib.hid (fun w => len_any n w h)
  have HP := Lib.hid (show putF n = putL 9 n from rfl)
  rw [HP.out] at HLEN
  generalize hL : (putL 9 n).length = L at *
  have HL := Lib.hid hL
  clear hL
  go_enter Try.func79, Try.ntmps79
  go_wp2_with (first
    | (go_at_call 100; refine (HLEN.out _).mono ?_; rintro e w' ⟨rfl, rfl⟩)
    | (at_make; refine wpList_make_own _ rfl _ _ 45 rfl w.heap.size 5 i0 (.int .u8 0) 1 Try.underlying45 HI.out HZ0.out HZ1.out .i64 .i64 _ L rfl rfl rfl (by rw [HZ2.out]; omega) (by unfold maxLen; omega) (Nat.le_refl _) ?_; intro w1 hown hgrow))
  have hB0 : Below w.heap.size w w1 := (Below.refl _ w).grown hgrow (Nat.le_refl _) (fun k hk => by cases hk)
  clear hgrow
  have hpow : n < 128 ^ (9 + 1) := by
    have e : (128 : Nat) ^ (9 + 1) = 1180591620717411303424 := by decide
    rw [e]; omega
  have HPOW := Lib.hid hpow
  have HH := Lib.hid h
  clear h
  have HOWN := Lib.hid hown
  clear hpow hown
  go_loopw [0, 3] (fun x v wr => ∃ (m f : Nat) (done : List Int), x = .int .u64 m ∧ Hid (m ≤ 18446744073709551615) ∧ f ≤ 9 ∧ Hid (m < 128 ^ (f + 1)) ∧ Hid (putL 9 n = done ++ putL f m) ∧ Hid (Gath wr w.heap.size 5 1 v done.length (ivals .u8 done)) ∧ Below w.heap.size w wr) (fun x _ _ => (intOf x).toNat)
  case atStart => exact ⟨n, 9, [], rfl, HH, Nat.le_refl _, HPOW, Lib.hid rfl, Lib.hid (.inr HOWN.out), hB0⟩
  case round =>
    obtain ⟨m, f, done, rfl, hm, hf, hmf, hd, hg, hB⟩ := hrel
    have hlen : done.length ≤ 10 := by
      have h1 := congrArg List.length hd.out
      rw [List.length_append, HL.out] at h1
      omega
    have hsz := hB.size
    by_cases hlt : m < 128
    · have HE := Lib.hid (putL_last (f := f) hlt)
      go_wp2_with (at_builtin; refine wpList_append_gath _ rfl _ _ 45 rfl w.heap.size 5 i0 (.int .u8 0) 1 1 Try.underlying45 HI.out HZ0.out HZ1.out HZ2.out rfl (by decide) _ _ _ rfl (hg.out.alloc _) ⟨wr.heap.size, 0, none⟩ 1 1 [.int .u8 (m : Int)] rfl rfl (cell_one _ _ _) (one_val rfl) (by decide) (by unfold maxLen; omega) (by omega) (by simp; omega) ?_; intro v' w3 hown hbel)
      go_ret
      have e : putF n = done ++ [(m : Int)] := by rw [HP.out, hd.out, HE.out]
      refine ⟨v', rfl, ?_, (hB.alloc hsz _).trans hbel⟩
      rw [e, List.length_append, ivals_snoc]
      exact .inr hown
    · obtain ⟨g, rfl, e1, hmg⟩ := putL_step (f := f) (n := m) (by omega) hmf.out
      have HE := Lib.hid e1
      have HM := Lib.hid hmg
      obtain ⟨c, hc⟩ : ∃ c, m % 128 + 128 = c := ⟨_, rfl⟩
      have hor := or128 m
      rw [hc, Int.natCast_emod] at hor
      rw [hc] at HE
      have hor2 : bits .or .u8 ((m : Int) % 256) 128 = (c : Int) := hor
      clear e1 hmg hc hor hmf
      have hge : 128 ≤ m := by omega
      have hmm := hm.out
      have hmd : m / 128 ≤ 18446744073709551615 := by omega
      have HMD := Lib.hid hmd
      clear hmm hmd
      go_wp2_with (at_builtin; refine wpList_append_gath _ rfl _ _ 45 rfl w.heap.size 5 i0 (.int .u8 0) 1 1 Try.underlying45 HI.out HZ0.out HZ1.out HZ2.out rfl (by decide) _ _ _ rfl (hg.out.alloc _) ⟨wr.heap.size, 0, none⟩ 1 1 [.int .u8 (c : Int)] rfl rfl (cell_one _ _ _) (one_val rfl) (by decide) (by unfold maxLen; omega) (by omega) (by simp; omega) ?_; intro v' w3 hown hbel)
      go_roundw
      case rel =>
        refine ⟨m / 128, g, done ++ [(c : Int)], by go_num, HMD, by omega, HM, Lib.hid (by rw [hd.out, HE.out, List.append_assoc]; rfl), Lib.hid (.inr ?_), (hB.alloc hsz _).trans hbel⟩
        rw [List.length_append, ivals_snoc]
        exact hown
      case measure => simp [intOf]; omega
end Go.Proofs.Ytnkhpmpoemodiaa
