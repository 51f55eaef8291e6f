/- Contracts of the reference for layer 3: four bytes, a text. -/
import Derived.Test.YtnkhpmpoemodiaaJo
set_option linter.unusedVariables false
namespace Go.Proofs.Ytnkhpmpoemodiaa
open Go.RowKit

def fixM (n : Int) : Nat → Int
  | 0 => n
  | 1 => n / 256
  | 2 => n / 65536
  | 3 => n / 16777216
  | _ => n / 4294967296
theorem fixM_bd {n : Int} (h0 : 0 ≤ n) (h1 : n ≤ 4294967295) (k : Nat) : 0 ≤ fixM n k ∧ fixM n k ≤ 4294967295 := by
  unfold fixM; split <;> omega
theorem fixM_step {n : Int} (k : Nat) (hk : k < 4) : fixM n k / 256 = fixM n (k + 1) := by
  have : k = 0 ∨ k = 1 ∨ k = 2 ∨ k = 3 := by omega
  rcases this with rfl | rfl | rfl | rfl <;> simp only [fixM] <;> omega
theorem fixF_take {n : Int} (k : Nat) (hk : k < 4) : (fixF n).take (k + 1) = (fixF n).take k ++ [fixM n k % 256] := by
  have : k = 0 ∨ k = 1 ∨ k = 2 ∨ k = 3 := by omega
  rcases this with rfl | rfl | rfl | rfl <;> simp [fixM, fixF]
set_option maxRecDepth 100000 in
theorem rfix3_any (n : Int) (w : World) (h0 : 0 ≤ n) (h1 : n ≤ 4294967295) :
    Calls Try.prog 62 #[.int .u32 n] w (BytesPost w (fixF n)) := by
  obtain ⟨i0, hi, hz0, hz1, hz2⟩ := info_parts Try.infoU8
  have HI := Lib.hid hi
  have HZ0 := Lib.hid hz0
  have HZ1 := Lib.hid hz1
  have HZ2 := Lib.hid hz2
  clear hi hz0 hz1 hz2
  have HBD := Lib.hid (fixM_bd h0 h1)
  have HMADE : Hid (Gath (w.alloc (.cells #[] 5)) w.heap.size 5 1 (.slice (some ⟨w.heap.size, 0, none⟩) 0 0) 0 []) := Lib.hid (.inr (World.ownsRow_made w #[] 0 (Nat.le_refl _) (Nat.zero_le _) rfl))
  clear h0 h1
  go_enter Try.func62, Try.ntmps62
  go_wp2
  go_loopw [0, 3, 4] (fun x v i wr => ∃ (vv : Value) (k : Nat) (m : Int), vv = v ∧ k ≤ 4 ∧ i = .int .i64 k ∧ x = .int .u32 m ∧ Hid (m = fixM n k) ∧ Hid (Gath wr w.heap.size 5 1 vv k (ivals .u8 ((fixF n).take k))) ∧ Below w.heap.size w wr) (fun _ _ i _ => 4 - (intOf i).toNat)
  case atStart => exact ⟨_, 0, n, rfl, by omega, rfl, rfl, Lib.hid rfl, HMADE, (Below.refl _ _).alloc (Nat.le_refl _) _⟩
  case round =>
    obtain ⟨vv, k, m, rfl, hk, rfl, rfl, hm, hg, hB⟩ := hrel
    have hmb : 0 ≤ m ∧ m ≤ 4294967295 := by rw [hm.out]; exact HBD.out k
    by_cases hlt : k < 4
    · have hsz := hB.size
      have HS : Hid (m / 256 = fixM n (k + 1)) := Lib.hid (by rw [hm.out]; exact fixM_step k hlt)
      have HT : Hid ((fixF n).take (k + 1) = (fixF n).take k ++ [m % 256]) := Lib.hid (by rw [hm.out]; exact fixF_take k hlt)
      go_wp2_with (at_builtin; refine wpList_append_gath _ rfl _ _ 45 rfl w.heap.size 5 i0 (.int .u8 0) 1 1 Try.underlying45 HI.out HZ0.out HZ1.out HZ2.out rfl (by decide) _ _ _ rfl (hg.out.alloc _) ⟨wr.heap.size, 0, none⟩ 1 1 [.int .u8 (m % 256)] rfl rfl (cell_one _ _ _) (one_val rfl) (by decide) (by unfold maxLen; omega) (by omega) (by simp; omega) ?_; intro v' w3 hown hbel)
      go_roundw
      case rel =>
        refine ⟨_, k + 1, m / 256, rfl, by omega, by go_num, by go_num, HS, Lib.hid (.inr ?_), (hB.alloc hsz _).trans hbel⟩
        rw [HT.out, ivals_snoc]
        exact hown
      case measure => simp [intOf]; omega
    · obtain rfl : k = 4 := by omega
      have HE : Hid (BytesPost w (fixF n) (.returned vv) wr) := Lib.hid ⟨vv, rfl, hg.out, hB⟩
      clear hg hB hm
      go_wp2
      go_ret
      exact HE.out
theorem rtext3_any (s : ByteArray) (w : World) (hs : s.size ≤ 800) :
    Calls Try.prog 52 #[.string s] w (BytesPost w (putF s.size ++ strI s)) := by
  have HP := Lib.hid (rput_any s.size w (by omega))
  have hl : (putF s.size).length ≤ 10 := (putL_length 9 s.size).2
  have HPW := Lib.hid (put_wf s.size (by omega))
  go_enter Try.func52, Try.ntmps52
  go_wp2_with fail
  refine HP.out.mono ?_
  rintro e w1 ⟨v, rfl, hg, hB⟩
  obtain ⟨a5, cap5, b5, rfl, hc1, hc2, hb5, HI⟩ := hg.ints rfl HPW.out
  have hnil5 : a5 = none → (putF s.size).length = 0 ∧ cap5 = 0 := by
    intro e
    have hpos := (putL_length 9 s.size).1
    exfalso
    have h1 : a5 = some ⟨b5, 0, none⟩ := HI.addr.resolve_left (by unfold putF; omega)
    rw [h1] at e; cases e
  obtain ⟨cap, w2, hconv, hcap, hI, hB2⟩ := bytes_of w1 s (by unfold maxLen; omega)
  obtain ⟨pl, hpl⟩ : ∃ pl, (putF s.size).length = pl := ⟨_, rfl⟩
  have HPC : Hid (PcAt w2 ⟨a5, cap5, b5, 0, putF s.size⟩ ∧ PcAt w2 ⟨some ⟨w1.heap.size, 0, none⟩, cap, w1.heap.size, 0, strI s⟩) := Lib.hid ⟨⟨(HI.kept hB2 (Nat.le_refl _)).mono hB2.size, hnil5, hc1⟩, ⟨by rw [strI_length]; exact hI, (fun e => by cases e), by rw [strI_length]; exact hcap⟩⟩
  have HB2 := Lib.hid (hB.trans (hB2.mono hB.size))
  rw [hpl] at hl hc1 ⊢
  have HL := Lib.hid hpl
  clear hg hb5 HI hnil5 hI hB hB2 hc2 hpl
  have HJ := Lib.hid (join2_any w2 w2.heap.size pl s.size _ _ HPC.out.1 HPC.out.2 HL.out (strI_length s) rfl (by omega) (by omega))
  go_wp2_with fail
  refine HJ.out.mono ?_
  rintro e w3 ⟨v, rfl, hg, hB3⟩
  have HE : Hid (BytesPost w (putF s.size ++ strI s) (.returned v) w3) := Lib.hid ⟨v, rfl, gath_base hg HB2.out.size, HB2.out.trans (hB3.mono HB2.out.size)⟩
  clear hg hB3
  go_wp2
  go_ret
  exact HE.out
end Go.Proofs.Ytnkhpmpoemodiaa
